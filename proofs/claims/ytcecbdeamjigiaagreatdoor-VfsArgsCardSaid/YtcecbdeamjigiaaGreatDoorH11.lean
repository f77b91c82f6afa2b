/- Lemmas. -/
import Derived.Test.YtcecbdeamjigiaaGreatDoorH10
import Derived.Test.YtcecbdeamjigiaaGreatDoorH09
import Derived.Lib.AppendZerosOnto
set_option maxHeartbeats 8000000
set_option maxRecDepth 100000
namespace Go.Proofs.YtcecbdeamjigiaaGreatDoor
open Go.RowKit
variable{E:List (ByteArray×Int)}{B X l:List Int}{G b g i k m:Nat}{n:bM}{own:List Nat}{w:World}{ps:List (Int×Int)}{v:Value}{x:Int}{P:Program}
theorem lH:∀a:List UInt8,Op.bytesLess a a=false
 | []=>rfl
 |a::x=>by
  have h:¬a<a:=by rw[fo];omega
  simp[Op.bytesLess,lH x,h]
theorem oO:∀a b:List UInt8,Op.bytesLess a b=false->a≠b->Op.bytesLess b a=true
 | [],[],_,h=>absurd rfl h
 |_::_,[],_,_=>rfl
 | [],_::_,h,_=>by simp[Op.bytesLess] at h
 |a::x,b::y,h,hne=>by
  simp only[Op.bytesLess,Bool.or_eq_false_iff,Bool.and_eq_false_iff,decide_eq_false_iff_not,cg] at h;simp only[Op.bytesLess,Bool.or_eq_true,fy,decide_eq_true_eq,beq_iff_eq];by_cases e:a=b
  ·subst e
   refine .inr ⟨rfl,oO x y ?_ (λz=>hne (by rw[z]))⟩;exact h.2.resolve_left λG=>G rfl
  ·left
   have J:=h.1;rw[fo] at J ⊢;have :a.toNat≠b.toNat:=λh=>e (UInt8.toNat_inj.1 h)
   omega
theorem lh:∀a b c:List UInt8,Op.bytesLess a b=true->Op.bytesLess b c=true->Op.bytesLess a c=true
 |_,_,[],_,h=>by simp[Op.bytesLess] at h
 | [],_,_::_,_,_=>rfl
 |_::_,[],_::_,h,_=>by simp[Op.bytesLess] at h
 |a::x,b::y,c::z,J,G=>by
  simp only[Op.bytesLess,Bool.or_eq_true,fy,decide_eq_true_eq,beq_iff_eq] at J G ⊢;rw[fo] at *;rcases J with J|⟨rfl,J⟩
  ·rcases G with G|⟨rfl,G⟩
   ·left;omega
   ·left;exact J
  ·rcases G with G|⟨rfl,G⟩
   ·left;exact G
   ·exact .inr ⟨rfl,lh x y z J G⟩
theorem B9 (h:∀k,k<E.length->0<k->RD (eh E k) (eh E (k-1))=false):∀k j,j<k->k<E.length->Op.bytesLess (eh E j).toList (eh E k).toList=true:=by
 intro k;induction k with
 |zero=>intro j J;omega
 |succ k ih=>
  intro j J G;have y:=h (k+1) G (by omega);unfold RD at y;rw[Bool.or_eq_false_iff,fw] at y;have z:Op.bytesLess (eh E k).toList (eh E (k+1)).toList=true:=oO _ _ y.1 (by simpa using y.2);by_cases e:j=k
  ·subst e;exact z
  ·exact lh _ _ _ (ih j (by omega) (by omega)) z
theorem IP (h:∀k,k<E.length->0<k->RD (eh E k) (eh E (k-1))=false){j k:Nat}(z:j<k)(y:k<E.length):eh E j≠eh E k:=λe=>by
 have :=B9 h k j z y;rw[e,lH] at this;cases this
theorem IQ{l:List Nat}(h:fN l=true):72057594037927936<=iY l:=by
 unfold iY;rw[aB h,nH];have :=(ml h).1;omega
theorem yz (k:Nat):(l.drop 5).getD k 0=l.getD (5+k) 0:=by
 rw[aj,bX,aj]
theorem Le{c:Nat}(h:k<c)(y:c<=l.length):((l.take c).map Int.toNat).getD k 0=(l.getD k 0).toNat:=by
 rw[aj,bD,bN,aB h,aj,aD (by omega)];rfl
theorem OQ (eT:dD X){q:Nat}(h:j5 X (dy X q)):
  bP (kW X (dy X q))/\(kW X (dy X q)).F=1/\(kW X (dy X q)).B.length=13/\(Al X (dy X q)).length=dX (kW X (dy X q))/\(∀c∈Al X (dy X q),c≠0/\c<256)/\(Al X (dy X q)).Nodup/\B7 X q (kW X (dy X q)) (Al X (dy X q)):=by
 obtain⟨ae,hS,av,hF,hR,af⟩:=h;have sI:=fQ X q;have sr:dD (dy X q):=λj=>by
  by_cases hj:j<8
  ·rw[iJ _ _ _ hj];exact eT _
  ·rw[aj,aO (by rw[sI];omega)]
   simp
 have rq:=B4 eT sr sI ae;have lR:=rp (X:=X) sI;have NU:cM X (dy X q)=((dy X q).drop 2).take 5++(if (dy X q).getD 7 0=0 then List.replicate 8 0 else dy X (1080+8*((dy X q).getD 7 0).toNat)):=rfl;have VI:(cM X (dy X q)).drop 5=if (dy X q).getD 7 0=0 then List.replicate 8 0 else dy X (1080+8*((dy X q).getD 7 0).toNat):=by
  rw[NU,List.drop_append_of_le_length (by simp[sI]),dm (by simp[sI])];rfl
 have aN:=ae.1;have ai:=(sr 7).1;have OS:=ae.2.2;clear NU ae;have Z:kW X (dy X q)=if (gq (dy X q)).K=2 then { gq (dy X q) with E:=oG X (cM X (dy X q)) ((dy X q).getD 1 0).toNat } else { gq (dy X q) with B:=cM X (dy X q) }:=rfl
 have U:Al X (dy X q)=(if (gq (dy X q)).K=2 then ((cM X (dy X q)).take (aZ ((dy X q).getD 1 0).toNat)).map Int.toNat else [])++(if (dy X q).getD 7 0=0 then [] else [((dy X q).getD 7 0).toNat]):=rfl;have aw:(gq (dy X q)).B=List.replicate 13 0:=rfl;have ar:(gq (dy X q)).E=[]:=rfl;generalize hn:kW X (dy X q)=n at *;generalize XD:Al X (dy X q)=own at *;generalize aQ:cM X (dy X q)=l at *;generalize aR:(dy X q).getD 7 0=J at *;generalize aJ:((dy X q).getD 1 0).toNat=m at *;generalize ah:dy X q=r at *;have aG:aZ ([]:List (ByteArray×Int)).length=0:=by decide
 by_cases hK:(gq r).K=2
 · -- a directory
  rw[aB hK] at Z U;obtain⟨aP,az,V9⟩:=av hK;have ac:n.E=oG X l m:=by rw[Z]
  have V:n.E.length=m:=by rw[ac,mB]
  have SF:n.B=List.replicate 13 0:=by rw[Z];exact aw
  have aL:n.K=2:=by rw[Z];exact hK
  have aH:aZ m<=6:=by unfold aZ;omega
  have ag:∀k,aZ m<=k->l.getD k 0=0:=λk z=>by
   rw[az,n4 lR (by omega),aA (by omega)]
  have IM:lM n:=by
   rcases hR.2.2 with h|h
   ·have :=h.1;omega
   ·exact h.2
  have aa:((l.take (aZ m)).map Int.toNat).length=aZ m:=by rw[bJ,aI,lR];omega
  have G:own.length=aZ m+(if J=0 then 0 else 1):=by
   rw[U,aF,aa];split<;>rfl
  have lZ:∀k,k<aZ m->own.getD k 0=(l.getD k 0).toNat:=λk z=>by
   rw[U,aj,aW (by rw[aa];exact z),<-aj,Le z (by rw[lR];omega)]
  have MU:J≠0->own.getD (aZ m) 0=J.toNat:=λy=>by
   rw[U,aj,aM (by rw[aa];omega),aa,iT,aA y];rfl
  have wh:ew n own=J.toNat:=by
   unfold ew;rw[V];by_cases y:J=0
   ·rw[aA (by rw[G,aB y];omega),y];rfl
   ·rw[aB (by rw[G,aA y];omega),MU y]
  have IU:dw n own=l:=by
   have Ir:aZ n.E.length<=own.length:=by rw[V,G];omega
   refine zk (by rw[qo (by rw[SF];rfl) (by rw[V];omega) Ir,lR]) λk _=> ?_
   rw[qp Ir,V];split
   ·rename_i z
    rw[lZ k z,fW (rq k).1]
   ·rename_i z
    rw[ag k (by omega),SF,aj,aY];split<;>rfl
  have aq:J≠0↔5<aZ m:=by
   constructor
   ·intro y
    have h1:=OS.resolve_left y;rcases dr 5 (aZ m) with h|h
    ·exact h
    ·refine absurd (zk (by rw[bu,lR];rfl) λk _=> ?_) h1
     rw[yz,ag _ (by omega),aj,aY];split<;>rfl
   ·intro h5 y
    rw[aB y] at VI;have h1:=(V9 5 h5).1;have h2:(l.drop 5).getD 0 0=0:=by rw[VI];rfl
    rw[yz] at h2;exact h1 h2
  have qm:dX n=own.length:=by
   unfold dX;rw[V,G];by_cases y:J=0
   ·rw[aA,aB y]
    ·rfl
    ·intro h
     rcases h with h|h
     ·exact aq.2 h y
     ·exact h (by rw[SF];rfl)
   ·rw[aB (.inl (aq.1 y)),aA y]
  have Am:∀c∈own,c≠0/\c<256:=λc hc=>by
   obtain⟨k,z,rfl⟩:=bR hc;have e:own[k]=own.getD k 0:=by rw[aj,aD z];rfl
   rw[e];by_cases vB:k<aZ m
   ·rw[lZ k vB]
    have :=(V9 k vB).1;have :=rq k;omega
   ·rw[G] at z
    split at z
    ·omega
    ·rename_i y
     rw[show k=aZ m by omega,MU y];omega
  have W:∀k,k<aZ m->dy X (1080+8*own.getD k 0)=fT n.E k:=λk z=>by
   rw[lZ k z,ac];exact(V9 k z).2.2.symm
  have X0:J≠0->dy X (1080+8*J.toNat)=l.drop 5:=λy=>by rw[VI,aA y]
  have tv:∀k,k<aZ m->(fT n.E k).getD 0 0=((iY (bl (eh n.E (4*k))):Nat):Int)/\4*k<n.E.length:=λk z=>by
   have aK:4*k<m:=by unfold aZ at z;omega
   refine⟨?_,by omega⟩;unfold fT;rw[my _ _ _ _ (by omega),aB (by omega),FT,aB (by omega)];rfl
  have ax:=λk z (y:0<k)=>(IM.2.2.2 k z).2.2 y
  refine⟨hR,by rw[Z];exact hF,by rw[SF];rfl,qm.symm,Am,?_,?_⟩
  ·rw[List.nodup_iff_pairwise_ne,cz]
   intro i j hi hj OT e;have ei:own[i]=own.getD i 0:=by rw[aj,aD hi];rfl
   have ej:own[j]=own.getD j 0:=by rw[aj,aD hj];rfl
   rw[ei,ej] at e;have ap:i<aZ m:=by rw[G] at hj;split at hj<;>omega
   obtain⟨f1,f2⟩:=tv i ap;have b1:=W i ap;have g1:=(IM.2.2.2 (4*i) f2).1;by_cases ak:j<aZ m
   ·obtain⟨f3,f4⟩:=tv j ak
    have b2:=W j ak;rw[e,b2] at b1;rw[b1,f1] at f3;have g2:=(IM.2.2.2 (4*j) f4).1;have hw:iY (bl (eh n.E (4*i)))=iY (bl (eh n.E (4*j))):=by omega
    unfold iY at hw;rw[aB g1,aB g2] at hw;have n1:=lq g1 (wO _);have n2:=lq g2 (wO _);rw[hw,n2] at n1;exact IP ax (show 4*i<4*j by omega) f4 (FC (Option.some.inj n1)).symm
   ·have y:J≠0:=λy=>by rw[G,aB y] at hj;omega
    have ay:j=aZ m:=by rw[G,aA y] at hj;omega
    rw[ay,MU y] at e;rw[e,X0 y] at b1;have :=IQ g1;rw[<-b1,yz] at f1;have :=rq (5+0);omega
  ·refine⟨by rw[IU,wh,fW ai,af,ah],λk z=> ?_⟩
   unfold ownRow;rw[V,IU];split
   ·rename_i vB
    exact W k vB
   ·rename_i vB
    have y:J≠0:=λy=>by rw[G,aB y] at z;omega
    have aC:k=aZ m:=by rw[G,aA y] at z;omega
    rw[aC,MU y,X0 y]
 · -- a file
  rw[aA hK] at Z U;have ac:n.E=[]:=by rw[Z];exact ar
  have V:aZ n.E.length=0:=by rw[ac];exact aG
  have SF:n.B=l:=by rw[Z]
  have G:own=if J=0 then [] else [J.toNat]:=by rw[U,bW]
  have IU:dw n own=l:=by
   unfold dw;rw[V,SF];rfl
  have wh:ew n own=J.toNat:=by
   unfold ew;rw[V];by_cases y:J=0
   ·rw[G,aB y,aA (by simp),y];rfl
   ·rw[G,aA y,aB (by simp)];rfl
  refine⟨hR,by rw[Z];exact hF,by rw[SF,lR],?_,?_,?_,?_⟩
  ·unfold dX
   rw[V,SF];by_cases y:J=0
   ·rw[aB y] at VI
    rw[G,aB y,aA]
    ·rfl
    ·intro h
     rcases h with h|h
     ·omega
     ·exact h VI
   ·rw[G,aA y,aB (.inr (OS.resolve_left y))]
    rfl
  ·rw[G]
   split
   ·simp
   ·rename_i y
    intro c hc;rw[au] at hc;omega
  ·rw[G]
   split<;>simp
  ·refine⟨by rw[IU,wh,fW ai,af,ah],λk z=> ?_⟩
   unfold ownRow;rw[V,IU,aA (by omega)];have y:J≠0:=λy=>by rw[G,aB y] at z;simp at z
   rw[G,aA y] at z ⊢;obtain rfl:k=0:=by simpa using z
   show dy X (1080+8*J.toNat)=_;rw[VI,aA y]
def rz (w:World) (b y:Nat) (B:List Int) (ps:List (Int×Int)) (i:Int) (n:bM) (e:Ending) (w':World):Prop:=
 ∃r qs h,e= .returned (.int .i64 r)/\(h=y\/(w.heap.size<=h/\h<w'.heap.size))/\eF w' b h B (ps++qs)/\ay [b,y] w w'/\qs.length<=200/\
  ((r=1/\¬Dv i n/\qs=[])\/(r=7/\Dv i n/\(bb (az B ps)).length<dX n/\qs=[])\/
   (r=0/\Dv i n/\dX n<=(bb (az B ps)).length/\qs=l9 (az B ps) i.toNat n ((bb (az B ps)).take (dX n))))
theorem oP:∀c∈(bb X).take m,c≠0/\c<256:=λc h=>by
 have :=iX.1 (bA h);exact⟨this.2.1,this.1⟩
theorem qu:((bb X).take m).Nodup:=List.Sublist.nodup (List.take_sublist _ _) (nQ X 256)
theorem rA (h:m<=(bb X).length):((bb X).take m).length=m:=by rw[aI,cy h]
theorem OU (y:aZ n.E.length<=6)(h:∀c∈own,c≠0/\c<256)(z:own.length<=7):(l9 X i n own).length<=200:=by
 unfold l9 rr mG;rw[aF,aF,aF,oA _ _ h,ub,mA];split
 ·rw[mA];omega
 ·simp only[cp];omega
theorem Wa (h:eF w b G B ps)(eT:dD (az B ps))(hT:kI w)(Df:G<w.heap.size)(pn:ps.length<=800000)(i:Int)(n:bM)(v:Value)(g:Nat)(U:n.B.length=13)(Z:bz w v g n.E)
  (W:∀k,k<n.E.length->(eh n.E k).size<=9223372036854775807) (ue:n.E.length≠0->g≠b/\g≠G):
  Calls Tryz.prog 169 #[.pointer (some ⟨b,0,none⟩),.int .i64 i,.agg (aU n v)] w (rz w b G B ps i n):=by
 by_cases z:Dv i n
 ·by_cases J:dX n<=(bb (az B ps)).length
  ·refine(Zt h eT hT Df pn i n v g U Z W z ue J).mono λe w' y=> ?_
   obtain⟨y,gA,h1,h2,h3⟩:=y;have V:=iA z.2.2;have MM:=ry n;exact⟨0,_,gA,y,h1,h2,h3,OU V.2.1 oP (by rw[rA J];omega),.inr (.inr ⟨rfl,z,J,rfl⟩)⟩
  ·refine(OC h eT i n v g U Z W z (by omega)).mono λe w' y=> ?_
   exact⟨7,[],G,y.1,.inl rfl,by rw[bq];exact h.keep y.2 (by simp) (by simp),y.2.mono (by simp),by simp,.inr (.inl ⟨rfl,z,by omega,rfl⟩)⟩
 ·refine(VU i n v g U Z W z).mono λe w' y=> ?_
  exact⟨1,[],G,y.1,.inl rfl,by rw[bq];exact h.keep y.2 (by simp) (by simp),y.2.mono (by simp),by simp,.inl ⟨rfl,z,rfl⟩⟩
theorem ug{h:Array Value}(z:bm w g h 110)(J:h.size=18)(y:n.B.length=13){v:Value}(G:v.oneCell'=true):
  ∃w',(storeVar 110 ⟨g,0,none⟩ (.agg (aU n v))).run Tryz.prog w= .ok () w'/\bm w' g (aU n v) 110/\ay [g] w w':=
 br (P:= Tryz.prog) (ty:= 110) (cs:=lL n v) (by rw[fC,y];exact gZ) z (by rw[J,fC,y]) (jg G)
theorem qw (h:bz w v g E):v.oneCell'=true:=by
 obtain⟨a,cap,rfl,-⟩:=h;rfl
theorem SS (W:dD X)(z:X.length=3128){i:Int}{n:bM}(G:n.B.length=13)(y:Dv i n)(J:dX n<=(bb X).length):
  B7 (az X (l9 X i.toNat n ((bb X).take (dX n)))) (824+8*i.toNat) n ((bb X).take (dX n))/\dD (az X (l9 X i.toNat n ((bb X).take (dX n))))/\
  (∀k,820<=k->¬(824+8*i.toNat<=k/\k<824+8*i.toNat+8)->¬(1080<=k/\(k-1080)/8∈(bb X).take (dX n))->(az X (l9 X i.toNat n ((bb X).take (dX n)))).getD k 0=X.getD k 0):=by
 have h:=iA y.2.2;have MM:=ry n;have nM:=rA J;have hi:=y.1;refine⟨?_,aac W z G y.2.2 (by omega) oP,λk V Z U=>OL (by omega) oP V U (by omega)⟩;unfold l9;rw[bo];exact SK (by rw[bO,z]) _ (by omega) G h.2.1 (by omega) (by omega) qu oP
theorem dD.of_mem(h:∀x,x∈l->0<=x/\x<18446744073709551616):dD l:=λi=>by
 rw[aj];by_cases y:i<l.length
 ·rw[aD y]
  exact h _ (bp y)
 ·rw[aO (by omega)]
  simp
theorem IV (l:List Int):∀f e,lA l f e<=e+f
 |0,e=>aG _
 |f+1,e=>by
  unfold lA;split
  ·have :=IV l f (e+1);omega
  ·omega
theorem Cb {l:List Int}{x:Int}:∀{k:Nat},x∈eA l k->∃j,j<k/\oC l j/\x=p9 j (l.getD j 0) (nL l j)
 |0,h=>by simp[eA] at h
 |k+1,h=>by
  unfold eA at h;split at h
  ·rename_i hs
   rcases aP.1 h with h|h
   ·obtain⟨j,z,y⟩:=Cb h
    exact⟨j,by omega,y⟩
   ·rw[au] at h
    exact⟨k,by omega,hs,h⟩
  ·obtain⟨j,z,y⟩:=Cb h
   exact⟨j,by omega,y⟩
theorem AK (h:x∈eB l):0<=x/\x<9223372036854775808:=by
 obtain⟨j,J,z,rfl⟩:=Cb h;have y:=z.1;have G:=IV l 13 (j+1);unfold zn at y;unfold p9 nL;omega
theorem Lf (y:∀c∈own,c≠0/\c<256)(k:Nat):own.getD k 0<256:=by
 by_cases h:k<own.length
 ·exact(y _ (ia h)).2
 ·rw[aj,aO (by omega)]
  decide
theorem Wb (U:bP n)(J:∀c∈own,c≠0/\c<256):dD (kR n own):=by
 obtain⟨t1,t2,Z,W⟩:=py U;have G:0<=lN n/\lN n<18446744073709551616:=by unfold lN;omega
 have z:0<=n.S/\n.S<18446744073709551616:=by omega
 refine dD.of_mem λx h=> ?_
 unfold kR at h;split at h
 ·have y:∀q,0<=vD n.E own 4 0 q/\vD n.E own 4 0 q<18446744073709551616:=λq=>by
   unfold vD hdD;have V:=Lf J (eL n.E q);split
   ·split<;>omega
   ·split<;>omega
  simp only[BV,nC,aS,aV,bL] at h;rcases h with rfl|rfl|rfl|rfl|rfl|rfl|rfl|rfl
  ·exact G
  ·exact z
  ·exact y 0
  ·exact y 1
  ·exact y 2
  ·exact y 3
  ·omega
  ·omega
 ·unfold ke at h
  split at h
  ·rcases aS.1 h with rfl|h
   ·exact G
   ·rcases aS.1 h with rfl|h
    ·exact z
    ·rcases aP.1 h with h|h
     ·have :=AK h;omega
     ·have :=gN h;omega
  ·rcases aS.1 h with rfl|h
   ·exact G
   ·rcases aS.1 h with rfl|h
    ·exact z
    ·rcases aP.1 h with h|h
     ·have :=AK (bA h);omega
     ·rw[au] at h
      have :=Lf J 0;omega
theorem Lg (hR:bP n)(hm:∀c∈own,c≠0/\c<256)(m:Nat):dD ((fh n own).getD m []):=by
 by_cases z:m<(fh n own).length
 ·unfold fh at z ⊢
  split at z
  ·rename_i hK
   rw[aB hK];have J:lM n:=(hR.2.2.resolve_left (λh=>by have :=h.1;omega)).2;rw[lG] at z;obtain⟨b,j,U,hj,rfl⟩:=qh n.E z;rw[oa n.E own hj U];intro y;cases y with
   |zero=>
    show 0<=(if j+1<dN n.E b then ((own.getD (eL n.E b+(j+1)) 0:Nat):Int) else 0)/\(if j+1<dN n.E b then ((own.getD (eL n.E b+(j+1)) 0:Nat):Int) else 0)<_;have :=Lf hm (eL n.E b+(j+1));split<;>omega
   |succ y=>
    rw[Sd,lF];by_cases W:y<7
    ·rw[IB _ _ _ W]
     split
     ·rename_i hc
      split
      ·have :=IK (eh (dA n.E b) (3*j+y/2));omega
      ·obtain⟨k,Z,-,V⟩:=AH hc.1
       rw[V];have :=(J.2.2.2 k Z).2.1;omega
     ·omega
    ·rw[aj,aO (by rw[iZ,kF];omega)]
     simp
  ·rename_i hK
   rw[aA hK];unfold iF at *;split
   ·simp[dD]
   ·refine dD.of_mem λx G=> ?_
    rename_i h6
    rw[aA h6] at z;obtain rfl:m=0:=by simpa using z
    have G:x∈(eB n.B).drop 5++List.replicate (13-(eB n.B).length) 0:=G;rcases aP.1 G with G|G
    ·have :=AK (fL G);omega
    ·have :=gN G;omega
 ·rw[aj,aO (by omega)]
  simp[dD]
theorem qx{p:Int×Int}{Ls:List (List Int)}(h:p∈pz Ls own k):∃m j,m<k/\j<8/\p.1.toNat=1080+8*own.getD m 0+j/\p.2=(Ls.getD m []).getD j 0:=by
 unfold pz at h;obtain⟨m,y,h⟩:=List.mem_flatMap.1 h;rw[bS] at y;obtain⟨j,J,G,z⟩:=jD h;exact⟨m,j,y,J,G,z⟩
theorem Wc (y:X.length=3128){Ls:List (List Int)}{own:List Nat}(J:∀m,m<own.length->(Ls.getD m []).length=8)(G:own.Nodup)(z:∀c∈own,c≠0/\c<256):∀k,k<=own.length->∀m,m<k->dy (az X (pz Ls own k)) (1080+8*own.getD m 0)=Ls.getD m []:=by
 intro k;induction k with
 |zero=>intro _ m h;omega
 |succ k ih=>
  intro W m Z;have U:=z _ (ia (show k<own.length by omega));have V:=z _ (ia (show m<own.length by omega));rw[vG,bo];by_cases e:m=k
  ·subst e
   exact mZ (by rw[bO,y]) _ (by omega) (J m (by omega))
  ·have :own.getD m 0≠own.getD k 0:=λh=>e (getD_inj G (by omega) (by omega) h)
   rw[na (by rw[bO,y]) _ _ (by omega) (by omega)];exact ih (by omega) m (by omega)
theorem OV (eT:dD X)(J:X.length=3128){i:Int}{n:bM}(G:tE i n)(hn:dU n<=(bb X).length):
  ma (az X (j4 X i.toNat n ((bb X).take (dU n)))) (dy (az X (j4 X i.toNat n ((bb X).take (dU n)))) (824+8*i.toNat)) n ((bb X).take (dU n))/\dD (az X (j4 X i.toNat n ((bb X).take (dU n))))/\
  (∀k,820<=k->¬(824+8*i.toNat<=k/\k<824+8*i.toNat+8)->¬(1080<=k/\(k-1080)/8∈(bb X).take (dU n))->(az X (j4 X i.toNat n ((bb X).take (dU n)))).getD k 0=X.getD k 0):=by
 have nM:=rA hn;have hi:=G.1;have z:∀c∈(bb X).take (dU n),c≠0/\c<256:=oP;have EA:((bb X).take (dU n)).Nodup:=qu;generalize (bb X).take (dU n)=own at *;have h8:∀m,m<own.length->((fh n own).getD m []).length=8:=λm U=>ru (by rw[tD G.2.2 nM];exact U)
 refine⟨?_,?_,λk hk h1 W=> ?_⟩
 ·unfold j4
  rw[bo,bo];refine⟨λm U=> ?_,(mZ (by rw[bO,bO,J]) _ (by omega) (xc n own)).symm⟩;have J5:=z _ (ia U);rw[na (by rw[bO,bO,J]) _ _ (by omega) (by omega)];exact(Wc (by rw[bO,J]) h8 EA z _ (aG _) m U).symm
 ·unfold j4
  rw[bo];refine(kA own X eT J z).1.put λp y=> ?_
  rcases aP.1 y with y|y
  ·obtain⟨m,j,-,-,-,h⟩:=qx y
   rw[h];exact Lg G.2.2 z m j
  ·obtain⟨j,-,-,h⟩:=jD y
   rw[h];exact Wb G.2.2 z j
 ·refine eo _ _ _ λp y Z=> ?_
  unfold j4 at y;rcases aP.1 y with y|y
  ·rcases B8 _ _ z y with h|h
   ·omega
   ·rw[Z] at h;exact W h
  ·rcases aP.1 y with y|y
   ·obtain⟨m,j,h3,h4,V,-⟩:=qx y
    refine W ⟨by omega,?_⟩;rw[<-Z,V,show(1080+8*own.getD m 0+j-1080)/8=own.getD m 0 by omega];exact ia h3
   ·obtain⟨j,h4,V,-⟩:=jD y
    exact h1 ⟨by omega,by omega⟩
def oQ (w:World) (b y:Nat) (B:List Int) (ps:List (Int×Int)) (i:Int) (n:bM) (e:Ending) (w':World):Prop:=
 ∃r qs h,e= .returned (.int .i64 r)/\(h=y\/(w.heap.size<=h/\h<w'.heap.size))/\eF w' b h B (ps++qs)/\ay [b,y] w w'/\qs.length<=600/\
  ((r=1/\¬tE i n/\qs=[])\/(r=7/\tE i n/\(bb (az B ps)).length<dU n/\qs=[])\/
   (r=0/\tE i n/\dU n<=(bb (az B ps)).length/\qs=j4 (az B ps) i.toNat n ((bb (az B ps)).take (dU n))))
theorem Lh (h:∀c∈own,c≠0/\c<256)(y:own.length<=32):(j4 X i n own).length<=600:=by
 unfold j4;rw[aF,aF,oA _ _ h,yx,mA];omega
theorem SU (h:eF w b G B ps)(Z:dD (az B ps))(hT:kI w)(Df:G<w.heap.size)(pn:ps.length<=800000)(i:Int)(n:bM)(v:Value)(g:Nat)(V:n.B.length=13)(W:bz w v g n.E)
  (U:∀k,k<n.E.length->(eh n.E k).size<=9223372036854775807) (ue:n.E.length≠0->g≠b/\g≠G):
  Calls Tryz.prog 171 #[.pointer (some ⟨b,0,none⟩),.int .i64 i,.agg (aU n v)] w (oQ w b G B ps i n):=by
 by_cases z:tE i n
 ·by_cases J:dU n<=(bb (az B ps)).length
  ·refine(VW h Z hT Df pn i n v g V W U z ue J).mono λe w' y=> ?_
   obtain⟨y,gA,h1,h2,h3⟩:=y;exact⟨0,_,gA,y,h1,h2,h3,Lh oP (by rw[rA J];exact B3 z.2.2),.inr (.inr ⟨rfl,z,J,rfl⟩)⟩
  ·refine(K7 h Z i n v g V W U z (by omega)).mono λe w' y=> ?_
   exact⟨7,[],G,y.1,.inl rfl,by rw[bq];exact h.keep y.2 (by simp) (by simp),y.2.mono (by simp),by simp,.inr (.inl ⟨rfl,z,by omega,rfl⟩)⟩
 ·refine(Sw i n v g V W U z).mono λe w' y=> ?_
  exact⟨1,[],G,y.1,.inl rfl,by rw[bq];exact h.keep y.2 (by simp) (by simp),y.2.mono (by simp),by simp,.inl ⟨rfl,z,rfl⟩⟩
theorem aad (h: -9223372036854775808<=x)(y:x<9223372036854775808):wrap64 x=x:=by unfold wrap64;omega
theorem AL (h:0<=x)(y:x<18446744073709551616):IntKind.u64.wrap x=x:=by
 simp[IntKind.wrap,IntKind.bits,IntKind.signed];omega
def pA (l:List Int) (p b:Nat):Nat->List Int
 |0=>l
 |j+1=>(pA l p b j).set (p+j) (((b+j:Nat):Int))
theorem uh (l:List Int)(p b:Nat):∀j,(pA l p b j).length=l.length
 |0=>rfl
 |j+1=>by unfold pA;rw[cG,uh l p b j]
def iG (L:List Int):Nat->Option (List Int)
 |0=>some (List.replicate 13 0)
 |k+1=>match iG L k with
  |none=>none
  |some l=>if 13<(L.getD k 0).toNat/4294967296+(L.getD k 0).toNat%256 then none
   else some (pA l ((L.getD k 0).toNat/4294967296) ((L.getD k 0).toNat/256%16777216) ((L.getD k 0).toNat%256))
theorem zD {L:List Int}{k:Nat}(h:iG L k=none):∀n,k<=n->iG L n=none
 |0,hn=>by have :k=0:=by omega
           subst this;exact h
 |n+1,hn=>by
  by_cases e:k=n+1
  ·subst e;exact h
  ·unfold iG
   rw[zD h n (by omega)]
theorem rB {L:List Int}:∀{k:Nat} {l:List Int},iG L k=some l->l.length=13
 |0,l,h=>by cases h;simp
 |k+1,l,h=>by
  unfold iG at h;split at h
  ·cases h
  ·rename_i l0 h0
   split at h
   ·cases h
   ·cases h
    rw[uh,rB h0]
theorem run_parts(x:Nat)(h:x<18446744073709551616):bits .and .u64 ((x:Int)/256) 16777215=((x/256%16777216:Nat):Int)/\bits .and .u64 (x:Int) 255=((x%256:Nat):Int):=by
 have y:=Nat.div_le_self x 256;constructor
 ·rw[show(x:Int)/256=((x/256:Nat):Int) by omega,show(16777215:Int)=((16777215:Nat):Int) from rfl,fI (x/256) 16777215 (by omega) (by omega),show x/256 &&& 16777215=x/256%2^24 from dp _ 24]
 ·rw[show(255:Int)=((255:Nat):Int) from rfl,fI x 255 h (by omega),show x &&& 255=x%2^8 from dp x 8]
theorem tF{J:Func}{tmps:Array Value}{a t:Nat}{z:Addr}{x:Value}(h:J.results= #[.cell a t,.tmp b])(y:tmps.getD a undef= .pointer (some z))(U:(loadVar t z).run P w= .ok v w)
  (G:tmps.getD b undef=x):(results J tmps).run P w= .ok (.tuple #[v,x]) w:=by
 rw[fU] at y G;unfold results;rw[h];simp[y,rb,U,G]
def Cc (w:World) (L:List Int) (e:Ending) (w':World):Prop:=
 ∃l ok,e= .returned (.tuple #[.agg (zs l).toArray,.bool ok])/\l.length=13/\(ok=true->iG L L.length=some l)/\(ok=false->iG L L.length=none/\l=List.replicate 13 0)/\ay [] w w'
theorem Li (x P N C:Nat)(U:x<18446744073709551616)(V:P=x/4294967296)(G:N=x/256%16777216)(J:C=x%256):
  ∃h:Int,(x:Int)/4294967296=(P:Int)/\bits .and .u64 ((x:Int)/256) 16777215=(N:Int)/\bits .and .u64 (x:Int) 255=(C:Int)/\(P:Int)+(C:Int)=h/\IntKind.u64.wrap h=h/\(13<P+C↔13<h)/\P<4294967296/\N<16777216/\C<256:=by
 obtain⟨z,y⟩:=run_parts x U;refine⟨(P:Int)+(C:Int),by omega,by rw[G];exact z,by rw[J];exact y,rfl,AL (by omega) (by omega),by omega,by omega,by omega,by omega⟩
theorem Lj (P N C k:Nat)(z:P+C<=13)(J:k<C)(G:N<16777216):∃h y:Int,(P:Int)+(k:Int)=h/\IntKind.u64.wrap h=h/\0<=h/\h<13/\h.toNat=P+k/\(N:Int)+(k:Int)=y/\IntKind.u64.wrap y=y/\wrap64 y=y/\y=((N+k:Nat):Int):=
 ⟨(P:Int)+(k:Int),(N:Int)+(k:Int),rfl,AL (by omega) (by omega),by omega,by omega,by omega,rfl,AL (by omega) (by omega),aad (by omega) (by omega),by omega⟩
theorem IW{L:List Int}(h:Reads w v g (aR L))(hL:L.length<=100)(eT:∀k,0<=L.getD k 0/\L.getD k 0<18446744073709551616):
  Calls Tryz.prog 220 #[v] w (Cc w L):=by
 obtain⟨a,cap,rfl,h1,h2,HC⟩:=fM h;have p8:=lV;have nY:Hid (bm ((w.alloc (.cells (zs (List.replicate 13 0)).toArray 108)).alloc (.cells (zs (List.replicate 13 0)).toArray 108)) w.heap.size (zs (List.replicate 13 0)).toArray 108):=(bm.new w _ _).alloc _;have xe:Hid (bm ((w.alloc (.cells (zs (List.replicate 13 0)).toArray 108)).alloc (.cells (zs (List.replicate 13 0)).toArray 108)) (w.heap.size+1) (zs (List.replicate 13 0)).toArray 108):=by
  have :=bm.new (w.alloc (.cells (zs (List.replicate 13 0)).toArray 108)) (zs (List.replicate 13 0)).toArray 108;have e:(w.alloc (.cells (zs (List.replicate 13 0)).toArray 108)).heap.size=w.heap.size+1:=by simp
  rw[e] at this;exact this
 have fS:Hid (ay [] w ((w.alloc (.cells (zs (List.replicate 13 0)).toArray 108)).alloc (.cells (zs (List.replicate 13 0)).toArray 108))):=((ay.refl _ _).alloc _).alloc _;have vC:Hid (∀J l,l.length=13->bm J w.heap.size (zs (List.replicate 13 0)).toArray 108->∃w',(storeVar 108 ⟨w.heap.size,0,none⟩ (.agg (zs l).toArray)).run Tryz.prog J= .ok () w'/\(loadVar 108 ⟨w.heap.size,0,none⟩).run Tryz.prog w'= .ok (.agg (zs l).toArray) w'/\ay [w.heap.size] J w'):=λJ l hl hb=>by
  obtain⟨w',q1,q2,q3⟩:=br (P:= Tryz.prog) (ty:= 108) (cs:=zs l) (by rw[dJ,hl];exact jf) hb (by simp[dJ,hl]) (jY _);exact⟨w',q1,eD (off:=0) q2 hl (λk hk=>by rw[aX,aC,eR (by omega)]),q3⟩
 have sf:=ar eT;clear h eT;generalize hn:L.length=n at *;have HN:=ar hn;clear hn;generalize ah:(zs (List.replicate 13 0)).toArray=Z0 at *;have AO:=ar ah;clear ah;go_enter Tryz.func220,Tryz.ntmps220;go_wp2_with fail;go_loopg [13] n (λgh s13 J=>∃(k:Nat) (l:List Int),k+gh=n/\s13= .int .i64 (k:Int)/\Hid (iG L k=some l/\bm J (w.heap.size+1) (zs l).toArray 108/\bm J w.heap.size Z0 108/\ay [] w J))
 case atStart=>exact⟨0,List.replicate 13 0,by omega,rfl,rfl,by rw[AO.out];exact xe.out,nY.out,fS.out⟩
 case round=>
  clear nY xe fS;obtain⟨k,l,hk,rfl,HP⟩:=hrel;obtain⟨pG,z,G,V⟩:=HP.out;have oT:=rB pG;cases gk with
  |zero=>
   obtain rfl:k=n:=by omega
   have HL:=ar (eD (off:=0) z oT (λk hk=>by rw[aX,aC,eR (by omega)]));obtain⟨w2,hS,ny,U⟩:=vC.out wr l oT G;have HS:=ar hS;have nJ:=ar ny;have HF:Hid (Cc w L (.returned (.tuple #[.agg (zs l).toArray,.bool true])) w2):=⟨l,true,rfl,oT,λ_=>by rw[HN.out];exact pG,λh=>(by cases h),V.trans U (by simp)⟩;clear HP pG z G V hS ny U hk p8;go_wp2_with(first|(with_reducible refine gL 108 HL.out ?_)|(with_reducible refine gS 108 HS.out ?_));exact aK (tF Tryz.results220 rfl nJ.out rfl) rfl HF.out
  |succ gg=>
   have xG:k<n:=by omega
   have aq:(k:Int)<(n:Int):=by omega
   have ez:(0:Int)<=(k:Int):=by omega
   obtain⟨se,off,rfl,c0⟩:=HC.out k xG;have d0:=(aL (w:=w) (a:=⟨g,off+k,none⟩) (V.block g se (by simp))).trans c0;have aj:=sf.out k;obtain⟨x,hx⟩:∃x:Nat,L.getD k 0=(x:Int):=⟨(L.getD k 0).toNat,by omega⟩;have ac:(L.getD k 0).toNat=x:=by omega
   have J8:Hid (iG L (k+1)=if 13<x/4294967296+x%256 then none else some (pA l (x/4294967296) (x/256%16777216) (x%256))):=by
    show _=_;rw[iG,pG,ac]
   rw[hx] at d0;obtain⟨P,hP⟩:∃P,P=x/4294967296:=⟨_,rfl⟩;obtain⟨N,W⟩:∃N,N=x/256%16777216:=⟨_,rfl⟩;obtain⟨C,aa⟩:∃C,C=x%256:=⟨_,rfl⟩;obtain⟨si,q1,q2,q3,q4,q5,q6,q7,q8,q9⟩:=Li x P N C (by omega) hP W aa;rw[<-hP,<-W,<-aa] at J8;have gI:=ar V;have nY:=ar G;have xe:=ar z;clear hP W aa c0 hx ac aj HP pG z G V;by_cases ae:13<si
   ·have jr:Hid (iG L n=none):=zD (by rw[J8.out,aB (q6.2 ae)]) n (by omega)
    obtain⟨w2,hS,ny,U⟩:=vC.out wr (List.replicate 13 0) (by simp) nY.out;rw[AO.out] at hS ny;have HS:=ar hS;have nJ:=ar ny;have HF:Hid (Cc w L (.returned (.tuple #[.agg Z0,.bool false])) w2):=⟨List.replicate 13 0,false,by rw[AO.out],by simp,λh=>(by cases h),λ_=>⟨by rw[HN.out];exact jr.out,rfl⟩,gI.out.trans U (by simp)⟩;clear hS ny U q6 q7 q8 q9;go_wp2_with(with_reducible refine gS 108 HS.out ?_);exact aK (tF Tryz.results220 rfl nJ.out rfl) rfl HF.out
   ·have ai:P+C<=13:=by
     have :¬13<P+C:=λh=>ae (q6.1 h)
     omega
    have lO:Hid (iG L (k+1)=some (pA l P N C)):=by
     show _=_;rw[J8.out,aA (by omega)]
    clear q6 J8;go_wp2_with fail;clear d0 q1 q2 q3 q4 q5 p8;go_loopg [30] C (λgh s30 J=>∃j:Nat,j+gh=C/\s30= .int .u64 (j:Int)/\Hid (bm J (w.heap.size+1) (zs (pA l P N j)).toArray 108/\bm J w.heap.size Z0 108/\ay [] w J))
    case atStart=>exact⟨0,by omega,rfl,xe.out,nY.out,gI.out⟩
    case round=>
     clear xe nY gI;obtain⟨j,hj,rfl,HQ⟩:=hrel;cases gk with
     |zero=>
      obtain rfl:j=C:=by omega
      have Z:=ar HQ.out;clear HQ hj;go_wp2_with fail;go_roundg gg;case measure=>omega
      case rel=>exact⟨k+1,_,by omega,by go_num,lO.out,Z.out.1,Z.out.2.1,Z.out.2.2⟩
     |succ gk=>
      have ak:j<C:=by omega
      have au:(j:Int)<(C:Int):=by omega
      have zi:(0:Int)<=(j:Int):=by omega
      obtain⟨ji,vi,r1,r2,r3,r4,r5,r6,r7,r8,r9⟩:=Lj P N C j ai ak q8;obtain⟨z,G,V⟩:=HQ.out;have af:(pA l P N j).length=13:=by rw[uh];exact oT
      have ap:wr.cell? ⟨w.heap.size+1,P+j,none⟩=some (.int .i64 ((pA l P N j).getD (P+j) 0)):=by rw[z.cell,aC,eR (by omega)]
      have YV:wr.frozen? ⟨w.heap.size+1,P+j,none⟩=false:=z.frozen _;have HR:Hid (bm (wr.setCell ⟨w.heap.size+1,P+j,none⟩ (.int .i64 vi)) (w.heap.size+1) (zs (pA l P N (j+1))).toArray 108/\bm (wr.setCell ⟨w.heap.size+1,P+j,none⟩ (.int .i64 vi)) w.heap.size Z0 108/\ay [] w (wr.setCell ⟨w.heap.size+1,P+j,none⟩ (.int .i64 vi))):=by
       refine⟨?_,G.other (by simp) _,V.setCell (.inr (by show w.heap.size<=w.heap.size+1;omega)) _⟩;have :=z.set (P+j) (.int .i64 vi);rw[ag,KB,r9] at this;rw[r9];exact this
      clear HQ z G V af r9;generalize (pA l P N j).getD (P+j) 0=y at *;have av:IntKind.u64.wrap ((j:Int)+1)=(j:Int)+1:=AL (by omega) (by omega);go_wp2_with fail;go_roundg gk;case measure=>omega
      case rel=>exact⟨j+1,by omega,by go_num,HR.out⟩
theorem Ce (l:List Int):∀f e,e<=lA l f e
 |0,e=>aG _
 |f+1,e=>by
  unfold lA;split
  ·have :=Ce l f (e+1);omega
  ·omega
theorem vH (l:List Int):∀f e i,e<=i->i<lA l f e->jy l i
 |0,e,i,h1,h2=>by unfold lA at h2;omega
 |f+1,e,i,h1,h2=>by
  unfold lA at h2;split at h2
  ·rename_i hc
   by_cases h:i=e
   ·subst h;exact hc
   ·exact vH l f (e+1) i (by omega) h2
  ·omega
theorem Cf (l:List Int):∀f e,13<=e+f->¬jy l (lA l f e)
 |0,e,h=>by
  unfold lA;exact λy=>by have :=y.2.1;omega
 |f+1,e,h=>by
  unfold lA;split
  ·exact Cf l f (e+1) (by omega)
  ·assumption
theorem SV (l:List Int)(f e:Nat)(h:e<=13):lA l f e<=13:=by
 by_cases z:lA l f e=e
 ·omega
 ·have y:=Ce l f e
  have :=(vH l f e (lA l f e-1) (by omega) (by omega)).2.1;omega
def Wd (l:List Int) (k j:Nat):Prop:=∃s,s<k/\oC l s/\s<=j/\j<s+nL l s
theorem nb (l:List Int){s:Nat}(h:s<13):1<=nL l s/\s+nL l s<=13/\s+nL l s=lA l 13 (s+1):=by
 have z:=Ce l 13 (s+1);have y:=SV l 13 (s+1) (by omega);unfold nL;omega
theorem We{s j:Nat}(G:s<13)(z:s<=j)(y:j<s+nL l s):l.getD j 0=l.getD s 0+((j-s:Nat):Int):=by
 obtain⟨-,-,J⟩:=nb l G;rw[J] at y;exact Vi (λi U h=>vH l 13 (s+1) i (by omega) h) j z y
theorem Wf:∀j,j<13->zn (l.getD j 0)->Wd l (j+1) j:=by
 intro j;induction j with
 |zero=>
  intro _ z;refine⟨0,by omega,⟨z,λh=>by have :=h.1;omega⟩,by omega,?_⟩;have :=(nb l (show 0<13 by omega)).1;omega
 |succ j ih=>
  intro hj z;by_cases G:jy l (j+1)
  ·have y:=G.2.2.2.1
   rw[fw] at y;obtain⟨s,h1,U,h3,Z⟩:=ih (by omega) y;obtain⟨-,-,J⟩:=nb l (show s<13 by omega);refine⟨s,by omega,U,by omega,?_⟩;rw[J] at Z ⊢;refine Nat.lt_of_not_le λV=> ?_
   have W:lA l 13 (s+1)=j+1:=by omega
   have :=Cf l 13 (s+1) (by omega);rw[W] at this;exact this G
  ·refine⟨j+1,by omega,⟨z,G⟩,by omega,?_⟩
   have :=(nb l hj).1;omega
theorem Cg (A C:List Int):∀k,k<=A.length->iG (A++C) k=iG A k
 |0,_=>rfl
 |k+1,h=>by
  unfold iG;rw[Cg A C k (by omega),aj,aj,aW (by omega)]
theorem yA (l:List Int)(p b:Nat):∀c,p+c<=l.length->∀j,(pA l p b c).getD j 0=if p<=j/\j<p+c then ((b+(j-p):Nat):Int) else l.getD j 0
 |0,_,j=>by rw[aA (by omega)];rfl
 |c+1,h,j=>by
  rw[pA,wu,uh,yA l p b c (by omega)];by_cases e:p+c=j
  ·subst e
   rw[aB ⟨rfl,by omega⟩,aB ⟨by omega,by omega⟩,cX]
  ·rw[aA (by omega)]
   by_cases y:p<=j/\j<p+c
   ·rw[aB y,aB ⟨y.1,by omega⟩]
   ·rw[aA y,aA (by omega)]
theorem Lk (k b n:Nat)(z:k<256)(h:b<256)(y:n<256):(p9 k (b:Int) n).toNat/4294967296=k/\(p9 k (b:Int) n).toNat/256%16777216=b/\(p9 k (b:Int) n).toNat%256=n:=by
 have e:(p9 k (b:Int) n).toNat=k*4294967296+b*256+n:=by unfold p9;omega
 rw[e];omega
theorem OW (B:List Int):∀k,k<=13->∃l,iG (eA B k) (eA B k).length=some l/\(∀j,Wd B k j->l.getD j 0=B.getD j 0)/\∀j,¬Wd B k j->l.getD j 0=0:=by
 intro k;induction k with
 |zero=>
  intro _;refine⟨List.replicate 13 0,rfl,λj h=> ?_,λj _=> ?_⟩
  ·obtain⟨s,V,-⟩:=h
   omega
  ·rw[aj,aY]
   split<;>rfl
 |succ k ih=>
  intro hk;obtain⟨l,V,h2,h3⟩:=ih (by omega);by_cases J:oC B k
  ·obtain⟨f1,f2,-⟩:=nb B (show k<13 by omega)
   obtain⟨b,hb⟩:∃b:Nat,B.getD k 0=(b:Int):=⟨(B.getD k 0).toNat,by have :=J.1;unfold zn at this;omega⟩;have Z:b<256:=by have :=J.1;unfold zn at this;omega
   obtain⟨p1,p2,p3⟩:=Lk k b (nL B k) (by omega) Z (by omega);have hl:=rB V;have hg:(eA B k++[p9 k (B.getD k 0) (nL B k)]).getD (eA B k).length 0=p9 k (b:Int) (nL B k):=by rw[hb];simp
   refine⟨pA l k b (nL B k),?_,λj G=> ?_,λj G=> ?_⟩
   ·rw[eA,aB J,aF,List.length_singleton,iG,Cg _ _ _ (aG _),V,hg,p1,p2,p3]
    show(if 13<k+nL B k then none else some _)=_;rw[aA (by omega)]
   ·rw[yA _ _ _ _ (by omega)]
    by_cases y:k<=j/\j<k+nL B k
    ·rw[aB y,We (by omega) y.1 y.2,hb]
     omega
    ·rw[aA y]
     obtain⟨s,W,z,U,g4⟩:=G;refine h2 j ⟨s,?_,z,U,g4⟩;rcases (show s<k\/s=k by omega) with h|h
     ·exact h
     ·subst h;exact absurd ⟨U,g4⟩ y
   ·rw[yA _ _ _ _ (by omega),aA (λy=>G ⟨k,by omega,J,y.1,y.2⟩)]
    exact h3 j λ⟨s,W,z⟩=>G ⟨s,by omega,z⟩
  ·refine⟨l,?_,λj G=> ?_,λj G=> ?_⟩
   ·rw[eA,aA J];exact V
   ·obtain⟨s,W,z,U⟩:=G
    refine h2 j ⟨s,?_,z,U⟩;rcases (show s<k\/s=k by omega) with h|h
    ·exact h
    ·subst h;exact absurd z J
   ·exact h3 j λ⟨s,W,z⟩=>G ⟨s,by omega,z⟩
theorem xj (A:List Int){l:List Int}(h:iG A A.length=some l):∀z,iG (A++List.replicate z 0) (A.length+z)=some l
 |0=>by simpa using h
 |z+1=>by
  have y:=xj A h z;have G:(A++List.replicate (z+1) (0:Int)).getD (A.length+z) 0=0:=by
   rw[aj,aM (by omega),aY];split<;>rfl
  have e:A++List.replicate (z+1) (0:Int)=(A++List.replicate z 0)++[0]:=by rw[List.replicate_succ',bf]
  show iG _ (A.length+z+1)=_;rw[iG,G,e,Cg _ _ _ (by simp),y];rfl
theorem Ch (hB:B.length=13)(J:∀k,k<13->0<=B.getD k 0/\B.getD k 0<256)(z:Nat):iG (eB B++List.replicate z 0) ((eB B).length+z)=some B:=by
 obtain⟨l,G,U,W⟩:=OW B 13 (aG _);have hl:=rB G;have e:l=B:=zk (by omega) λj hj=>by
  by_cases h:Wd B 13 j
  ·exact U j h
  ·rw[W j h]
   by_cases y:zn (B.getD j 0)
   ·obtain⟨s,Z,V⟩:=Wf j (by omega) y
    exact absurd ⟨s,by omega,V⟩ h
   ·have :=J j (by omega)
    unfold zn at y;omega
 subst e;exact xj (eB l) G z
theorem jE (t T ty:TypeId)(i:TypeInfo)(z:Value)(size bytes:Nat)(ht:P.underlying t=some (.slice T))(hi:P.info? T=some i)(hz:i.zero=some z)(ah:i.size=size)(ac:i.bytes=bytes)(ag:z.cells.size=size)(oU:0<size)
  (y n:Nat) (v:Value) (xs:List Value) (G:w.ownsRow y T size v n xs) (a:Option Addr) (m c:Nat) (U:List Value) (hl:U.length=m*size) (hc:m≠0->∃Z,a=some Z/\∀j u,U[j]? =some u->w.cell? (Z.add j)=some u) (h1:∀u∈U,u.oneCell'=true)
  (aa:n+m<=maxLen) (J:(n+m)*bytes<=140737488355328) (V:y<=w.heap.size):
  ∃v' w',(Builtin.append_ #[t,t] ty #[v,.slice a m c]).run P w= .ok v' w'/\w'.ownsRow y T size v' (n+m) (xs++U)/\w.grownBy w' v.ownBlock:=by
 cases a with
 |none=>
  have h0:m=0:=by
   rcases eC m with h|h
   ·exact h
   ·obtain⟨Z,e,-⟩:=hc (by omega);cases e
  subst h0;have af:U=[]:=bg (by rw[hl];simp);subst af;refine⟨v,w,?_,by simpa using G,⟨rfl,rfl,rfl,aG _,λ_ _ _=>rfl⟩⟩;obtain⟨-,h5⟩:=G;rcases h5 with ⟨rfl,rfl⟩|⟨g',ai,ak,rfl,hg,hh,q2,q3,q4,q5⟩
  ·simp[Builtin.append_,cY ht,sizeOf,typeInfo,hi,Builtin.lenOf,Builtin.firstCells]
  ·simp[Builtin.append_,cY ht,sizeOf,typeInfo,hi,Builtin.lenOf,Builtin.firstCells,q2,storeCells]
 |some Z=>
  have W:∀j u,U[j]? =some u->w.cell? (Z.add j)=some u:=by
   intro j u hu;have hj:j<U.length:=(List.getElem?_eq_some_iff.1 hu).1;have hm:m≠0:=by
    intro e;rw[hl,e] at hj;simp at hj
   obtain⟨aj,e,ae⟩:=hc hm;cases e;exact ae j u hu
  obtain⟨v',w',hr,ho,hg,-⟩:=run_append_own (P:=P) w y t ty T i z size bytes ht hi hz ah ac ag oU v n xs G Z m c U hl W h1 aa J V;exact⟨v',w',hr,ho,hg⟩
theorem wpList_append_run{y:Array Oper}{rest:List Oper}{o:Oper}{a:Act}{Q:Exit->Act->World->Prop}(z:o.guard=none)(d x:Operand)(t J:TypeId)
  (ho:o.op= .call { callee:= .builtin .append,args:= #[d,x],argTypes:= #[t,J] }) (v u:Value) (U:a.eval d=v) (Z:a.eval x=u) {G:Value} {w':World}
  (V:(Builtin.append_ #[t,J] o.type #[v,u]).run P w= .ok G w') (h:wpList P y Q rest (a.put o.dst G) w'):wpList P y Q (o::rest) a w:=
 wpList_plain z λ_ W=>by
  unfold Oper.wp execOp;simp only[ho,resolve,invoke,builtin,bV,eM,b9,List.map_toArray,List.map_cons,List.map_nil,U,Z,V];exact W _ _ h
theorem xk (w:World)(t U e:TypeId)(i:TypeInfo)(z:Value)(V W:IntKind)(ht:P.underlying t=some (.slice e))(J:P.underlying U=some (.int W))(hi:P.info? e=some i)(hz:i.zero=some z)(aa:i.size=1)(Wh:z.cells.size=1)
  (k:Nat) (h0:0<k) (hk:k<=1000) (G:i.bytes=8):
  ∃c w',(∀ty,(Builtin.append_ #[t,U] ty #[.slice none 0 0,.int V k]).run P w= .ok (.slice (some ⟨w.heap.size,0,none⟩) k c) w')/\k<=c/\w'.ownsRow w.heap.size e 1 (.slice (some ⟨w.heap.size,0,none⟩) 0 c) 0 []/\ay [] w w':=by
 have MI:(Builtin.firstCells i.size 0 (.slice none 0 0)).run P w.drew= .ok ([]:List Value).toArray w.drew:=by simp[Builtin.firstCells]
 have ac:Builtin.nextslicecap (0+k) 0<=4*1000+64:=by
  unfold Builtin.nextslicecap;split<;>omega
 have h:=λty=>Lib.run_append_grow_zeros w t U ty e i z V W ht J hi hz none 0 0 [] MI k h0 (by omega) (by omega) (by omega) (by rw[G];omega) (by rw[G];omega)
 have Z:=grownCap_ge w (0+k) 0 e;have y:=grownCap_le_maxLen w (0+k) 0 e (by unfold maxLen;omega);rw[aX] at Z y;simp only[aX] at h;refine⟨_,_,h,Z,⟨rfl,.inr ⟨w.heap.size,grownCap w k 0 e,_,rfl,aG _,bm.new w.drew _ _,et _,y,?_,by simp⟩⟩,((ay.refl [] w).drew).alloc _⟩;simp[kZ,Wh];omega
end Go.Proofs.YtcecbdeamjigiaaGreatDoor
