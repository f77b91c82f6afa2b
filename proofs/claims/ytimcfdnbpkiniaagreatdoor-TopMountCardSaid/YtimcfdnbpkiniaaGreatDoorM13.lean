/- Lemmas. -/
import Derived.Test.YtimcfdnbpkiniaaGreatDoorM12
set_option maxHeartbeats 8000000
set_option maxRecDepth 100000
namespace Go.Proofs.YtimcfdnbpkiniaaGreatDoor
open Go.Proofs.Tryz
open Go.RowKit
variable{n n':bT}{B R X Y:List Int}{cX own:List Nat}{i j:Int}{w w' z:World}{J W b g gp:Nat}{ps:List (Int×Int)}{a:Value}{e:Ending}
def BG (X:List Int) (i:Int) (n:bT) (own:List Nat):Prop:=
 (0<=i/\i<32)/\ym X (fT X i) n own/\n.F=2/\ct n/\own.length=eW n/\pO X (fT X i) n own
def sy (w:World) (X:List Int) (i:Int) (e:Ending) (w':World):Prop:=
 ∃n v g own h z ok,e= .returned (.tuple #[aM n v,h,.bool ok])/\n.B.length=13/\bD w' v g n.E/\w.heap.size<=g/\ma w' h z own/\w.heap.size<=z/\ay [] w w'/\
  (ok=true->BG X i n own/\own.length<=24/\(∀c,c∈own->0<c/\c<256)/\n.E.length<=72/\∀k,k<n.E.length->(eX n.E k).size<=7)/\(ok=false->n=ck/\own=[]/\∀n' G,¬BG X i n' G)
theorem JZ {lt:ByteArray×Int->ByteArray×Int->Bool}:∀(l2 z:List (ByteArray×Int)),z.Perm l2->z.Pairwise (λa b=>lt b a=false)->l2.Pairwise (λa b=>lt a b=true)->z=l2
 | [],z,hp,_,_=>hp.eq_nil
 |b::t2,[],hp,_,_=>by have :=hp.length_eq;simp at this
 |b::t2,a::t1,hp,h1,h2=>by
  rw[List.pairwise_cons] at h1 h2;by_cases e:a=b
  ·subst e
   rw[JZ t2 t1 (List.Perm.cons_inv hp) h1.2 h2.2]
  ·exfalso
   have J:a∈t2:=by
    rcases aL.1 (hp.mem_iff.1 (jS ..)) with h|h
    ·exact absurd h e
    ·exact h
   have V:b∈t1:=by
    rcases aL.1 (hp.mem_iff.2 (jS ..)) with h|h
    ·exact absurd h.symm e
    ·exact h
   have U:=h2.1 a J;have G:=h1.1 b V;rw[U] at G;cases G
theorem Lp (E:List (ByteArray×Int))(i:Nat)(h:i<E.length):E[i]=(eX E i,jm E i):=by
 simp[eX,jm,h]
theorem Az (h:pk n):n.E.Pairwise (λa b=>Op.bytesLess a.1.toList b.1.toList=true):=by
 have J:∀k,k+1<n.E.length->Op.bytesLess (eX n.E k).toList (eX n.E (k+1)).toList=true:=λk V=>by
  have U:=(h.2.2.2 (k+1) V).2.2 (by omega);rw[ib,leB,Bool.or_eq_false_iff] at U;exact td _ _ U.1 (λe=>by have :=U.2;rw[e] at this;simp at this)
 have z:∀d i,i+1+d<n.E.length->Op.bytesLess (eX n.E i).toList (eX n.E (i+1+d)).toList=true:=by
  intro d;induction d with
  |zero=>exact λi G=>J i G
  |succ d ih=>exact λi G=>oK _ _ _ (ih i (by omega)) (J (i+1+d) G)
 rw[dg];intro i j G hj W;rw[Lp _ i G,Lp _ j hj];have :=z (j-i-1) i (by omega);rwa[show i+1+(j-i-1)=j by omega] at this
theorem ym.uniq{L:List Int}(h:ym X L n own)(W:ym X L n' cX)(hR:ct n'):n'=n/\cX=own:=by
 rcases h with ⟨h1,l,V,rfl⟩|⟨h1,E,E',V,-,h3,h4,rfl⟩
 ·rcases W with ⟨G,l',z,rfl⟩|⟨G,-⟩
  ·obtain⟨rfl,rfl⟩:=V.inj z
   exact⟨rfl,rfl⟩
  ·omega
 ·rcases W with ⟨G,-⟩|⟨G,F,J,z,-,g3,g4,rfl⟩
  ·omega
  ·rw[V] at z
   cases z;have hd:pk { iR L with E:=J }:=(hR.2.2.resolve_left (λh=>by have :(iR L).K=1:=h.1;omega)).2;have e:E'=J:=by
    refine JZ (lt:=λa b=>Op.bytesLess a.1.toList b.1.toList) J E' (h3.trans g3.symm) ?_ (Az hd);rw[dg];intro i j hi hj U;rw[Lp _ i hi,Lp _ j hj];exact h4 i j U hj
   subst e;exact⟨rfl,rfl⟩
def SV (E:List (ByteArray×Int)):Prop:=∀k,k<E.length->iu (bl (eX E k))=true/\0<=jm E k/\jm E k<=31
theorem YM{c:List (ByteArray×Int)}(h3:c.length<=3)(W:SV c)(x:Int):oL (zE (eT c) x)=c.length/\qL (kF (zE (eT c) x)) (oL (zE (eT c) x))/\mJ (kF (zE (eT c) x)) (oL (zE (eT c) x))=c:=by
 have J:oL (zE (eT c) x)=c.length:=by
  refine JV h3 (λj hj=> ?_) ?_
  ·rw[oY,Nat.mul_comm,(wj c j hj).1]
   have :=NH (W j hj).1;omega
  ·rcases (show c.length=3\/c.length<3 by omega) with h|h
   ·exact .inl h
   ·right
    rw[oY,aj,aP (by rw[lf];omega)];rfl
 have G:∀i,i<2*c.length->(kF (zE (eT c) x)).getD i 0=(eT c).getD i 0:=λi hi=>by
  rw[<-oY (eT c) x i,kF,J,aj,bU,aB hi,b9,aj,Nat.add_comm]
 have hw:∀k,k<c.length->(kF (zE (eT c) x)).getD (k*2) 0=((kZ (bl (eX c k)):Nat):Int)/\(kF (zE (eT c) x)).getD (k*2+1) 0=jm c k/\kI (kZ (bl (eX c k)))=some (bl (eX c k)):=λk z=>by
  rw[G _ (by omega),G _ (by omega)];obtain⟨V,U⟩:=wj c k z;refine⟨V,U,?_⟩;unfold kZ;rw[aB (W k z).1];exact oO (W k z).1 (Bl _)
 refine⟨J,λk z=> ?_,?_⟩
 ·rw[J] at z
  obtain⟨V,U,e3⟩:=hw k z;rw[V,U,aG,e3];have :=(W k z).2;exact⟨rfl,by omega⟩
 ·refine Xz (by rw[kf,J]) λk z=> ?_
  rw[kf,J] at z;obtain⟨V,U,e3⟩:=hw k z;obtain⟨g1,g2⟩:=CJ (kF (zE (eT c) x)) (oL (zE (eT c) x)) k (by rw[J];exact z);rw[g1,g2,V,U,aG,e3];exact⟨Ff _,rfl⟩
theorem G0 (h:pk n)(b:Nat):SV (eB n.E b):=λk G=>by
 obtain⟨j,z,U,J⟩:=Fi G;rw[U,J];exact⟨(h.2.2.2 j z).1,(h.2.2.2 j z).2.1⟩
theorem abN{l:List (ByteArray×Int)}(h:SV l)(x:Nat):SV (yU l x):=λk z=>by
 obtain⟨G,U,J⟩:=Fh l x k z;rw[U,J];exact h _ G
def zH (E:List (ByteArray×Int)):Nat->List (ByteArray×Int)
 |0=>[]
 |b+1=>zH E b++eB E b
theorem abO (l:List (ByteArray×Int))(j:Nat):l.take (3*j)++yU l j=l.take (3*(j+1)):=by
 unfold yU;rw[show 3*(j+1)=3*j+3 by omega,List.take_add]
theorem QX{l:List Nat}{j:Nat}(h:j<l.length):l.take j++[l.getD j 0]=l.take (j+1):=by
 rw[bP h];simp[h]
theorem QY (hK:n.K=2)(hD:pk n)(ho:own.length=fO n.E 4)(PC:own.length<=24)(hm:∀c∈own,c≠0/\c<256)(W:pO X R n own){b:Nat}(hb:b<4):
  ∀d j fuel,j+d=dN n.E b->d<fuel->mG X fuel (if j<dN n.E b then ((own.getD (fO n.E b+j) 0:Nat):Int) else 0) (own.take (fO n.E b+j)) (zH n.E b++(eB n.E b).take (3*j))=some (own.take (fO n.E (b+1)),zH n.E (b+1)):=by
 have U:=uV n.E (show b+1<=4 by omega);intro d;induction d with
 |zero=>
  intro j fuel hj hf;obtain⟨f,rfl⟩:∃f,fuel=f+1:=⟨fuel-1,by omega⟩;obtain rfl:j=dN n.E b:=by omega
  rw[aA (Nat.lt_irrefl _),mG,aB rfl,fO,zH,aW (l:=eB n.E b) (by unfold dN;omega)]
 |succ d ih=>
  intro j fuel hj hf;obtain⟨f,rfl⟩:∃f,fuel=f+1:=⟨fuel-1,by omega⟩;have G:j<dN n.E b:=by omega
  have z:fO n.E b+j<own.length:=by rw[ho];rw[fO] at U;omega
  have hc:=hm _ (jE z);have h:=W.1 _ z;unfold gX at h;rw[aB hK,sk n.E own G hb] at h;have J:(own.take (fO n.E b+j)).length=fO n.E b+j:=by rw[aJ];omega
  obtain⟨e1,e2,e3⟩:=YM (c:=yU (eB n.E b) j) (by rw[nS];omega) (abN (G0 hD b) j) (if j+1<dN n.E b then ((own.getD (fO n.E b+(j+1)) 0:Nat):Int) else 0);have SH:X.getD (1080+8*own.getD (fO n.E b+j) 0) 0=if j+1<dN n.E b then ((own.getD (fO n.E b+(j+1)) 0:Nat):Int) else 0:=by
   have :=kD X (1080+8*own.getD (fO n.E b+j) 0) 0 (by omega);rw[<-h] at this;exact this.symm
  rw[aB G,mG,aA,J,aA,aG];have V:JX X (own.getD (fO n.E b+j) 0):=by
   unfold JX;rw[<-h];exact e2
  have hE:yl X (own.getD (fO n.E b+j) 0)=yU (eB n.E b) j:=by
   unfold yl;rw[<-h];exact e3
  rw[aB V,hE,SH,QX z,aV,abO];exact ih (j+1) f (by omega) (by omega)
theorem NQ (E:List (ByteArray×Int)):∀b,(zH E b).length<=3*fO E b
 |0=>by simp[zH]
 |b+1=>by
  have :=NQ E b;rw[zH,fO,aC,dN];omega
theorem aeq (E:List (ByteArray×Int)):fO E 4*3<=(zH E 4).length+8:=by
 simp only[zH,fO,dN,aC,bQ];omega
theorem NR:∀E:List (ByteArray×Int),E.Perm (zH E 4)
 | []=>by simp[zH,eB]
 |p::E=>by
  have G:=NR E;have J:=Qo p;simp only[zH,bQ] at G ⊢;have z:∀b,eB (p::E) b=if K4 p=b then p::eB E b else eB E b:=λb=>by
   unfold eB;rw[fE];simp
  rw[z 0,z 1,z 2,z 3];generalize eB E 0=A,eB E 1=B,eB E 2=C,eB E 3=D at *;refine(List.Perm.cons p G).trans ?_;rcases (show K4 p=0\/K4 p=1\/K4 p=2\/K4 p=3 by omega) with h|h|h|h
  ·simp[h]
  ·simp only[h]
   simp only[aV,Nat.one_ne_zero,Nat.reduceEqDiff,↓reduceIte];exact List.perm_middle.symm
  ·simp only[h]
   simp only[aV,Nat.reduceEqDiff,↓reduceIte];have :=(List.perm_middle (a:=p) (l₁:=A++B) (l₂:=C++D)).symm;simpa using this
  ·simp only[h]
   simp only[aV,Nat.reduceEqDiff,↓reduceIte];have :=(List.perm_middle (a:=p) (l₁:=A++B++C) (l₂:=D)).symm;simpa using this
theorem Ei {X:List Int}{n:bT}{own:List Nat}(z:n.K=2)(G:pk n)(W:own.length=fO n.E 4)(V:own.length<=24)(U:∀c∈own,c≠0/\c<256)(J:pO X (oa n own) n own):
  ∀b,b<=4->tv X (oa n own) b=some (own.take (fO n.E b),zH n.E b)
 |0,_=>by simp[tv,fO,zH]
 |b+1,hb=>by
  have h:=uV n.E (show b+1<=4 by omega);rw[fO] at h;rw[tv,Ei z G W V U J b (by omega)];show mG X (25-(own.take (fO n.E b)).length) ((oa n own).getD (2+b) 0) (own.take (fO n.E b)) (zH n.E b)=_;have :=QY z G W V U J (show b<4 by omega) (dN n.E b) 0 (25-fO n.E b) (by omega) (by omega);rw[dC,Nat.mul_zero,eP,br] at this;rw[(Ya z (show b<4 by omega)).1,aJ,cT (by omega)];exact this
theorem abP (G:ct n)(z:R.getD 0 0=pn n)(h:R.getD 1 0=n.S):iR R=⟨n.F,n.K,n.L,n.S,List.replicate 13 0,[]⟩:=by
 rw[<-ND G [] 0];unfold iR;rw[z,h];rfl
theorem ajg{A:List Int}(h:A.length=5)(x:Int):(A++[x]).getD 5 0=x/\(A++[x]).take 5=A:=by
 constructor
 ·rw[aj,aR (by omega),h]
  rfl
 ·rw[fI (by omega),aW (by omega)]
theorem G1 (a b:Int)(l:List Int):(a::b::l).drop 2=l/\(a::b::l).getD 7 0=l.getD 5 0:=⟨rfl,rfl⟩
theorem AA (hB:n.B.length=13)(ae:yh i n)(G:own.length=eW n)(hm:∀c∈own,c≠0/\c<256)(V:pO X (fT X i) n own):BG X i n own:=by
 obtain⟨hi,hF,hR⟩:=ae;refine⟨hi,?_,hF,hR,G,V⟩;have W:=V.2;rw[<-W] at V ⊢;have QI:=abP hR (CW n own).1 (CW n own).2;rcases hR.2.2 with ⟨hK,hf⟩|⟨hK,U⟩
 ·left
  rw[QI];refine⟨hK,n.B,?_,?_⟩
  ·have hr:oa n own=np n own:=aA
   have hb:gX n own=kx n:=aA;have av:(fw n.B).length<=13:=mC n.B 13;have uD:∀k,k<13->0<=n.B.getD k 0/\n.B.getD k 0<256:=λk hk=>(hf.2.2.2 k hk).1
   rw[su hf] at G;by_cases h6:(fw n.B).length<=6
   ·left
    have po:np n own=pn n::n.S::(fw n.B++List.replicate (6-(fw n.B).length) 0):=aB h6;rw[aA] at G;rw[hr,po];refine⟨?_,bo G,?_⟩
    ·rw[(G1 _ _ _).2,aj]
     by_cases h5:5<(fw n.B).length
     ·rw[ba h5,aD h5]
      exact(Fj (bF h5)).2
     ·rw[aR (by omega),bj]
      split<;>simp
    ·rw[(G1 _ _ _).1]
     have :=GU hB uD (6-(fw n.B).length);rwa[show(fw n.B).length+(6-(fw n.B).length)=6 by omega] at this
   ·right
    have po:np n own=pn n::n.S::((fw n.B).take 5++[9223372036854775808+((own.getD 0 0:Nat):Int)]):=aA h6;have ah:kx n=[(fw n.B).drop 5++List.replicate (13-(fw n.B).length) 0]:=aA h6;rw[aB] at G;obtain⟨c,rfl⟩:=List.length_eq_one_iff.1 G;have hc:=hm c (by simp);have z:=V.1 0 (by simp);rw[hb,ah] at z;have z:(fw n.B).drop 5++List.replicate (13-(fw n.B).length) 0=eo X (1080+8*c):=z;have ac:((fw n.B).take 5).length=5:=by rw[aJ];omega
    rw[hr,po];have hg:[c].getD 0 0=c:=rfl;rw[hg];obtain⟨a1,a2⟩:=ajg ac (9223372036854775808+((c:Nat):Int));obtain⟨d1,d2⟩:=G1 (pn n) n.S ((fw n.B).take 5++[9223372036854775808+((c:Nat):Int)]);refine⟨c,?_,by omega,hc.2,rfl,?_⟩
    ·rw[d2,a1]
    ·rw[d1,a2,<-z,<-aV,dt]
     have :=GU hB uD (13-(fw n.B).length);rwa[show(fw n.B).length+(13-(fw n.B).length)=13 by omega] at this
  ·have hE:n.E=[]:=bo hf.2.1
   cases n;simp at hE;subst hE;rfl
 ·right
  rw[QI];have J:=G;rw[vr U] at J;have hp:=NR n.E;have au:=hp.length_eq;have ar:=aeq n.E;have PC:=U.1;have ak:=NQ n.E 4;have hs:=Ei hK U J (by omega) hm V 4 (aH _);rw[<-J,gy] at hs;refine⟨hK,zH n.E 4,n.E,hs,⟨by omega,λc hc=> ?_,by omega,λp af=> ?_⟩,hp,λi j ai hj=> ?_,?_⟩
  ·have :=hm c hc
   omega
  ·have ag:=hp.mem_iff.2 af
   obtain⟨k,hk,rfl⟩:=bW ag;rw[Lp _ k hk];have :=(oN (U.2.2.2 k hk).1).2;rw[mB] at this;exact this
  ·have aa:=dg.1 (Az U) i j (by omega) hj ai
   rw[Lp _ i (by omega),Lp _ j hj] at aa;cases h:Op.bytesLess (eX n.E j).toList (eX n.E i).toList
   ·rfl
   ·have :=oK _ _ _ aa h
    rw[o5] at this;cases this
  ·have hb:=U.2.2.1
   cases n;simp at hb;subst hb;rfl
theorem NS (h:BG X i n own):own.Nodup:=by
 obtain⟨hi,hs,hF,hR,ho,hL⟩:=h;rcases hR.2.2 with ⟨hK,hf⟩|⟨hK,hD⟩
 ·rw[su hf] at ho
  have :own.length<=1:=by rw[ho];split<;>omega
  match own,this with
  | [],_=>exact List.nodup_nil
  | [c],_=>simp
  |_::_::_,h=>simp at h
 ·rw[vr hD] at ho
  have x9:∀m,m<own.length->∃b j,b<4/\3*j<(eB n.E b).length/\m=fO n.E b+j/\X.getD (1080+8*own.getD m 0+1) 0=((kZ (bl (eX (eB n.E b) (3*j))):Nat):Int):=λm JU=>by
   obtain⟨b,j,hb,J,rfl⟩:=uW n.E (ho▸JU);have h3:3*j<(eB n.E b).length:=by unfold dN at J;omega
   refine⟨b,j,hb,h3,rfl,?_⟩;have z:=hL.1 _ JU;unfold gX at z;rw[aB hK,sk n.E own J hb] at z;have U:=kD X (1080+8*own.getD (fO n.E b+j) 0) 1 (by omega);rw[<-z,X3,oY,Nu _ _ _ (by omega),aB ⟨by omega,by omega⟩,aB rfl] at U;exact U.symm
  rw[List.nodup_iff_pairwise_ne,dg];intro i1 i2 U h2 ak he;obtain⟨b,j,hb,J,e1,w1⟩:=x9 i1 U;obtain⟨V,W,ar,G,e2,w2⟩:=x9 i2 h2;have ai:own.getD i1 0=own.getD i2 0:=by simp[U,h2,he]
  rw[ai,w2] at w1;have hw:kZ (bl (eX (eB n.E V) (3*W)))=kZ (bl (eX (eB n.E b) (3*j))):=by omega
  have g1:=(G0 hD b _ J).1;have g2:=(G0 hD V _ G).1;unfold kZ at hw;rw[aB g1,aB g2] at hw;have XN:=oO g1 (Bl _);rw[<-hw,oO g2 (Bl _)] at XN;have aa:bl (eX (eB n.E V) (3*W))=bl (eX (eB n.E b) (3*j)):=Option.some.inj XN;have ae:∀q k,k<(eB n.E q).length->rS (bl (eX (eB n.E q) k))=q:=λq k hk=>by
   have :=(List.mem_filter.1 (Xy hk)).2;exact beq_iff_eq.1 this
  have ah:b=V:=by rw[<-ae b _ J,<-ae V _ G,aa]
  subst ah;have ag:eX (eB n.E b) (3*W)=eX (eB n.E b) (3*j):=by rw[<-Ff (eX (eB n.E b) (3*W)),aa,Ff]
  have af:(eB n.E b).Pairwise (λx y=>Op.bytesLess x.1.toList y.1.toList=true):=(Az hD).filter _;have ac:=dg.1 af (3*j) (3*W) J G (by omega);rw[Lp _ _ J,Lp _ _ G,ag,o5] at ac;cases ac
def dS (X:List Int) (i:Int):Prop:=fT X i=List.replicate 8 0
instance (X:List Int) (i:Int):Decidable (dS X i):=by unfold dS;infer_instance
def dx (n:bT):Nat:=if n.F=2 then eW n else eY n
structure eH (X:List Int) (i:Int) (n:bT) (own:List Nat):Prop where
 rng:0<=i/\i<32
 len:n.B.length=13
 right:ct n
 mem:∀c∈own,c≠0/\c<256
 nodup:own.Nodup
 laid:(n.F=1/\own.length=eY n/\GH X (824+8*i.toNat) n own)\/(n.F=2/\own.length=eW n/\pO X (fT X i) n own)
theorem eH.ownLen(h:eH X i n own):own.length=dx n:=by
 unfold dx;rcases h.laid with ⟨G,z,-⟩|⟨G,z,-⟩
 ·rw[aA,z]
 ·rw[aB G,z]
theorem NT (z:ct n):eY n<=7:=by
 have h:=jM z;have :=wF n;omega
theorem vA (h:ct n):dx n<=32:=by
 have z:=NT h;have G:=GC h;unfold dx;split<;>omega
theorem eH.tag(h:eH X i n own):(fT X i).getD 0 0=pn n:=by
 rcases h.laid with ⟨-,-,z⟩|⟨-,-,z⟩
 ·unfold fT
  rw[z.row];rfl
 ·rw[<-z.2]
  exact(CW n own).1
theorem NU (h:ct n):pn n%256=n.F/\0<pn n:=by
 obtain⟨hF,J,z⟩:=h;have G:n.K=1\/n.K=2:=z.imp (·.1) (·.1);unfold pn;omega
theorem eH.format(h:eH X i n own):(fT X i).getD 0 0%256=n.F:=by
 rw[h.tag];exact(NU h.right).1
theorem eH.notFree(h:eH X i n own):¬dS X i:=λG=>by
 have z:=h.tag;have J:=(NU h.right).2;rw[G] at z;simp at z;omega
theorem eH.uniq(h:eH X i n own)(z:eH X i n' cX):n'=n/\cX=own:=by
 have hf:=h.format;have aa:=z.format;rcases h.laid with ⟨W,a2,V⟩|⟨W,a2,V⟩
 ·rcases z.laid with ⟨U,J,G⟩|⟨U,J,G⟩
  ·obtain⟨-,c1,c2⟩:=C0 h.len h.right W a2 h.mem V
   obtain⟨-,d1,d2⟩:=C0 z.len z.right U J z.mem G;exact⟨by rw[<-d1,c1],by rw[<-d2,c2]⟩
  ·omega
 ·rcases z.laid with ⟨U,J,G⟩|⟨U,J,G⟩
  ·omega
  ·have r1:=AA h.len ⟨h.rng,W,h.right⟩ a2 h.mem V
   have r2:=AA z.len ⟨z.rng,U,z.right⟩ J z.mem G;exact r1.2.1.uniq r2.2.1 z.right
theorem Vd (z:In64 X)(V:0<=i/\i<32)(h:ng X (fT X i)):eH X i (oC X (fT X i)) (EP X (fT X i)):=by
 obtain⟨J,h2,W,U,h5,h6,G⟩:=U0 z (q:=824+8*i.toNat) h;exact⟨V,W,J,h5,h6,.inl ⟨h2,U,G⟩⟩
theorem Ve (W:n.B.length=13)(V:∀c∈own,0<c/\c<256)(h:BG X i n own):eH X i n own:=by
 have z:=NS h;obtain⟨U,h2,h3,G,h5,h6⟩:=h;exact⟨U,W,G,λc J=>by have :=V c J;omega,z,.inr ⟨h3,h5,h6⟩⟩
theorem Lq (h:eH X i n own)(hF:n.F=1):ng X (fT X i)/\oC X (fT X i)=n/\EP X (fT X i)=own:=by
 rcases h.laid with ⟨G,J,z⟩|⟨G,J,z⟩
 ·exact C0 h.len h.right G J h.mem z
 ·omega
theorem Lr (h:eH X i n own)(hF:n.F=2):BG X i n own:=by
 rcases h.laid with ⟨G,J,z⟩|⟨G,J,z⟩
 ·omega
 ·exact AA h.len ⟨h.rng,G,h.right⟩ J h.mem z
theorem C8{p:Nat}(h:∀j,j<8->Y.getD (p+j) 0=X.getD (p+j) 0):eo Y p=eo X p:=by
 unfold eo;apply dP;intro j z;exact h j (b7.1 z)
theorem eH.same(h:eH X i n own)(h1:∀j,j<8->Y.getD (824+8*i.toNat+j) 0=X.getD (824+8*i.toNat+j) 0)
  (h2:∀c∈own,∀j,j<8->Y.getD (1080+8*c+j) 0=X.getD (1080+8*c+j) 0):eH Y i n own:=by
 have W:eo Y (824+8*i.toNat)=eo X (824+8*i.toNat):=C8 h1;have V:∀m,m<own.length->eo Y (1080+8*own.getD m 0)=eo X (1080+8*own.getD m 0):=λm z=>C8 (h2 _ (jE z))
 refine⟨h.rng,h.len,h.right,h.mem,h.nodup,?_⟩;rcases h.laid with ⟨J,U,G⟩|⟨J,U,G⟩
 ·exact .inl ⟨J,U,by rw[W];exact G.row,λm z=>by rw[V m z];exact G.own m z⟩
 ·refine .inr ⟨J,U,λm z=>by rw[V m z];exact G.1 m z,?_⟩
  unfold fT;rw[W];exact G.2
theorem dS.same(h:dS X i)(z:∀j,j<8->Y.getD (824+8*i.toNat+j) 0=X.getD (824+8*i.toNat+j) 0):dS Y i:=by
 unfold dS fT at *;rw[C8 z];exact h
def cm (X:List Int):List Nat->List (Int×Int)
 | []=>[]
 |b::l=>eI X b false++cm (az X (eI X b false)) l
theorem NV (l:List Nat)(b:Nat):∀X:List Int,cm X (l++[b])=cm X l++eI (az X (cm X l)) b false:=by
 induction l with
 |nil=>intro X;show eI X b false++[]=_;rw[br];rfl
 |cons c l ih=>
  intro X;show eI X c false++cm _ (l++[b])=(eI X c false++cm _ l)++eI (az X (eI X c false++cm _ l)) b false;rw[ih,bz,aV]
theorem YN (X:List Int)(b:Nat)(u:Bool):(eI X b u).length<=1:=by
 unfold eI;split<;>simp
theorem qA (l:List Nat):∀X:List Int,(cm X l).length<=l.length:=by
 induction l with
 |nil=>intro X;exact aH _
 |cons b l ih=>
  intro X;show(eI X b false++cm _ l).length<=_;have h:=YN X b false;have z:=ih (az X (eI X b false));rw[aC,cu];omega
theorem iB (l:List Nat):∀X:List Int,In64 X->X.length=3128->
  In64 (az X (cm X l))/\(∀c,c<256->c≠0->dG (az X (cm X l)) c=(dG X c && !decide (c∈l)))/\(∀k,820<=k->(az X (cm X l)).getD k 0=X.getD k 0):=by
 induction l with
 |nil=>intro X h J;exact⟨h,λc _ _=>by simp[cm,az],λk _=>rfl⟩
 |cons b l ih=>
  intro X h J;have h1:In64 (az X (eI X b false)):=h.put (MI h b false);have h2:(az X (eI X b false)).length=3128:=by rw[cj,J]
  obtain⟨W,k2,k3⟩:=ih _ h1 h2;have e:az X (cm X (b::l))=az (az X (eI X b false)) (cm (az X (eI X b false)) l):=bz _ _ _;rw[e];refine⟨W,λc hc V=> ?_,λk hk=> ?_⟩
  ·rw[k2 c hc V]
   by_cases hb:b=0\/256<=b
   ·have :eI X b false=[]:=aB hb
    rw[this];have U:¬c=b:=by omega
    simp[az,U]
   ·rw[CA h J b (by omega) (by omega)]
    by_cases G:c=b
    ·simp[G]
    ·simp[G]
  ·rw[k3 k hk]
   refine dX _ _ _ λp z=> ?_
   unfold eI at z;split at z
   ·simp at z
   ·rw[au] at z
    subst z;show((816+b/64:Nat):Int).toNat≠k;omega
theorem sA (hm:∀c∈own,c≠0/\c<256)(W:own.Nodup)(hu:∀c∈own,dG X c=true)(h:∀c,c<256->c≠0->dG Y c=(dG X c && !decide (c∈own))):
  (aZ Y).length=(aZ X).length+own.length:=by
 have hp:(aZ Y).Perm (aZ X++own):=by
  apply(List.perm_ext_iff_of_nodup (rR Y 256) ?_).2
  ·intro c
   rw[aT];unfold aZ;rw[ku,ku];constructor
   ·rintro⟨z,J,G⟩
    rw[h c z J] at G;by_cases V:c∈own
    ·exact .inr V
    ·simp[V] at G
     exact .inl ⟨z,J,G⟩
   ·rintro (⟨z,J,G⟩|z)
    ·exact⟨z,J,by rw[h c z J,G];rfl⟩
    ·have :=hm c z
     exact⟨this.2,this.1,by rw[h c this.2 this.1];simp[z]⟩
  ·refine List.nodup_append.2 ⟨rR X 256,W,λa ha b hb U=> ?_⟩
   subst U;have :=(ku.1 ha).2.2;rw[hu a hb] at this;cases this
 rw[hp.length_eq,aC]
theorem C9 (h:∀k,k<820->Y.getD k 0=X.getD k 0):(∀c,c<256->dG Y c=dG X c)/\aZ Y=aZ X:=by
 have G:∀c,c<256->dG Y c=dG X c:=λc z=>by
  unfold dG bw;rw[h _ (by omega)]
 refine⟨G,?_⟩;unfold aZ gY;apply iG;intro c z;rw[G c (b7.1 z)]
def I1 (X:List Int) (i:Nat) (n:bT) (own:List Nat):List (Int×Int):=if n.F=2 then nb X i n own else pN X i n own
structure Da (X:List Int) (i:Int) (n:bT) (own:List Nat) (X':List Int) (cX:List Nat):Prop where
 st:eH X' i n cX
 w64:In64 X'
 len:X'.length=3128
 used:∀c,c<256->c≠0->dG X' c=((dG X c && !decide (c∈own))||decide (c∈cX))
 free:∀c∈cX,(dG X c && !decide (c∈own))=false
 other:∀k,820<=k->¬(824+8*i.toNat<=k/\k<824+8*i.toNat+8)->¬(1080<=k/\(k-1080)/8∈cX)->X'.getD k 0=X.getD k 0
 count:(aZ X').length+dx n=(aZ (az X (cm X own))).length
theorem G3 (h:In64 X)(W:X.length=3128){own:List Nat}(U:∀c∈own,c≠0/\c<256){qs:List (Int×Int)}(hq:∀p∈qs,820<=p.1.toNat):
  (∀c,c<256->dG (az X (dm X own++qs)) c=(dG X c||decide (c∈own)))/\aZ (az X (dm X own++qs))=aZ (az X (dm X own)):=by
 rw[bz];obtain⟨G,V⟩:=C9 (X:=az X (dm X own)) (Y:=az (az X (dm X own)) qs) λk hk=>dX _ _ _ λp J=>by have :=hq p J;omega
 exact⟨λc z=>by rw[G c z,(nP own X h W U).2.2 c z],V⟩
theorem abQ (z:In64 X)(U:X.length=3128){i:Int}{n:bT}(hB:n.B.length=13)(hi:0<=i/\i<32)(hR:ct n)(hn:dx n<=(aZ X).length):
  Da X i n [] (az X (I1 X i.toNat n ((aZ X).take (dx n)))) ((aZ X).take (dx n)):=by
 have G:=uj hn;have hm:∀c∈(aZ X).take (dx n),c≠0/\c<256:=qy;have J:((aZ X).take (dx n)).Nodup:=sx;have po:∀c∈(aZ X).take (dx n),(dG X c && !decide (c∈([]:List Nat)))=false:=λc V=>by
  rw[(ku.1 (bO V)).2.2];rfl
 obtain⟨-,-,ae⟩:=FP z U (dx n);have Lt:∀Y,aZ Y=aZ (az X (dm X ((aZ X).take (dx n))))->(aZ Y).length+dx n=(aZ (az X (cm X []))).length:=λY hY=>by
  rw[hY,ae,bM];show _=(aZ X).length;omega
 have hF:n.F=1\/n.F=2:=hR.1;have Ek:∀c,c<256->∀b:Bool,(dG X c||b)=((dG X c && !decide (c∈([]:List Nat)))||b):=λc _ b=>by simp
 rcases hF with hF|hF
 ·have uZ:dx n=eY n:=aA
  have aa:∀own,I1 X i.toNat n own=pN X i.toNat n own:=λown=>aA
  rw[uZ] at hn G hm J po Lt ⊢;rw[aa];obtain⟨a1,a2,a3⟩:=Yx z U hB ⟨hi,hF,hR⟩ hn;have ag:=jM hR;have af:=wF n;have ac:bp n.E.length<=((aZ X).take (eY n)).length:=by omega
  obtain⟨u1,u2⟩:=G3 z U hm (qs:=wD i.toNat n ((aZ X).take (eY n))) λp W=>by
   rcases sZ ac W with ⟨h,-⟩|⟨h,-⟩<;>omega
  exact⟨⟨hi,hB,hR,hm,J,.inl ⟨hF,G,a1⟩⟩,a2,by rw[cj,U],λc V _=>by rw[<-Ek c V];exact u1 c V,po,a3,by rw[uZ];exact Lt _ u2⟩
 ·have uZ:dx n=eW n:=aB hF
  have aa:∀own,I1 X i.toNat n own=nb X i.toNat n own:=λown=>aB hF
  rw[uZ] at hn G hm J po Lt ⊢;rw[aa];obtain⟨a1,a2,a3⟩:=U2 z U ⟨hi,hF,hR⟩ hn;obtain⟨u1,u2⟩:=G3 z U hm (qs:=ui (gX n ((aZ X).take (eW n))) ((aZ X).take (eW n)) ((aZ X).take (eW n)).length++jP (824+8*i.toNat) (oa n ((aZ X).take (eW n))) 8) λp W=>by
   rcases aT.1 W with W|W
   ·obtain⟨m,j,-,-,h,-⟩:=vt W
    omega
   ·obtain⟨j,-,h,-⟩:=mh W
    omega
  exact⟨⟨hi,hB,hR,hm,J,.inr ⟨hF,G,a1⟩⟩,a2,by rw[cj,U],λc V _=>by rw[<-Ek c V];exact u1 c V,po,a3,by rw[uZ];exact Lt _ u2⟩
def mj (X:List Int) (i:Nat) (n:bT) (own:List Nat):List (Int×Int):=
 cm X own++I1 (az X (cm X own)) i n ((aZ (az X (cm X own))).take (dx n))
theorem abR (U:In64 X)(hX:X.length=3128){i:Int}{n:bT}{own:List Nat}(hB:n.B.length=13)(hi:0<=i/\i<32)(hR:ct n)(hn:dx n<=(aZ (az X (cm X own))).length):
  Da X i n own (az X (mj X i.toNat n own)) ((aZ (az X (cm X own))).take (dx n)):=by
 obtain⟨V,J,g3⟩:=iB own X U hX;have gl:(az X (cm X own)).length=3128:=by rw[cj,hX]
 have h:=abQ V gl hB hi hR hn;have hm:∀c∈(aZ (az X (cm X own))).take (dx n),c≠0/\c<256:=qy;unfold mj;rw[bz];obtain⟨Y,hY⟩:∃Y,Y=az X (cm X own):=⟨_,rfl⟩;rw[<-hY] at V J g3 gl h hm ⊢;refine⟨h.st,h.w64,h.len,λc z h0=> ?_,λc z=> ?_,λk W h1 h2=> ?_,?_⟩
 ·rw[h.used c z h0,J c z h0]
  simp
 ·have :=h.free c z
  have G:=hm c z;rw[J c G.2 G.1] at this;simpa using this
 ·rw[h.other k W h1 h2,g3 k W]
 ·rw[<-hY]
  exact h.count
theorem Da.keeps{X':List Int}{m:bT}{z:List Nat}(h:Da X i n own X' cX)(W:eH X j m z)(ac:i≠j)(hu:∀c∈z,dG X c=true)(hd:∀c∈z,c∉own):eH X' j m z:=by
 have hi:=h.st.rng;have aa:=W.rng;have V:∀c∈z,c∉cX:=λc G J=>by
  have :=h.free c J;rw[hu c G] at this;simp[hd c G] at this
 refine W.same (λk hk=>h.other _ (by omega) (by omega) (λU=>by omega)) λc G k hk=>h.other _ (by omega) (by omega) λU=> ?_
 have :(1080+8*c+k-1080)/8=c:=by omega
 rw[this] at U;exact V c G U.2
theorem Da.free_keeps{z:List Int}{V:List Nat}(h:Da X i n own z V)(U:dS X j)(G:0<=j/\j<32)(J:i≠j):dS z j:=by
 have hi:=h.st.rng;exact U.same λk W=>h.other _ (by omega) (by omega) (λhx=>by omega)
theorem YO (QA:eK w b gp B ps)(ES:C5 (az B ps))(i:Int):
  Calls prog 151 #[b,i] w (sy w (az B ps) i):=by
 have af:=bh.new w (aM ck (.slice none 0 0)) 75;obtain⟨W0,ac⟩:∃W0,W0=w.alloc (.cells (aM ck (.slice none 0 0)) 75):=⟨_,rfl⟩;rw[<-ac] at af;have cM:ay [] w W0:=by
  rw[ac];exact(ay.refl _ _).alloc _
 have bw:W0.heap.size=w.heap.size+1:=by rw[ac];simp
 have bt:=dA;have bq:=lq;have HI:=ar (kz i);have rU:Hid (∀wz,ay [] W0 wz->(∀n' W,¬BG (az B ps) i n' W)->∃w',(storeVar 75 w.heap.size (.agg (aM ck (.slice none 0 0)))).run prog wz= .ok () w'/\(loadVar 75 w.heap.size).run prog w'= .ok (.agg (aM ck (.slice none 0 0))) w'/\sy w (az B ps) i (.returned (.tuple #[aM ck (.slice none 0 0),(),false])) w'):=λwz U hn=>by
  obtain⟨w',q1,q2,q3⟩:=bG (P:= prog) (ty:= 75) (cs:=mZ ck (.slice none 0 0)) iX (af.keep U (by simp)) rfl (kY rfl);exact⟨w',q1,cg q2 rfl,ck,_,w.heap.size,[],_,w.heap.size,false,rfl,rfl,bD.nil _ _,aH _,ma.nil _ _,aH _,(cM.trans' U).trans q3 (by intro x hx;rw[au] at hx;omega),λh=>(by cases h),λ_=>⟨rfl,rfl,hn⟩⟩
 obtain⟨ry,fJ,CX,vT,U9⟩:=hh5 ac cM af QA ES;clear af cM ac QA ES;generalize aU:az B ps=X at *;have SU:=ar aU;clear aU;generalize aT:aM ck (.slice none 0 0)=Z0 at *;have jy:=ar aT;clear aT;have Vc:Z0.size=18:=by rw[<-jy.out];rfl
 by_cases hi:0<=i/\i<32
 ·have ah:gF i=((824+8*i.toNat:Nat):Int):=by rw[gF,aA];omega
  rw[ah] at HI;have bv:¬((824+8*i.toNat:Nat):Int)<0:=by omega
  have nt:=ar (pH (vT.out.keep fJ.out (by simp) (by simp)) (824+8*i.toNat) (by omega));rw[SU.out] at nt;have xG:=iF X (824+8*i.toNat);obtain⟨r,hr⟩:∃r,r=eo X (824+8*i.toNat):=⟨_,rfl⟩;have aN:fT X i=r:=by rw[hr];rfl
  have zD:Hid (C5 r):=by rw[hr];exact C5.row U9.out _
  rw[<-hr] at nt xG;have ae:=ar aN;clear hr aN ah;generalize bc:((824+8*i.toNat:Nat):Int)=pi at *;clear bc;generalize vZ:(aY (List.replicate 8 0)).toArray=Z8 at *;have xE:=ar vZ;clear vZ;go_in;go_wp2_with fail;refine C' (HI.out _) ?_;go_wp2_with fail;refine C' (HI.out _) ?_;go_wp2_with fail;rw[<-ry.out];refine Rr nt.out λw1 aj=> ?_;obtain⟨w2,aP,Mf,aL⟩:=bG (P:= prog) (ty:= 132) (cs:=aY r) (by rw[bB,xG];exact ja) (bh.new w1 Z8 132) (by rw[<-xE.out];simp[bB,xG]) (fk _);have aW:=aj.size;have fo:Hid (ay [] W0 w2):=(aj.alloc (.cells Z8 132)).trans aL (by intro x hx;rw[au] at hx;omega);obtain⟨Qj,EO⟩:=hh2 Mf aP;have SD:Hid (∀J,ay [] w2 J->(loadVar 132 w1.heap.size).run prog J= .ok (.agg (aY r).toArray) J):=λJ U=>fN (Qj.out.keep U (by simp)) xG
  have GZ:=ar (fJ.out.trans' fo.out);have PG:=QW (vT.out.keep GZ.out (by simp) (by simp)) (by rw[SU.out];exact U9.out) xG zD.out;rw[SU.out] at PG;have aF:=ar PG;clear aP Mf aL aj aW nt PG;generalize bo:w1.heap.size=g7 at *;have aX:=ar (SD.out w2 (ay.refl _ _));go_wp2_with(with_reducible first|refine gS 132 EO.out ?_|refine gL 132 aX.out ?_);refine aF.out.mono ?_;rintro e w3 ⟨n,v,g,own,vo,go,ok,rfl,wJ,hE,hg,hO,aC,ai,h1,h2⟩;obtain⟨w4,aR,aG,aD⟩:=bG (P:= prog) (ty:= 75) (cs:=mZ n v) (by rw[gM,wJ];exact iX) (bh.new w3 Z0 75) (by rw[Vc,gM,wJ]) (kY (by obtain⟨a,c,rfl,-⟩:=hE;rfl));have aJ:=ai.size;have qb:Hid (ay [] w2 w4):=(ai.alloc (.cells Z0 75)).trans aD (by intro x hx;rw[au] at hx;omega);have ak:bh w4 w3.heap.size (aM n v) 75 :=aG;have cF:w4.cell? w3.heap.size=some (.int .i64 n.F):=by rw[ak.cell];exact(gG _ wJ).f0
  have Ed:Hid (∀J,ay [] w4 J->(loadVar 75 w3.heap.size).run prog J= .ok (.agg (aM n v)) J):=λJ U=>cg (ak.keep U (by simp)) wJ
  have wI:ay [w3.heap.size] w3 w4:=((ay.refl [w3.heap.size] w3).alloc (.cells Z0 75)).trans' aD;have WY:bD w4 v g n.E:=hE.keep wI (λh0=>by
   have :=hE.apart (l:=[w3.heap.size]) (λx hx=>by rw[au] at hx;omega) h0;exact this)
  have SX:∃aa,ma w4 vo aa own/\w2.heap.size<=aa:=hO.away aC wI (λx hx=>by rw[au] at hx;omega);obtain⟨aa,SX,aV⟩:=SX;obtain⟨Gz,ax⟩:=hh2 WY SX;have tT:Hid ((storeVar 75 w3.heap.size (.agg (aM n v))).run prog (w3.alloc (.cells Z0 75))= .ok () w4):=aR;obtain⟨H1,H2,Br,HG,bk,bp⟩:=hh6 h1 h2 wJ hg aV aJ;clear aR aG ak aD wI WY SX hE hO hg aC aV ai h1 h2 wJ aJ aF;generalize Sw:w3.heap.size=g8 at *;have ag:Hid (ok=true->∀n' W,BG X i n' W->n'=n/\W=own):=λba n' W h=>by
   have :=h.2.1;rw[ae.out] at this;exact(H1.out ba).1.uniq this h.2.2.2.1
  cases ok with
  |false=>
   obtain⟨w9,V,G,z⟩:=rU.out w4 (fo.out.trans' qb.out) (λn' W h=>by have :=h.2.1;rw[ae.out] at this;exact H2.out rfl n' W this);obtain⟨Iw,rZ,Vf⟩:=hh3 V G z;clear V G z rU H1 H2;go_wp2_with(with_reducible first|refine gS 75 tT.out ?_|refine gS 75 Iw.out ?_);exact aI (cJ results151 rfl rZ.out rfl rfl) rfl Vf.out
  |true=>
   by_cases hF:n.F=2
   ·rw[hF] at cF
    have Ny:=ar hF;clear hF;have aS:Hid (∀k,k<n.E.length->(eX n.E k).size<=9223372036854775807):=λk U=>by have :=(H1.out rfl).2.2.2.2 k U;omega
    have BA:Hid (∀J,ay [] w4 J->Calls prog 101 #[aM n v] J λe w'=>e=(decide (ct n))/\ay [] J w'):=λJ U=>oz n v g Br.out J (Gz.out.keep U (by simp)) aS.out
    have bf:Hid (∀J,ay [] w4 J->Calls prog 186 #[aM n v] J λe w'=>e=((if ct n then eW n else 0:Nat):Int)/\ay [] J w'):=λJ U=>Gg n v g Br.out J (Gz.out.keep U (by simp)) (by have :=(H1.out rfl).2.2.2.1;omega) aS.out
    have aZ:Hid (ct n->own.length=eW n->∀J,ay [] w4 J->Calls prog 187 #[b,(aY r).toArray,aM n v,vo] J λe w'=>∃t:Bool,e=t/\(t=true↔pO X r n own)/\ay [] J w'):=λhR hN J U=>by
     have h:=UJ (R:=r) (((vT.out.keep GZ.out (by simp) (by simp)).keep qb.out (by simp) (by simp)).keep U (by simp) (by simp)) n v g Br.out hR (Gz.out.keep U (by simp)) vo aa own (ax.out.keep U (by simp)).reads hN (λc hc=>((H1.out rfl).2.2.1 c hc).2) xG;rw[SU.out] at h;exact h
    have WZ:Hid (∀J,ay [] w4 J->(loadVar 75 g8).run prog J= .ok (.agg (aM n v)) J):=Ed.out;have bg:Hid (v.oneCell'=true):=by obtain⟨a,c,rfl,-⟩:=Gz.out;rfl
    have aK:Hid (∀wz,ay [] w4 wz->BG X i n own->∃w',(storeVar 75 w.heap.size (.agg (aM n v))).run prog wz= .ok () w'/\(loadVar 75 w.heap.size).run prog w'= .ok (.agg (aM n v)) w'/\sy w X i (.returned (.tuple #[aM n v,vo,true])) w'):=λwz U bb=>by
     obtain⟨w',q1,q2,q3⟩:=bG (P:= prog) (ty:= 75) (cs:=mZ n v) (by rw[gM,Br.out];exact iX) (((CX.out.keep fo.out (by simp)).keep qb.out (by simp)).keep U (by simp)) (by rw[Vc,gM,Br.out]) (kY bg.out);have bC:=GZ.out.size;have hg:=HG.out;have aC:=bk.out;have bz:=fo.out.size;refine⟨w',q1,cg q2 Br.out,n,v,g,own,vo,aa,true,rfl,Br.out,(Gz.out.keep U (by simp)).keep q3 (λ_=>by rw[au];omega),by omega,(ax.out.keep U (by simp)).keep q3 (by rw[au];omega),by omega,(GZ.out.trans' (qb.out.trans' U)).trans q3 (by intro x hx;rw[au] at hx;omega),λ_=>⟨bb,(H1.out rfl).2⟩,λh=>by cases h⟩
    have bl:Hid (∀J,ay [] w4 J->(loadVar 132 g7).run prog J= .ok (.agg (aY r).toArray) J):=λJ U=>SD.out J (qb.out.trans' U)
    obtain⟨av,cv,bj,-,-,-⟩:=sV ax.out.reads;subst bj;generalize WV:aM n v=ZN at *;clear WV;go_wp2_with(first|(with_reducible refine gS 75 tT.out ?_)|((with_reducible show wpList _ _ _ (⟨_,.load 75 (.tmp 8),_,_,_,_⟩::_) _ _);refine eA rfl 75 (.tmp 8) rfl _ rfl _ (Ed.out _ (ay.refl _ _)) ?_));refine Rr (BA.out _ (ay.refl _ _)) λw5 lh=> ?_;have qU:=ar lh;clear lh;by_cases hR:ct n
    ·rw[bu hR]
     have aO:=ar hR;go_wp2_with(first|((with_reducible show wpList _ _ _ (⟨_,.load 75 (.tmp 8),_,_,_,_⟩::_) _ _);refine eA rfl 75 (.tmp 8) rfl _ rfl _ (Ed.out _ qU.out) ?_));refine Rr (bf.out _ qU.out) λw6 jv=> ?_;rw[aB hR];have uB:=ar (qU.out.trans' jv);clear jv hR;by_cases hN:own.length=eW n
     ·have NW:=ar hN
      rw[<-hN];clear hN;go_wp2_with(first|((with_reducible show wpList _ _ _ (⟨_,.load 75 (.tmp 8),_,_,_,_⟩::_) _ _);refine eA rfl 75 (.tmp 8) rfl _ rfl _ (Ed.out _ uB.out) ?_)|((with_reducible show wpList _ _ _ (⟨_,.load 132 (.tmp 7),_,_,_,_⟩::_) _ _);refine eA rfl 132 (.tmp 7) rfl _ rfl _ (bl.out _ uB.out) ?_));refine(aZ.out aO.out NW.out _ uB.out).mono ?_;rintro e w7 ⟨t,rfl,ht,xw⟩;obtain⟨J0,HT⟩:=hh2 (uB.out.trans' xw) ht;clear xw ht;cases t with
      |false=>
       obtain⟨w9,V,G,z⟩:=rU.out w7 ((fo.out.trans' qb.out).trans' J0.out) (λn' W h=>by
        obtain⟨rfl,rfl⟩:=ag.out (by trivial) n' W h;have h1:=h.2.2.2.2.2;rw[ae.out] at h1;have :=HT.out.2 h1;cases this)
       obtain⟨Iw,rZ,Vf⟩:=hh3 V G z;clear V G z rU H1 H2 HT;go_wp2_with(first|(with_reducible refine gS 75 Iw.out ?_));exact aI (cJ results151 rfl rZ.out rfl rfl) rfl Vf.out
      |true=>
       obtain⟨w9,V,G,z⟩:=aK.out w7 J0.out ⟨hi,by rw[ae.out];exact(H1.out (by trivial)).1,Ny.out,aO.out,NW.out,by rw[ae.out];exact HT.out.1 rfl⟩;obtain⟨Iw,rZ,Vf,bn⟩:=hh4 V G z (Ed.out _ J0.out);clear V G z rU H1 H2 HT aK;go_wp2_with(with_reducible first|refine gL 75 bn.out ?_|refine gS 75 Iw.out ?_);exact aI (cJ results151 rfl rZ.out rfl rfl) rfl Vf.out
     ·have bA:((own.length:Int)==((eW n:Nat):Int))=false:=by simp;omega
      obtain⟨w9,V,G,z⟩:=rU.out w6 ((fo.out.trans' qb.out).trans' uB.out) (λn' W h=>by obtain⟨rfl,rfl⟩:=ag.out (by trivial) n' W h;exact hN h.2.2.2.2.1);obtain⟨Iw,rZ,Vf⟩:=hh3 V G z;clear V G z rU H1 H2;go_wp2_with(first|(with_reducible refine gS 75 Iw.out ?_));exact aI (cJ results151 rfl rZ.out rfl rfl) rfl Vf.out
    ·rw[aQ hR]
     obtain⟨w9,V,G,z⟩:=rU.out w5 ((fo.out.trans' qb.out).trans' qU.out) (λn' W h=>by obtain⟨rfl,rfl⟩:=ag.out (by trivial) n' W h;exact hR h.2.2.2.1);obtain⟨Iw,rZ,Vf⟩:=hh3 V G z;clear V G z rU H1 H2;go_wp2_with(first|(with_reducible refine gS 75 Iw.out ?_));exact aI (cJ results151 rfl rZ.out rfl rfl) rfl Vf.out
   ·have br:(n.F==2)=false:=by simpa using hF
    obtain⟨w9,V,G,z⟩:=rU.out w4 (fo.out.trans' qb.out) (λn' W h=>by obtain⟨rfl,rfl⟩:=ag.out (by trivial) n' W h;exact hF h.2.2.1);obtain⟨Iw,rZ,Vf⟩:=hh3 V G z;clear V G z rU H1 H2;go_wp2_with(with_reducible first|refine gS 75 tT.out ?_|refine gS 75 Iw.out ?_);exact aI (cJ results151 rfl rZ.out rfl rfl) rfl Vf.out
 ·have ah:gF i= -1:=by rw[gF,aB]
  rw[ah] at HI;obtain⟨w9,V,G,z⟩:=rU.out W0 (ay.refl _ _) (λn' W h=>hi h.1);rw[ry.out] at V;obtain⟨Iw,rZ,Vf⟩:=hh3 V G z;clear V G z rU;go_in;go_wp2_with fail;refine C' (HI.out _) ?_;go_wp2_with(first|(with_reducible refine gS 75 Iw.out ?_));exact aI (cJ results151 rfl rZ.out rfl rfl) rfl Vf.out
theorem AB (i:Int)(w:World):Calls prog 58 #[i] w λe w'=>e=(decide (0<=i/\i<32))/\w=w':=by
 have z:=ar (kz i);by_cases h:0<=i/\i<32
 ·rw[bu h]
  have G:0<=gF i:=by unfold gF;rw[aA];omega
  clear h;go_in;go_wp2_with fail;refine C' (z.out _) ?_;go_wp2_with fail;go_ret;exact⟨rfl,rfl⟩
 ·rw[aQ h]
  have G:¬0<=gF i:=by unfold gF;rw[aB];omega
  clear h;go_in;go_wp2_with fail;refine C' (z.out _) ?_;go_wp2_with fail;go_ret;refine⟨?_,rfl⟩;show Ending.returned (decide (0<=gF i))=_;rw[aQ (by omega)]
theorem SY:(prog.info? 128).map (·.size)=some 2:=by kernel_rfl
theorem abS{b:Value}(h:bh w g #[a,b] 128):(loadVar 128 g).run prog w= .ok (.agg #[a,b]) w:=by
 have :=bZ (P:= prog) (w:=w) g 0 [a,b] underlying128 rfl SY λj z=>by
  rw[bc,h.cell,<-dH]
 simpa using this
theorem G5{b c d:Value}(z:bh w g #[c,d] 128)(J:a.oneCell'=true)(G:b.oneCell'=true):
  ∃w',(storeVar 128 g (.agg #[a,b])).run prog w= .ok () w'/\bh w' g #[a,b] 128/\ay [g] w w':=
 bG (P:= prog) (ty:= 128) (cs:=[a,b]) SY z rfl (by intro v h;simp at h;rcases h with rfl|rfl<;>assumption)
def QZ (w:World) (k:Int) (e:Ending) (w':World):Prop:=
 ay [] w w'/\∃a b,a.oneCell'=true/\b.oneCell'=true/\e= .returned (.tuple #[.agg #[a,b],(decide (k=1\/k=2))])/\
  (k=1->a=(.func (.func 110) #[] #[])/\b=(.func (.func 111) #[] #[]))/\(k=2->a=(.func (.func 112) #[] #[])/\b=(.func (.func 113) #[] #[]))
theorem El (k:Int)(w:World):Calls prog 60 #[k] w (QZ w k):=by
 have aa:=bh.new w #[.nilFunc,.nilFunc] 128;have cM:ay [] w (w.alloc (.cells #[.nilFunc,.nilFunc] 128)):=(ay.refl _ _).alloc _;have G:Hid (∀a b:Value,a.oneCell'=true->b.oneCell'=true->∃w',(storeVar 128 w.heap.size (.agg #[a,b])).run prog (w.alloc (.cells #[.nilFunc,.nilFunc] 128))= .ok () w'/\(loadVar 128 w.heap.size).run prog w'= .ok (.agg #[a,b]) w'/\ay [] w w'):=λa b V W=>by
  obtain⟨w',q1,q2,q3⟩:=G5 aa V W;exact⟨w',q1,abS q2,cM.trans q3 (by simp)⟩
 clear aa cM;by_cases V:k=1
 ·subst V
  obtain⟨w1,z,U,J⟩:=G.out (.func (.func 110) #[] #[]) (.func (.func 111) #[] #[]) rfl rfl;obtain⟨HS,HL,HK⟩:=hh3 z U J;clear z U J G;go_in;go_wp2_with(with_reducible refine gS 128 HS.out ?_);refine aI (eG results60 rfl HL.out rfl) rfl ?_;exact⟨HK.out,_,_,rfl,rfl,rfl,λ_=>⟨rfl,rfl⟩,λh=>by omega⟩
 ·by_cases W:k=2
  ·subst W
   obtain⟨w1,z,U,J⟩:=G.out (.func (.func 112) #[] #[]) (.func (.func 113) #[] #[]) rfl rfl;obtain⟨HS,HL,HK⟩:=hh3 z U J;clear z U J G V;go_in;go_wp2_with(with_reducible refine gS 128 HS.out ?_);refine aI (eG results60 rfl HL.out rfl) rfl ?_;exact⟨HK.out,_,_,rfl,rfl,rfl,λh=>by omega,λ_=>⟨rfl,rfl⟩⟩
  ·obtain⟨w1,z,U,J⟩:=G.out .nilFunc .nilFunc rfl rfl
   obtain⟨HS,HL,HK⟩:=hh3 z U J;have e1:(k==1)=false:=by simpa using V
   have e2:(k==2)=false:=by simpa using W
   have HD:Hid (decide (k=1\/k=2)=false):=aQ (by omega);obtain⟨H1,H2⟩:=hh2 V W;clear z U J G V W;go_in;go_wp2_with(with_reducible refine gS 128 HS.out ?_);refine aI (eG results60 rfl HL.out rfl) rfl ?_;refine⟨HK.out,.nilFunc,.nilFunc,rfl,rfl,?_,λh=>absurd h H1.out,λh=>absurd h H2.out⟩;rw[HD.out];rfl
def tz (b:Nat) (i:Int):Value:= .agg #[b,i]
def Lu (w:World) (b:Nat) (i:Int):World:=(w.alloc (.cells #[b,i] 137)).alloc (.cells (aM ck (.slice none 0 0)) 75)
theorem BH (w:World)(b:Nat)(i:Int):ay [] w (Lu w b i)/\bh (Lu w b i) (w.heap.size+1) (aM ck (.slice none 0 0)) 75 :=by
 refine⟨((ay.refl _ _).alloc _).alloc _,?_⟩;have :=bh.new (w.alloc (.cells #[b,i] 137)) (aM ck (.slice none 0 0)) 75;rwa[show(w.alloc (.cells #[b,i] 137)).heap.size=w.heap.size+1 by simp] at this
theorem G7{G:World}{h:Nat}(hb:bh z h (aM ck (.slice none 0 0)) 75)(hw:w.heap.size<=h)(V:ay [] w z)(J:ay [] z G){n:bT}{v:Value}(U:n.B.length=13)(W:v.oneCell'=true):
  ∃w',(storeVar 75 h (.agg (aM n v))).run prog G= .ok () w'/\(loadVar 75 h).run prog w'= .ok (.agg (aM n v)) w'/\ay [h] G w'/\ay [] w w':=by
 obtain⟨w',q1,q2,q3⟩:=C3 (hb.keep J (by simp)) rfl U W;exact⟨w',q1,cg q2 U,q3,(V.trans' J).trans q3 (by intro x hx;rw[au] at hx;omega)⟩
theorem Q0 (h:eK w b gp B ps)(aa:In64 (az B ps))(i:Int):
  Calls prog 110 #[tz b i] w (mK w (az B ps) i):=by
 obtain⟨cM,J⟩:=BH w b i;obtain⟨HR,p9⟩:=hh2 (abz (h.keep cM (by simp) (by simp)) aa i) J;have rH:=dA;have fJ:=ar cM;clear h aa cM J;unfold tz;generalize V:Lu w b i=W0 at *;have U:(w.alloc (.cells #[b,i] 137)).alloc (.cells (aM ck (.slice none 0 0)) 75)=W0:=V;have ry:=ar U;clear V U;go_in;go_wp2_with fail;rw[ry.out];refine HR.out.mono ?_;rintro e w2 ⟨n,v,g,own,va,ga,ok,rfl,hB,hE,hg,hO,xh,SM,Mj,hk⟩;obtain⟨w3,W,ot,z,G⟩:=G7 p9.out (by omega) fJ.out hk hB (yY hE);obtain⟨HS,HL⟩:=hh2 W ot;have HP:Hid (mK w (az B ps) i (.returned (.tuple #[aM n v,va,ok])) w3):=by
  have hz:=fJ.out.size;refine⟨n,v,g,own,va,ga,ok,rfl,hB,hE.keep z (λh0=> ?_),by omega,hO.keep z ?_,by omega,SM,Mj,G⟩
  ·have :=p9.out.lt
   simp;omega
  ·have :=p9.out.lt
   simp;omega
 clear W ot z G hE hO SM Mj hk HR fJ p9;generalize aM n v=Z at *;go_wp2_with(with_reducible refine gS 75 HS.out ?_);exact aI (cJ results110 rfl HL.out rfl rfl) rfl HP.out
theorem Q4 (h:eK w b gp B ps)(aa:C5 (az B ps))(i:Int):
  Calls prog 112 #[tz b i] w (sy w (az B ps) i):=by
 obtain⟨cM,J⟩:=BH w b i;obtain⟨HR,p9⟩:=hh2 (YO (h.keep cM (by simp) (by simp)) aa i) J;have rH:=dA;have fJ:=ar cM;clear h aa cM J;unfold tz;generalize V:Lu w b i=W0 at *;have U:(w.alloc (.cells #[b,i] 137)).alloc (.cells (aM ck (.slice none 0 0)) 75)=W0:=V;have ry:=ar U;clear V U;go_in;go_wp2_with fail;rw[ry.out];refine HR.out.mono ?_;rintro e w2 ⟨n,v,g,own,va,ga,ok,rfl,hB,hE,hg,hO,xh,hk,SM,Mj⟩;obtain⟨w3,W,ot,z,G⟩:=G7 p9.out (by omega) fJ.out hk hB (yY hE);obtain⟨HS,HL⟩:=hh2 W ot;have HP:Hid (sy w (az B ps) i (.returned (.tuple #[aM n v,va,ok])) w3):=by
  have hz:=fJ.out.size;refine⟨n,v,g,own,va,ga,ok,rfl,hB,hE.keep z (λh0=> ?_),by omega,hO.keep z ?_,by omega,G,SM,Mj⟩
  ·have :=p9.out.lt
   simp;omega
  ·have :=p9.out.lt
   simp;omega
 clear W ot z G hE hO SM Mj hk HR fJ p9;generalize aM n v=Z at *;go_wp2_with(with_reducible refine gS 75 HS.out ?_);exact aI (cJ results112 rfl HL.out rfl rfl) rfl HP.out
theorem Fl (h:eK w b gp B ps)(i:Int):
  Calls prog 59 #[b,i] w λe w'=>e=(decide ((0<=i/\i<32)/\dS (az B ps) i))/\ay [] w w':=by
 obtain⟨J,V⟩:=hh2 (AB i) (kz i);by_cases z:0<=i/\i<32
 ·rw[bu z] at J
  have HR:=ar (pH h (824+8*i.toNat) (by omega));have G:gF i=((824+8*i.toNat:Nat):Int):=by rw[gF,aA];omega
  have aa:=lq;have hq:=MS (iF (az B ps) (824+8*i.toNat)) (bE (n:=8) (a:=(0:Int)));have hg:=xW;have U:Hid (decide (eo (az B ps) (824+8*i.toNat)=List.replicate 8 0)=decide ((0<=i/\i<32)/\dS (az B ps) i)):=by
   apply decide_eq_decide.2;exact⟨λh=>⟨z,h⟩,λh=>h.2⟩
  rw[G] at V;clear h z G;generalize ((824+8*i.toNat:Nat):Int)=p,decide (eo (az B ps) (824+8*i.toNat)=List.replicate 8 0)=q,(aY (eo (az B ps) (824+8*i.toNat))).toArray=Z,(aY (List.replicate 8 0)).toArray=Z8 at *;go_in;go_wp2_with fail;refine C' (J.out _) ?_;go_wp2_with fail;refine C' (V.out _) ?_;go_wp2_with fail;refine Rr HR.out λw' W=> ?_;have HK:=ar W;clear W;go_wp2_with fail;go_ret;refine⟨?_,HK.out⟩;show Ending.returned q=_;rw[U.out]
 ·rw[aQ z] at J
  have U:Hid (decide ((0<=i/\i<32)/\dS (az B ps) i)=false):=aQ λh=>z h.1
  clear h z V;go_in;go_wp2_with fail;refine C' (J.out _) ?_;go_wp2_with fail;go_ret;refine⟨?_,ay.refl _ _⟩;rw[U.out];rfl
theorem wG.mono(G:ay [] w z)(h:wG z b J B ps i n e w'):wG w b J B ps i n e w':=by
 obtain⟨r,qs,gI,U,h2,h3,V,W,h6⟩:=h;have hz:=G.size;refine⟨r,qs,gI,U,by omega,h3,(G.mono (by simp)).trans V λx hx=> .inl hx,W,h6⟩
theorem tj.mono(G:ay [] w z)(h:tj z b J B ps i n e w'):tj w b J B ps i n e w':=by
 obtain⟨r,qs,gI,U,h2,h3,V,W,h6⟩:=h;have hz:=G.size;refine⟨r,qs,gI,U,by omega,h3,(G.mono (by simp)).trans V λx hx=> .inl hx,W,h6⟩
def abT (w:World) (b:Nat) (i:Int) (Z:Array Value):World:=(w.alloc (.cells #[b,i] 137)).alloc (.cells Z 75)
theorem G8 (w:World)(b:Nat)(i:Int)(Z:Array Value):ay [] w (abT w b i Z)/\bh (abT w b i Z) (w.heap.size+1) Z 75 :=by
 refine⟨((ay.refl _ _).alloc _).alloc _,?_⟩;have :=bh.new (w.alloc (.cells #[b,i] 137)) Z 75;rwa[show(w.alloc (.cells #[b,i] 137)).heap.size=w.heap.size+1 by simp] at this
theorem Vg (h:eK w b W B ps)(V:In64 (az B ps))(hT:kN w)(DV:W<w.heap.size)(ac:ps.length<=800000)(i:Int)(n:bT)(v:Value)(g:Nat)(hB:n.B.length=13)(hE:bD w v g n.E)
  (hN:∀k,k<n.E.length->(eX n.E k).size<=9223372036854775807) (aa:n.E.length≠0->g≠b/\g≠W):
  Calls prog 111 #[tz b i,aM n v] w (wG w b W B ps i n):=by
 obtain⟨G,J⟩:=G8 w b i (aM n v);have hz:=G.size;obtain⟨HC,HL⟩:=hh2 ((abF (h.keep G (by simp) (by simp)) V (hT.keep G) (by omega) ac i n v g hB (hE.keep G (by simp)) hN aa).mono λe w'=>wG.mono G) (cg J hB);clear h V G J hE hT hN hz;unfold tz;generalize aM n v=Z at *;generalize U:abT w b i Z=W0 at *;have z:(w.alloc (.cells #[b,i] 137)).alloc (.cells Z 75)=W0:=U;have ry:=ar z;have c1:W0.cell? w.heap.size=some (.pointer (some ⟨b,0,none⟩)):=by rw[<-z];simp
 have c2:W0.cell? ⟨w.heap.size,1,none⟩=some (.int .i64 i):=by rw[<-z];simp
 clear U z;go_in;go_wp2_with((with_reducible show wpList _ _ _ (⟨_,.load 75 (.tmp 3),_,_,_,_⟩::_) _ _);rw[ry.out];refine gJ rfl 75 (.tmp 3) rfl _ rfl _ HL.out ?_);refine HC.out.mono ?_;rintro e w1 hp;have HP:=ar hp;obtain⟨r,qs,gI,rfl,-⟩:=hp;clear HC HL ry c1 c2;go_wp2_with fail;go_ret;exact HP.out
theorem Vh (h:eK w b W B ps)(V:In64 (az B ps))(hT:kN w)(DV:W<w.heap.size)(ac:ps.length<=800000)(i:Int)(n:bT)(v:Value)(g:Nat)(hB:n.B.length=13)(hE:bD w v g n.E)
  (hN:∀k,k<n.E.length->(eX n.E k).size<=9223372036854775807) (aa:n.E.length≠0->g≠b/\g≠W):
  Calls prog 113 #[tz b i,aM n v] w (tj w b W B ps i n):=by
 obtain⟨G,J⟩:=G8 w b i (aM n v);have hz:=G.size;obtain⟨HC,HL⟩:=hh2 ((Yy (h.keep G (by simp) (by simp)) V (hT.keep G) (by omega) ac i n v g hB (hE.keep G (by simp)) hN aa).mono λe w'=>tj.mono G) (cg J hB);clear h V G J hE hT hN hz;unfold tz;generalize aM n v=Z at *;generalize U:abT w b i Z=W0 at *;have z:(w.alloc (.cells #[b,i] 137)).alloc (.cells Z 75)=W0:=U;have ry:=ar z;have c1:W0.cell? w.heap.size=some (.pointer (some ⟨b,0,none⟩)):=by rw[<-z];simp
 have c2:W0.cell? ⟨w.heap.size,1,none⟩=some (.int .i64 i):=by rw[<-z];simp
 clear U z;go_in;go_wp2_with((with_reducible show wpList _ _ _ (⟨_,.load 75 (.tmp 3),_,_,_,_⟩::_) _ _);rw[ry.out];refine gJ rfl 75 (.tmp 3) rfl _ rfl _ HL.out ?_);refine HC.out.mono ?_;rintro e w1 hp;have HP:=ar hp;obtain⟨r,qs,gI,rfl,-⟩:=hp;clear HC HL ry c1 c2;go_wp2_with fail;go_ret;exact HP.out
theorem NY (X:List Int)(l:List Nat)(k:Nat)(h:k<l.length):cm X (l.take (k+1))=cm X (l.take k)++eI (az X (cm X (l.take k))) (l.getD k 0) false:=by
 rw[bP h,NV];simp[h]
theorem Lv (h:eK w b J B ps)(aa:In64 (az B ps))(_:J<w.heap.size)(U:ps.length<=900000){v:Value}{g:Nat}{l:List Nat}(hR:Reads w v g (dL l))(hl:l.length<=1000)(hg:l≠[]->g≠b/\g≠J):
  Calls prog 103 #[b,v] w (jQ w b J B (ps++cm (az B ps) l)):=by
 have hX:(az B ps).length=3128:=h.raw.lx;have ac:=ar hX;have aA:=h.raw.lt;obtain⟨HS,uQ,zN,HR,HG⟩:=hh5 h aa U hR hg;obtain⟨a,cap,rfl,q1,q2,-⟩:=hR;obtain⟨n,hn⟩:∃n,l.length=n:=⟨_,rfl⟩;have HN:=ar hn;rw[fp,hn] at HR q1 ⊢;rw[hn] at hl;clear h aa U hg hX hn;unfold maxLen at q2;go_in;go_wp2_with fail;go_loopg [8] n (λgh s8 wx=>∃k:Nat,k+gh=n/\s8= .int .i64 (k:Int)/\Hid (Onto w b J B (ps++cm (az B ps) (l.take k)) wx))
 case atStart=>exact⟨0,by omega,rfl,by show Onto _ _ _ _ _ _;rw[eP,show cm (az B ps) []=[] from rfl,br];exact Onto.refl HS.out⟩
 case round=>
  obtain⟨k,hk,rfl,HQ⟩:=hrel;cases gk with
  |zero=>
   obtain rfl:k=n:=by omega
   have ah:¬(k:Int)<(k:Int):=by omega
   clear hk;go_wp2_with fail;go_end0;have :=HQ.out;rw[aW (by rw[HN.out];omega)] at this;exact this.post
  |succ gg=>
   have ai:k<n:=by omega
   have ah:(k:Int)<(n:Int):=by omega
   have cM:(0:Int)<=(k:Int):=by omega
   have z:k<l.length:=by rw[HN.out];exact ai
   have W:l≠[]:=by intro e;rw[e] at z;simp at z
   obtain⟨kX,p1,p2,p3⟩:=HQ.out;have Gy:=HG.out W;have ak:=HR.out.keep p3 (by simp;omega);have V:=iB (l.take k) (az B ps) uQ.out ac.out;have af:=qA (l.take k) (az B ps);have au:(l.take k).length<=1000:=by rw[aJ];omega
   have ae:=ar (NY (az B ps) l k z);obtain⟨a',ax,ag,r1,r2,r3⟩:=ak;cases ag;obtain⟨ay,off,rfl,r4⟩:=r3 (by intro e;have :=cP List.length e;rw[fp,cD] at this;omega);have G:=(r4 k (by rw[fp];exact z)).trans (nA z);generalize l.getD k 0=c at *;have X7:Hid (Calls prog 145 #[b,(c:Int),false] wr (jQ wr b kX B ((ps++cm (az B ps) (l.take k))++eI (az (az B ps) (cm (az B ps) (l.take k))) c false))):=by
    have :=MN p2 (by rw[bz];exact V.1) (by rw[aC];have :=zN.out;omega) (c:Int) false;rw[bz,aG] at this;exact this
   obtain⟨aj,Ct⟩:=hh2 p1 p3;clear p1 p2 p3 V af au r1 r2 r3 r4 Gy W;go_wp2_with fail;refine Rr X7.out λw2 ho=> ?_;have HO:Hid (Onto w b J B (ps++cm (az B ps) (l.take (k+1))) w2):=by
    show Onto _ _ _ _ _ _;rw[ae.out,<-aV];exact Onto.trans aj.out Ct.out ho
   clear ho X7 G;go_wp2_with fail;go_roundg gg;case measure=>omega
   case rel=>exact⟨k+1,by omega,by go_num,HO.out⟩
end Go.Proofs.YtimcfdnbpkiniaaGreatDoor
