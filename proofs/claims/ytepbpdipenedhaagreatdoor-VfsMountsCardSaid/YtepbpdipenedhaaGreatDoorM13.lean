/- Lemmas. -/
import Derived.Test.YtepbpdipenedhaaGreatDoorM12
set_option maxHeartbeats 8000000
set_option maxRecDepth 100000
namespace Go.Proofs.YtepbpdipenedhaaGreatDoor
open Go.Proofs.Tryz
open Go.RowKit
variable{n n':bT}{B R X Y:List Int}{cW own:List Nat}{i j:Int}{G w w':World}{J W b g gp:Nat}{ps:List (Int×Int)}{a:Value}{e:Ending}
def BA (X:List Int) (i:Int) (n:bT) (own:List Nat):Prop:=
 (0<=i/\i<32)/\yq X (fS X i) n own/\n.F=2/\cm n/\own.length=eW n/\pQ X (fS X i) n own
def sD (w:World) (X:List Int) (i:Int) (e:Ending) (w':World):Prop:=
 ∃n v g own z h ok,e= .returned (.tuple #[aM n v,z,.bool ok])/\n.B.length=13/\bD w' v g n.E/\w.heap.size<=g/\l9 w' z h own/\w.heap.size<=h/\ay [] w w'/\
  (ok=true->BA X i n own/\own.length<=24/\(∀c,c∈own->0<c/\c<256)/\n.E.length<=72/\∀k,k<n.E.length->(eX n.E k).size<=7)/\(ok=false->n=cg/\own=[]/\∀n' G,¬BA X i n' G)
theorem J2 {lt:ByteArray×Int->ByteArray×Int->Bool}:∀(l2 z:List (ByteArray×Int)),z.Perm l2->z.Pairwise (λa b=>lt b a=false)->l2.Pairwise (λa b=>lt a b=true)->z=l2
 | [],z,hp,_,_=>hp.eq_nil
 |b::t2,[],hp,_,_=>by have :=hp.length_eq;simp at this
 |b::t2,a::t1,hp,h1,h2=>by
  rw[List.pairwise_cons] at h1 h2;by_cases e:a=b
  ·subst e
   rw[J2 t2 t1 (List.Perm.cons_inv hp) h1.2 h2.2]
  ·exfalso
   have J:a∈t2:=by
    rcases aL.1 (hp.mem_iff.1 (jX ..)) with h|h
    ·exact absurd h e
    ·exact h
   have V:b∈t1:=by
    rcases aL.1 (hp.mem_iff.2 (jX ..)) with h|h
    ·exact absurd h.symm e
    ·exact h
   have U:=h2.1 a J;have G:=h1.1 b V;rw[U] at G;cases G
theorem Lr (E:List (ByteArray×Int))(i:Nat)(h:i<E.length):E[i]=(eX E i,jq E i):=by
 simp[eX,jq,h]
theorem Ay (h:pn n):n.E.Pairwise (λa b=>Op.bytesLess a.1.toList b.1.toList=true):=by
 have G:∀k,k+1<n.E.length->Op.bytesLess (eX n.E k).toList (eX n.E (k+1)).toList=true:=λk V=>by
  have U:=(h.2.2.2 (k+1) V).2.2 (by omega);rw[ib,leB,Bool.or_eq_false_iff] at U;exact tu _ _ U.1 (λe=>by have :=U.2;rw[e] at this;simp at this)
 have z:∀d i,i+1+d<n.E.length->Op.bytesLess (eX n.E i).toList (eX n.E (i+1+d)).toList=true:=by
  intro d;induction d with
  |zero=>exact λi J=>G i J
  |succ d ih=>exact λi J=>oL _ _ _ (ih i (by omega)) (G (i+1+d) J)
 rw[df];intro i j J hj W;rw[Lr _ i J,Lr _ j hj];have :=z (j-i-1) i (by omega);rwa[show i+1+(j-i-1)=j by omega] at this
theorem yq.uniq{L:List Int}(h:yq X L n own)(W:yq X L n' cW)(hR:cm n'):n'=n/\cW=own:=by
 rcases h with ⟨h1,l,U,rfl⟩|⟨h1,E,E',U,-,h3,h4,rfl⟩
 ·rcases W with ⟨G,l',z,rfl⟩|⟨G,-⟩
  ·obtain⟨rfl,rfl⟩:=U.inj z
   exact⟨rfl,rfl⟩
  ·omega
 ·rcases W with ⟨G,-⟩|⟨G,F,V,z,-,g3,g4,rfl⟩
  ·omega
  ·rw[U] at z
   cases z;have hd:pn { iR L with E:=V }:=(hR.2.2.resolve_left (λh=>by have :(iR L).K=1:=h.1;omega)).2;have e:E'=V:=by
    refine J2 (lt:=λa b=>Op.bytesLess a.1.toList b.1.toList) V E' (h3.trans g3.symm) ?_ (Ay hd);rw[df];intro i j hi hj J;rw[Lr _ i hi,Lr _ j hj];exact h4 i j J hj
   subst e;exact⟨rfl,rfl⟩
def SU (E:List (ByteArray×Int)):Prop:=∀k,k<E.length->iy (bl (eX E k))=true/\0<=jq E k/\jq E k<=31
theorem YJ{c:List (ByteArray×Int)}(h3:c.length<=3)(W:SU c)(x:Int):oM (zD (eQ c) x)=c.length/\qJ (kI (zD (eQ c) x)) (oM (zD (eQ c) x))/\mJ (kI (zD (eQ c) x)) (oM (zD (eQ c) x))=c:=by
 have J:oM (zD (eQ c) x)=c.length:=by
  refine JY h3 (λj hj=> ?_) ?_
  ·rw[oZ,Nat.mul_comm,(wE c j hj).1]
   have :=NH (W j hj).1;omega
  ·rcases (show c.length=3\/c.length<3 by omega) with h|h
   ·exact .inl h
   ·right
    rw[oZ,aj,aP (by rw[lf];omega)];rfl
 have G:∀i,i<2*c.length->(kI (zD (eQ c) x)).getD i 0=(eQ c).getD i 0:=λi hi=>by
  rw[<-oZ (eQ c) x i,kI,J,aj,bU,aB hi,b8,aj,Nat.add_comm]
 have hw:∀k,k<c.length->(kI (zD (eQ c) x)).getD (k*2) 0=((kZ (bl (eX c k)):Nat):Int)/\(kI (zD (eQ c) x)).getD (k*2+1) 0=jq c k/\kN (kZ (bl (eX c k)))=some (bl (eX c k)):=λk z=>by
  rw[G _ (by omega),G _ (by omega)];obtain⟨V,U⟩:=wE c k z;refine⟨V,U,?_⟩;unfold kZ;rw[aB (W k z).1];exact oP (W k z).1 (Bg _)
 refine⟨J,λk z=> ?_,?_⟩
 ·rw[J] at z
  obtain⟨V,U,e3⟩:=hw k z;rw[V,U,aG,e3];have :=(W k z).2;exact⟨rfl,by omega⟩
 ·refine Xw (by rw[ko,J]) λk z=> ?_
  rw[ko,J] at z;obtain⟨V,U,e3⟩:=hw k z;obtain⟨g1,g2⟩:=CD (kI (zD (eQ c) x)) (oM (zD (eQ c) x)) k (by rw[J];exact z);rw[g1,g2,V,U,aG,e3];exact⟨EY _,rfl⟩
theorem GW (h:pn n)(b:Nat):SU (eB n.E b):=λk G=>by
 obtain⟨j,z,U,J⟩:=E9 G;rw[U,J];exact⟨(h.2.2.2 j z).1,(h.2.2.2 j z).2.1⟩
theorem abH{l:List (ByteArray×Int)}(h:SU l)(x:Nat):SU (yU l x):=λk z=>by
 obtain⟨U,J,G⟩:=E0 l x k z;rw[J,G];exact h _ U
def zG (E:List (ByteArray×Int)):Nat->List (ByteArray×Int)
 |0=>[]
 |b+1=>zG E b++eB E b
theorem abI (l:List (ByteArray×Int))(j:Nat):l.take (3*j)++yU l j=l.take (3*(j+1)):=by
 unfold yU;rw[show 3*(j+1)=3*j+3 by omega,List.take_add]
theorem QX{l:List Nat}{j:Nat}(h:j<l.length):l.take j++[l.getD j 0]=l.take (j+1):=by
 rw[bP h];simp[h]
theorem QY (hK:n.K=2)(hD:pn n)(ho:own.length=fN n.E 4)(PD:own.length<=24)(hm:∀c∈own,c≠0/\c<256)(hL:pQ X R n own){b:Nat}(hb:b<4):
  ∀d j fuel,j+d=dN n.E b->d<fuel->mD X fuel (if j<dN n.E b then ((own.getD (fN n.E b+j) 0:Nat):Int) else 0) (own.take (fN n.E b+j)) (zG n.E b++(eB n.E b).take (3*j))=some (own.take (fN n.E (b+1)),zG n.E (b+1)):=by
 have V:=vg n.E (show b+1<=4 by omega);intro d;induction d with
 |zero=>
  intro j fuel hj W;obtain⟨f,rfl⟩:∃f,fuel=f+1:=⟨fuel-1,by omega⟩;obtain rfl:j=dN n.E b:=by omega
  rw[aA (Nat.lt_irrefl _),mD,aB rfl,fN,zG,aW (l:=eB n.E b) (by unfold dN;omega)]
 |succ d ih=>
  intro j fuel hj W;obtain⟨f,rfl⟩:∃f,fuel=f+1:=⟨fuel-1,by omega⟩;have J:j<dN n.E b:=by omega
  have z:fN n.E b+j<own.length:=by rw[ho];rw[fN] at V;omega
  have hc:=hm _ (jH z);have h:=hL.1 _ z;unfold gX at h;rw[aB hK,sx n.E own J hb] at h;have G:(own.take (fN n.E b+j)).length=fN n.E b+j:=by rw[aJ];omega
  obtain⟨e1,e2,e3⟩:=YJ (c:=yU (eB n.E b) j) (by rw[nU];omega) (abH (GW hD b) j) (if j+1<dN n.E b then ((own.getD (fN n.E b+(j+1)) 0:Nat):Int) else 0);have SG:X.getD (1080+8*own.getD (fN n.E b+j) 0) 0=if j+1<dN n.E b then ((own.getD (fN n.E b+(j+1)) 0:Nat):Int) else 0:=by
   have :=kH X (1080+8*own.getD (fN n.E b+j) 0) 0 (by omega);rw[<-h] at this;exact this.symm
  rw[aB J,mD,aA,G,aA,aG];have U:J0 X (own.getD (fN n.E b+j) 0):=by
   unfold J0;rw[<-h];exact e2
  have hE:yo X (own.getD (fN n.E b+j) 0)=yU (eB n.E b) j:=by
   unfold yo;rw[<-h];exact e3
  rw[aB U,hE,SG,QX z,aV,abI];exact ih (j+1) f (by omega) (by omega)
theorem NQ (E:List (ByteArray×Int)):∀b,(zG E b).length<=3*fN E b
 |0=>by simp[zG]
 |b+1=>by
  have :=NQ E b;rw[zG,fN,aC,dN];omega
theorem aek (E:List (ByteArray×Int)):fN E 4*3<=(zG E 4).length+8:=by
 simp only[zG,fN,dN,aC,bQ];omega
theorem NR:∀E:List (ByteArray×Int),E.Perm (zG E 4)
 | []=>by simp[zG,eB]
 |p::E=>by
  have G:=NR E;have J:=Qo p;simp only[zG,bQ] at G ⊢;have z:∀b,eB (p::E) b=if K7 p=b then p::eB E b else eB E b:=λb=>by
   unfold eB;rw[fD];simp
  rw[z 0,z 1,z 2,z 3];generalize eB E 0=A,eB E 1=B,eB E 2=C,eB E 3=D at *;refine(List.Perm.cons p G).trans ?_;rcases (show K7 p=0\/K7 p=1\/K7 p=2\/K7 p=3 by omega) with h|h|h|h
  ·simp[h]
  ·simp only[h]
   simp only[aV,Nat.one_ne_zero,Nat.reduceEqDiff,↓reduceIte];exact List.perm_middle.symm
  ·simp only[h]
   simp only[aV,Nat.reduceEqDiff,↓reduceIte];have :=(List.perm_middle (a:=p) (l₁:=A++B) (l₂:=C++D)).symm;simpa using this
  ·simp only[h]
   simp only[aV,Nat.reduceEqDiff,↓reduceIte];have :=(List.perm_middle (a:=p) (l₁:=A++B++C) (l₂:=D)).symm;simpa using this
theorem Ea {X:List Int}{n:bT}{own:List Nat}(h:n.K=2)(U:pn n)(W:own.length=fN n.E 4)(V:own.length<=24)(J:∀c∈own,c≠0/\c<256)(G:pQ X (od n own) n own):
  ∀b,b<=4->tB X (od n own) b=some (own.take (fN n.E b),zG n.E b)
 |0,_=>by simp[tB,fN,zG]
 |b+1,hb=>by
  have z:=vg n.E (show b+1<=4 by omega);rw[fN] at z;rw[tB,Ea h U W V J G b (by omega)];show mD X (25-(own.take (fN n.E b)).length) ((od n own).getD (2+b) 0) (own.take (fN n.E b)) (zG n.E b)=_;have :=QY h U W V J G (show b<4 by omega) (dN n.E b) 0 (25-fN n.E b) (by omega) (by omega);rw[dB,Nat.mul_zero,ez,br] at this;rw[(X7 h (show b<4 by omega)).1,aJ,cQ (by omega)];exact this
theorem abJ (z:cm n)(G:R.getD 0 0=po n)(h:R.getD 1 0=n.S):iR R=⟨n.F,n.K,n.L,n.S,List.replicate 13 0,[]⟩:=by
 rw[<-ND z [] 0];unfold iR;rw[G,h];rfl
theorem ajb{A:List Int}(h:A.length=5)(x:Int):(A++[x]).getD 5 0=x/\(A++[x]).take 5=A:=by
 constructor
 ·rw[aj,aR (by omega),h]
  rfl
 ·rw[fH (by omega),aW (by omega)]
theorem GY (a b:Int)(l:List Int):(a::b::l).drop 2=l/\(a::b::l).getD 7 0=l.getD 5 0:=⟨rfl,rfl⟩
theorem Az (hB:n.B.length=13)(ae:yj i n)(J:own.length=eW n)(hm:∀c∈own,c≠0/\c<256)(V:pQ X (fS X i) n own):BA X i n own:=by
 obtain⟨hi,hF,hR⟩:=ae;refine⟨hi,?_,hF,hR,J,V⟩;have aa:=V.2;rw[<-aa] at V ⊢;have QI:=abJ hR (CO n own).1 (CO n own).2;rcases hR.2.2 with ⟨hK,hf⟩|⟨hK,U⟩
 ·left
  rw[QI];refine⟨hK,n.B,?_,?_⟩
  ·have hr:od n own=nr n own:=aA
   have hb:gX n own=kz n:=aA;have au:(fu n.B).length<=13:=mB n.B 13;have uH:∀k,k<13->0<=n.B.getD k 0/\n.B.getD k 0<256:=λk hk=>(hf.2.2.2 k hk).1
   rw[sy hf] at J;by_cases h6:(fu n.B).length<=6
   ·left
    have pq:nr n own=po n::n.S::(fu n.B++List.replicate (6-(fu n.B).length) 0):=aB h6;rw[aA] at J;rw[hr,pq];refine⟨?_,bo J,?_⟩
    ·rw[(GY _ _ _).2,aj]
     by_cases h5:5<(fu n.B).length
     ·rw[ba h5,aD h5]
      exact(Fa (bG h5)).2
     ·rw[aR (by omega),bj]
      split<;>simp
    ·rw[(GY _ _ _).1]
     have :=GP hB uH (6-(fu n.B).length);rwa[show(fu n.B).length+(6-(fu n.B).length)=6 by omega] at this
   ·right
    have pq:nr n own=po n::n.S::((fu n.B).take 5++[9223372036854775808+((own.getD 0 0:Nat):Int)]):=aA h6;have af:kz n=[(fu n.B).drop 5++List.replicate (13-(fu n.B).length) 0]:=aA h6;rw[aB] at J;obtain⟨c,rfl⟩:=List.length_eq_one_iff.1 J;have hc:=hm c (by simp);have z:=V.1 0 (by simp);rw[hb,af] at z;have z:(fu n.B).drop 5++List.replicate (13-(fu n.B).length) 0=dZ X (1080+8*c):=z;have ai:((fu n.B).take 5).length=5:=by rw[aJ];omega
    rw[hr,pq];have hg:[c].getD 0 0=c:=rfl;rw[hg];obtain⟨a1,a2⟩:=ajb ai (9223372036854775808+((c:Nat):Int));obtain⟨d1,d2⟩:=GY (po n) n.S ((fu n.B).take 5++[9223372036854775808+((c:Nat):Int)]);refine⟨c,?_,by omega,hc.2,rfl,?_⟩
    ·rw[d2,a1]
    ·rw[d1,a2,<-z,<-aV,dn]
     have :=GP hB uH (13-(fu n.B).length);rwa[show(fu n.B).length+(13-(fu n.B).length)=13 by omega] at this
  ·have hE:n.E=[]:=bo hf.2.1
   cases n;simp at hE;subst hE;rfl
 ·right
  rw[QI];have G:=J;rw[vD U] at G;have hp:=NR n.E;have ar:=hp.length_eq;have ak:=aek n.E;have PD:=U.1;have av:=NQ n.E 4;have hs:=Ea hK U G (by omega) hm V 4 (aH _);rw[<-G,gy] at hs;refine⟨hK,zG n.E 4,n.E,hs,⟨by omega,λc hc=> ?_,by omega,λp ac=> ?_⟩,hp,λi j ag hj=> ?_,?_⟩
  ·have :=hm c hc
   omega
  ·have ah:=hp.mem_iff.2 ac
   obtain⟨k,hk,rfl⟩:=bY ah;rw[Lr _ k hk];have :=(oO (U.2.2.2 k hk).1).2;rw[mA] at this;exact this
  ·have W:=df.1 (Ay U) i j (by omega) hj ag
   rw[Lr _ i (by omega),Lr _ j hj] at W;cases h:Op.bytesLess (eX n.E j).toList (eX n.E i).toList
   ·rfl
   ·have :=oL _ _ _ W h
    rw[o6] at this;cases this
  ·have hb:=U.2.2.1
   cases n;simp at hb;subst hb;rfl
theorem NS (h:BA X i n own):own.Nodup:=by
 obtain⟨hi,hs,hF,hR,ho,hL⟩:=h;rcases hR.2.2 with ⟨hK,hf⟩|⟨hK,hD⟩
 ·rw[sy hf] at ho
  have :own.length<=1:=by rw[ho];split<;>omega
  match own,this with
  | [],_=>exact List.nodup_nil
  | [c],_=>simp
  |_::_::_,h=>simp at h
 ·rw[vD hD] at ho
  have ya:∀m,m<own.length->∃b j,b<4/\3*j<(eB n.E b).length/\m=fN n.E b+j/\X.getD (1080+8*own.getD m 0+1) 0=((kZ (bl (eX (eB n.E b) (3*j))):Nat):Int):=λm JX=>by
   obtain⟨b,j,hb,J,rfl⟩:=vh n.E (ho▸JX);have h3:3*j<(eB n.E b).length:=by unfold dN at J;omega
   refine⟨b,j,hb,h3,rfl,?_⟩;have z:=hL.1 _ JX;unfold gX at z;rw[aB hK,sx n.E own J hb] at z;have U:=kH X (1080+8*own.getD (fN n.E b+j) 0) 1 (by omega);rw[<-z,XY,oZ,Nu _ _ _ (by omega),aB ⟨by omega,by omega⟩,aB rfl] at U;exact U.symm
  rw[List.nodup_iff_pairwise_ne,df];intro i1 i2 U h2 ai he;obtain⟨b,j,hb,J,e1,w1⟩:=ya i1 U;obtain⟨b',W,ak,G,e2,w2⟩:=ya i2 h2;have ah:own.getD i1 0=own.getD i2 0:=by simp[U,h2,he]
  rw[ah,w2] at w1;have hw:kZ (bl (eX (eB n.E b') (3*W)))=kZ (bl (eX (eB n.E b) (3*j))):=by omega
  have g1:=(GW hD b _ J).1;have g2:=(GW hD b' _ G).1;unfold kZ at hw;rw[aB g1,aB g2] at hw;have XK:=oP g1 (Bg _);rw[<-hw,oP g2 (Bg _)] at XK;have V:bl (eX (eB n.E b') (3*W))=bl (eX (eB n.E b) (3*j)):=Option.some.inj XK;have aa:∀q k,k<(eB n.E q).length->rT (bl (eX (eB n.E q) k))=q:=λq k hk=>by
   have :=(List.mem_filter.1 (Xv hk)).2;exact beq_iff_eq.1 this
  have af:b=b':=by rw[<-aa b _ J,<-aa b' _ G,V]
  subst af;have ae:eX (eB n.E b) (3*W)=eX (eB n.E b) (3*j):=by rw[<-EY (eX (eB n.E b) (3*W)),V,EY]
  have ag:(eB n.E b).Pairwise (λx y=>Op.bytesLess x.1.toList y.1.toList=true):=(Ay hD).filter _;have ac:=df.1 ag (3*j) (3*W) J G (by omega);rw[Lr _ _ J,Lr _ _ G,ae,o6] at ac;cases ac
def dR (X:List Int) (i:Int):Prop:=fS X i=List.replicate 8 0
instance (X:List Int) (i:Int):Decidable (dR X i):=by unfold dR;infer_instance
def dv (n:bT):Nat:=if n.F=2 then eW n else eY n
structure eH (X:List Int) (i:Int) (n:bT) (own:List Nat):Prop where
 rng:0<=i/\i<32
 len:n.B.length=13
 right:cm n
 mem:∀c∈own,c≠0/\c<256
 nodup:own.Nodup
 laid:(n.F=1/\own.length=eY n/\GD X (824+8*i.toNat) n own)\/(n.F=2/\own.length=eW n/\pQ X (fS X i) n own)
theorem eH.ownLen(h:eH X i n own):own.length=dv n:=by
 unfold dv;rcases h.laid with ⟨G,z,-⟩|⟨G,z,-⟩
 ·rw[aA,z]
 ·rw[aB G,z]
theorem NT (z:cm n):eY n<=7:=by
 have h:=jQ z;have :=wM n;omega
theorem vH (h:cm n):dv n<=32:=by
 have G:=NT h;have z:=Gy h;unfold dv;split<;>omega
theorem eH.tag(h:eH X i n own):(fS X i).getD 0 0=po n:=by
 rcases h.laid with ⟨-,-,z⟩|⟨-,-,z⟩
 ·unfold fS
  rw[z.row];rfl
 ·rw[<-z.2]
  exact(CO n own).1
theorem NU (h:cm n):po n%256=n.F/\0<po n:=by
 obtain⟨hF,J,G⟩:=h;have z:n.K=1\/n.K=2:=G.imp (·.1) (·.1);unfold po;omega
theorem eH.format(h:eH X i n own):(fS X i).getD 0 0%256=n.F:=by
 rw[h.tag];exact(NU h.right).1
theorem eH.notFree(h:eH X i n own):¬dR X i:=λG=>by
 have z:=h.tag;have J:=(NU h.right).2;rw[G] at z;simp at z;omega
theorem eH.uniq(h:eH X i n own)(z:eH X i n' cW):n'=n/\cW=own:=by
 have hf:=h.format;have aa:=z.format;rcases h.laid with ⟨a1,W,V⟩|⟨a1,W,V⟩
 ·rcases z.laid with ⟨G,U,J⟩|⟨G,U,J⟩
  ·obtain⟨-,c1,c2⟩:=CU h.len h.right a1 W h.mem V
   obtain⟨-,d1,d2⟩:=CU z.len z.right G U z.mem J;exact⟨by rw[<-d1,c1],by rw[<-d2,c2]⟩
  ·omega
 ·rcases z.laid with ⟨G,U,J⟩|⟨G,U,J⟩
  ·omega
  ·have r1:=Az h.len ⟨h.rng,a1,h.right⟩ W h.mem V
   have r2:=Az z.len ⟨z.rng,G,z.right⟩ U z.mem J;exact r1.2.1.uniq r2.2.1 z.right
theorem Ve (z:In64 X)(hi:0<=i/\i<32)(h:ni X (fS X i)):eH X i (oC X (fS X i)) (EJ X (fS X i)):=by
 obtain⟨h1,h2,J,U,V,G,W⟩:=U1 z (q:=824+8*i.toNat) h;exact⟨hi,J,h1,V,G,.inl ⟨h2,U,W⟩⟩
theorem Vf (U:n.B.length=13)(hm:∀c∈own,0<c/\c<256)(h:BA X i n own):eH X i n own:=by
 have J:=NS h;obtain⟨h1,h2,G,V,W,z⟩:=h;exact⟨h1,U,V,λc hc=>by have :=hm c hc;omega,J,.inr ⟨G,W,z⟩⟩
theorem Lt (h:eH X i n own)(hF:n.F=1):ni X (fS X i)/\oC X (fS X i)=n/\EJ X (fS X i)=own:=by
 rcases h.laid with ⟨G,J,z⟩|⟨G,J,z⟩
 ·exact CU h.len h.right G J h.mem z
 ·omega
theorem Lu (h:eH X i n own)(hF:n.F=2):BA X i n own:=by
 rcases h.laid with ⟨G,J,z⟩|⟨G,J,z⟩
 ·omega
 ·exact Az h.len ⟨h.rng,G,h.right⟩ J h.mem z
theorem C0{p:Nat}(h:∀j,j<8->Y.getD (p+j) 0=X.getD (p+j) 0):dZ Y p=dZ X p:=by
 unfold dZ;apply dM;intro j z;exact h j (bW.1 z)
theorem eH.same(h:eH X i n own)(h1:∀j,j<8->Y.getD (824+8*i.toNat+j) 0=X.getD (824+8*i.toNat+j) 0)
  (h2:∀c∈own,∀j,j<8->Y.getD (1080+8*c+j) 0=X.getD (1080+8*c+j) 0):eH Y i n own:=by
 have W:dZ Y (824+8*i.toNat)=dZ X (824+8*i.toNat):=C0 h1;have V:∀m,m<own.length->dZ Y (1080+8*own.getD m 0)=dZ X (1080+8*own.getD m 0):=λm z=>C0 (h2 _ (jH z))
 refine⟨h.rng,h.len,h.right,h.mem,h.nodup,?_⟩;rcases h.laid with ⟨U,J,G⟩|⟨U,J,G⟩
 ·exact .inl ⟨U,J,by rw[W];exact G.row,λm z=>by rw[V m z];exact G.own m z⟩
 ·refine .inr ⟨U,J,λm z=>by rw[V m z];exact G.1 m z,?_⟩
  unfold fS;rw[W];exact G.2
theorem dR.same(h:dR X i)(z:∀j,j<8->Y.getD (824+8*i.toNat+j) 0=X.getD (824+8*i.toNat+j) 0):dR Y i:=by
 unfold dR fS at *;rw[C0 z];exact h
def cj (X:List Int):List Nat->List (Int×Int)
 | []=>[]
 |b::l=>eI X b false++cj (az X (eI X b false)) l
theorem NV (l:List Nat)(b:Nat):∀X:List Int,cj X (l++[b])=cj X l++eI (az X (cj X l)) b false:=by
 induction l with
 |nil=>intro X;show eI X b false++[]=_;rw[br];rfl
 |cons c l ih=>
  intro X;show eI X c false++cj _ (l++[b])=(eI X c false++cj _ l)++eI (az X (eI X c false++cj _ l)) b false;rw[ih,bz,aV]
theorem YK (X:List Int)(b:Nat)(u:Bool):(eI X b u).length<=1:=by
 unfold eI;split<;>simp
theorem qA (l:List Nat):∀X:List Int,(cj X l).length<=l.length:=by
 induction l with
 |nil=>intro X;exact aH _
 |cons b l ih=>
  intro X;show(eI X b false++cj _ l).length<=_;have z:=YK X b false;have h:=ih (az X (eI X b false));rw[aC,cr];omega
theorem iD (l:List Nat):∀X:List Int,In64 X->X.length=3128->
  In64 (az X (cj X l))/\(∀c,c<256->c≠0->dF (az X (cj X l)) c=(dF X c && !decide (c∈l)))/\(∀k,820<=k->(az X (cj X l)).getD k 0=X.getD k 0):=by
 induction l with
 |nil=>intro X h J;exact⟨h,λc _ _=>by simp[cj,az],λk _=>rfl⟩
 |cons b l ih=>
  intro X h J;have h1:In64 (az X (eI X b false)):=h.put (MH h b false);have h2:(az X (eI X b false)).length=3128:=by rw[ct,J]
  obtain⟨k1,k2,k3⟩:=ih _ h1 h2;have e:az X (cj X (b::l))=az (az X (eI X b false)) (cj (az X (eI X b false)) l):=bz _ _ _;rw[e];refine⟨k1,λc hc U=> ?_,λk W=> ?_⟩
  ·rw[k2 c hc U]
   by_cases hb:b=0\/256<=b
   ·have :eI X b false=[]:=aB hb
    rw[this];have V:¬c=b:=by omega
    simp[az,V]
   ·rw[Cu h J b (by omega) (by omega)]
    by_cases G:c=b
    ·simp[G]
    ·simp[G]
  ·rw[k3 k W]
   refine dW _ _ _ λp z=> ?_
   unfold eI at z;split at z
   ·simp at z
   ·rw[au] at z
    subst z;show((816+b/64:Nat):Int).toNat≠k;omega
theorem sF (hm:∀c∈own,c≠0/\c<256)(hn:own.Nodup)(W:∀c∈own,dF X c=true)(h:∀c,c<256->c≠0->dF Y c=(dF X c && !decide (c∈own))):
  (aZ Y).length=(aZ X).length+own.length:=by
 have hp:(aZ Y).Perm (aZ X++own):=by
  apply(List.perm_ext_iff_of_nodup (rS Y 256) ?_).2
  ·intro c
   rw[aT];unfold aZ;rw[kx,kx];constructor
   ·rintro⟨z,J,G⟩
    rw[h c z J] at G;by_cases V:c∈own
    ·exact .inr V
    ·simp[V] at G
     exact .inl ⟨z,J,G⟩
   ·rintro (⟨z,J,G⟩|z)
    ·exact⟨z,J,by rw[h c z J,G];rfl⟩
    ·have :=hm c z
     exact⟨this.2,this.1,by rw[h c this.2 this.1];simp[z]⟩
  ·refine List.nodup_append.2 ⟨rS X 256,hn,λa ha b hb U=> ?_⟩
   subst U;have :=(kx.1 ha).2.2;rw[W a hb] at this;cases this
 rw[hp.length_eq,aC]
theorem C2 (h:∀k,k<820->Y.getD k 0=X.getD k 0):(∀c,c<256->dF Y c=dF X c)/\aZ Y=aZ X:=by
 have G:∀c,c<256->dF Y c=dF X c:=λc z=>by
  unfold dF bw;rw[h _ (by omega)]
 refine⟨G,?_⟩;unfold aZ gY;apply iH;intro c z;rw[G c (bW.1 z)]
def I4 (X:List Int) (i:Nat) (n:bT) (own:List Nat):List (Int×Int):=if n.F=2 then ng X i n own else pO X i n own
structure C3 (X:List Int) (i:Int) (n:bT) (own:List Nat) (X':List Int) (cW:List Nat):Prop where
 st:eH X' i n cW
 w64:In64 X'
 len:X'.length=3128
 used:∀c,c<256->c≠0->dF X' c=((dF X c && !decide (c∈own))||decide (c∈cW))
 free:∀c∈cW,(dF X c && !decide (c∈own))=false
 other:∀k,820<=k->¬(824+8*i.toNat<=k/\k<824+8*i.toNat+8)->¬(1080<=k/\(k-1080)/8∈cW)->X'.getD k 0=X.getD k 0
 count:(aZ X').length+dv n=(aZ (az X (cj X own))).length
theorem GZ (h:In64 X)(J:X.length=3128){own:List Nat}(U:∀c∈own,c≠0/\c<256){qs:List (Int×Int)}(V:∀p∈qs,820<=p.1.toNat):
  (∀c,c<256->dF (az X (dh X own++qs)) c=(dF X c||decide (c∈own)))/\aZ (az X (dh X own++qs))=aZ (az X (dh X own)):=by
 rw[bz];obtain⟨h1,W⟩:=C2 (X:=az X (dh X own)) (Y:=az (az X (dh X own)) qs) λk hk=>dW _ _ _ λp G=>by have :=V p G;omega
 exact⟨λc z=>by rw[h1 c z,(nQ own X h J U).2.2 c z],W⟩
theorem abK (z:In64 X)(W:X.length=3128){i:Int}{n:bT}(hB:n.B.length=13)(hi:0<=i/\i<32)(hR:cm n)(hn:dv n<=(aZ X).length):
  C3 X i n [] (az X (I4 X i.toNat n ((aZ X).take (dv n)))) ((aZ X).take (dv n)):=by
 have G:=uw hn;have hm:∀c∈(aZ X).take (dv n),c≠0/\c<256:=qy;have J:((aZ X).take (dv n)).Nodup:=sB;have pq:∀c∈(aZ X).take (dv n),(dF X c && !decide (c∈([]:List Nat)))=false:=λc hc=>by
  rw[(kx.1 (bO hc)).2.2];rfl
 obtain⟨-,-,ac⟩:=FN z W (dv n);have Lv:∀Y,aZ Y=aZ (az X (dh X ((aZ X).take (dv n))))->(aZ Y).length+dv n=(aZ (az X (cj X []))).length:=λY hY=>by
  rw[hY,ac,bM];show _=(aZ X).length;omega
 have hF:n.F=1\/n.F=2:=hR.1;have Eb:∀c,c<256->∀b:Bool,(dF X c||b)=((dF X c && !decide (c∈([]:List Nat)))||b):=λc _ b=>by simp
 rcases hF with hF|hF
 ·have vz:dv n=eY n:=aA
  have V:∀own,I4 X i.toNat n own=pO X i.toNat n own:=λown=>aA
  rw[vz] at hn G hm J pq Lv ⊢;rw[V];obtain⟨a1,a2,a3⟩:=Yu z W hB ⟨hi,hF,hR⟩ hn;have ae:=jQ hR;have af:=wM n;have aa:bp n.E.length<=((aZ X).take (eY n)).length:=by omega
  obtain⟨u1,u2⟩:=GZ z W hm (qs:=wJ i.toNat n ((aZ X).take (eY n))) λp U=>by
   rcases tq aa U with ⟨h,-⟩|⟨h,-⟩<;>omega
  exact⟨⟨hi,hB,hR,hm,J,.inl ⟨hF,G,a1⟩⟩,a2,by rw[ct,W],λc hc _=>by rw[<-Eb c hc];exact u1 c hc,pq,a3,by rw[vz];exact Lv _ u2⟩
 ·have vz:dv n=eW n:=aB hF
  have V:∀own,I4 X i.toNat n own=ng X i.toNat n own:=λown=>aB hF
  rw[vz] at hn G hm J pq Lv ⊢;rw[V];obtain⟨a1,a2,a3⟩:=U3 z W ⟨hi,hF,hR⟩ hn;obtain⟨u1,u2⟩:=GZ z W hm (qs:=uu (gX n ((aZ X).take (eW n))) ((aZ X).take (eW n)) ((aZ X).take (eW n)).length++jT (824+8*i.toNat) (od n ((aZ X).take (eW n))) 8) λp U=>by
   rcases aT.1 U with U|U
   ·obtain⟨m,j,-,-,h,-⟩:=vF U
    omega
   ·obtain⟨j,-,h,-⟩:=mg U
    omega
  exact⟨⟨hi,hB,hR,hm,J,.inr ⟨hF,G,a1⟩⟩,a2,by rw[ct,W],λc hc _=>by rw[<-Eb c hc];exact u1 c hc,pq,a3,by rw[vz];exact Lv _ u2⟩
def mi (X:List Int) (i:Nat) (n:bT) (own:List Nat):List (Int×Int):=
 cj X own++I4 (az X (cj X own)) i n ((aZ (az X (cj X own))).take (dv n))
theorem abL (J:In64 X)(hX:X.length=3128){i:Int}{n:bT}{own:List Nat}(hB:n.B.length=13)(hi:0<=i/\i<32)(hR:cm n)(hn:dv n<=(aZ (az X (cj X own))).length):
  C3 X i n own (az X (mi X i.toNat n own)) ((aZ (az X (cj X own))).take (dv n)):=by
 obtain⟨W,U,g3⟩:=iD own X J hX;have gl:(az X (cj X own)).length=3128:=by rw[ct,hX]
 have h:=abK W gl hB hi hR hn;have hm:∀c∈(aZ (az X (cj X own))).take (dv n),c≠0/\c<256:=qy;unfold mi;rw[bz];obtain⟨Y,hY⟩:∃Y,Y=az X (cj X own):=⟨_,rfl⟩;rw[<-hY] at W U g3 gl h hm ⊢;refine⟨h.st,h.w64,h.len,λc z h0=> ?_,λc z=> ?_,λk V h1 h2=> ?_,?_⟩
 ·rw[h.used c z h0,U c z h0]
  simp
 ·have :=h.free c z
  have G:=hm c z;rw[U c G.2 G.1] at this;simpa using this
 ·rw[h.other k V h1 h2,g3 k V]
 ·rw[<-hY]
  exact h.count
theorem C3.keeps{X':List Int}{m:bT}{W z:List Nat}(h:C3 X i n own X' W)(hj:eH X j m z)(aa:i≠j)(hu:∀c∈z,dF X c=true)(hd:∀c∈z,c∉own):eH X' j m z:=by
 have hi:=h.st.rng;have ac:=hj.rng;have V:∀c∈z,c∉W:=λc G J=>by
  have :=h.free c J;rw[hu c G] at this;simp[hd c G] at this
 refine hj.same (λk hk=>h.other _ (by omega) (by omega) (λU=>by omega)) λc G k hk=>h.other _ (by omega) (by omega) λU=> ?_
 have :(1080+8*c+k-1080)/8=c:=by omega
 rw[this] at U;exact V c G U.2
theorem C3.free_keeps{z:List Int}{G:List Nat}(h:C3 X i n own z G)(V:dR X j)(U:0<=j/\j<32)(J:i≠j):dR z j:=by
 have hi:=h.st.rng;exact V.same λk W=>h.other _ (by omega) (by omega) (λhx=>by omega)
theorem YL (QA:eK w b gp B ps)(EM:CY (az B ps))(i:Int):
  Calls prog 173 #[b,i] w (sD w (az B ps) i):=by
 have ah:=bh.new w (aM cg (.slice none 0 0)) 111;obtain⟨W0,ae⟩:∃W0,W0=w.alloc (.cells (aM cg (.slice none 0 0)) 111):=⟨_,rfl⟩;rw[<-ae] at ah;have cJ:ay [] w W0:=by
  rw[ae];exact(ay.refl _ _).alloc _
 have bz:W0.heap.size=w.heap.size+1:=by rw[ae];simp
 have bw:=dz;have bv:=lj;have HI:=ar (kC i);have rV:Hid (∀wz,ay [] W0 wz->(∀n' W,¬BA (az B ps) i n' W)->∃w',(storeVar 111 w.heap.size (.agg (aM cg (.slice none 0 0)))).run prog wz= .ok () w'/\(loadVar 111 w.heap.size).run prog w'= .ok (.agg (aM cg (.slice none 0 0))) w'/\sD w (az B ps) i (.returned (.tuple #[aM cg (.slice none 0 0),(),false])) w'):=λwz U hn=>by
  obtain⟨w',q1,q2,q3⟩:=bH (P:= prog) (ty:= 111) (cs:=na cg (.slice none 0 0)) iZ (ah.keep U (by simp)) rfl (kY rfl);exact⟨w',q1,b9 q2 rfl,cg,_,w.heap.size,[],_,w.heap.size,false,rfl,rfl,bD.nil _ _,aH _,l9.nil _ _,aH _,(cJ.trans' U).trans q3 (by intro x hx;rw[au] at hx;omega),λh=>(by cases h),λ_=>⟨rfl,rfl,hn⟩⟩
 obtain⟨ru,fI,CQ,vZ,Va⟩:=hh5 ae cJ ah QA EM;clear ah cJ ae QA EM;generalize aR:az B ps=X at *;have SS:=ar aR;clear aR;generalize aT:aM cg (.slice none 0 0)=Z0 at *;have jt:=ar aT;clear aT;have Vd:Z0.size=18:=by rw[<-jt.out];rfl
 by_cases hi:0<=i/\i<32
 ·have af:gF i=((824+8*i.toNat:Nat):Int):=by rw[gF,aA];omega
  rw[af] at HI;have bo:¬((824+8*i.toNat:Nat):Int)<0:=by omega
  have nu:=ar (pI (vZ.out.keep fI.out (by simp) (by simp)) (824+8*i.toNat) (by omega));rw[SS.out] at nu;have xK:=iG X (824+8*i.toNat);obtain⟨r,hr⟩:∃r,r=dZ X (824+8*i.toNat):=⟨_,rfl⟩;have aF:fS X i=r:=by rw[hr];rfl
  have zC:Hid (CY r):=by rw[hr];exact CY.row Va.out _
  rw[<-hr] at nu xK;have ac:=ar aF;clear hr aF af;generalize bk:((824+8*i.toNat:Nat):Int)=pi at *;clear bk;generalize wC:(aY (List.replicate 8 0)).toArray=Z8 at *;have xJ:=ar wC;clear wC;go_in;go_wp2_with fail;refine C' (HI.out _) ?_;go_wp2_with fail;refine C' (HI.out _) ?_;go_wp2_with fail;rw[<-ru.out];refine Rr nu.out λw1 ax=> ?_;obtain⟨w2,aV,Mh,aJ⟩:=bH (P:= prog) (ty:= 195) (cs:=aY r) (by rw[bB,xK];exact jc) (bh.new w1 Z8 195) (by rw[<-xJ.out];simp[bB,xK]) (fh _);have bl:=ax.size;have fx:Hid (ay [] W0 w2):=(ax.alloc (.cells Z8 195)).trans aJ (by intro x hx;rw[au] at hx;omega);obtain⟨Qj,EI⟩:=hh2 Mh aV;have SC:Hid (∀J,ay [] w2 J->(loadVar 195 w1.heap.size).run prog J= .ok (.agg (aY r).toArray) J):=λJ U=>fM (Qj.out.keep U (by simp)) xK
  have GV:=ar (fI.out.trans' fx.out);have PH:=QW (vZ.out.keep GV.out (by simp) (by simp)) (by rw[SS.out];exact Va.out) xK zC.out;rw[SS.out] at PH;have aN:=ar PH;clear aV Mh aJ ax bl nu PH;generalize bC:w1.heap.size=g7 at *;have bf:=ar (SC.out w2 (ay.refl _ _));go_wp2_with(with_reducible first|refine gS 195 EI.out ?_|refine gL 195 bf.out ?_);refine aN.out.mono ?_;rintro e w3 ⟨n,v,g,own,vo,go,ok,rfl,wQ,hE,hg,hO,aC,aD,h1,h2⟩;obtain⟨w4,aL,aG,ai⟩:=bH (P:= prog) (ty:= 111) (cs:=na n v) (by rw[gM,wQ];exact iZ) (bh.new w3 Z0 111) (by rw[Vd,gM,wQ]) (kY (by obtain⟨a,c,rfl,-⟩:=hE;rfl));have aK:=aD.size;have qb:Hid (ay [] w2 w4):=(aD.alloc (.cells Z0 111)).trans ai (by intro x hx;rw[au] at hx;omega);have aj:bh w4 w3.heap.size (aM n v) 111 :=aG;have cF:w4.cell? w3.heap.size=some (.int .i64 n.F):=by rw[aj.cell];exact(gG _ wQ).f0
  have IA:Hid (∀J,ay [] w4 J->(loadVar 111 w3.heap.size).run prog J= .ok (.agg (aM n v)) J):=λJ U=>b9 (aj.keep U (by simp)) wQ
  have wP:ay [w3.heap.size] w3 w4:=((ay.refl [w3.heap.size] w3).alloc (.cells Z0 111)).trans' ai;have WV:bD w4 v g n.E:=hE.keep wP (λh0=>by
   have :=hE.apart (l:=[w3.heap.size]) (λx hx=>by rw[au] at hx;omega) h0;exact this)
  have SV:∃aa,l9 w4 vo aa own/\w2.heap.size<=aa:=hO.away aC wP (λx hx=>by rw[au] at hx;omega);obtain⟨aa,SV,aO⟩:=SV;obtain⟨Gw,ak⟩:=hh2 WV SV;have tZ:Hid ((storeVar 111 w3.heap.size (.agg (aM n v))).run prog (w3.alloc (.cells Z0 111))= .ok () w4):=aL;obtain⟨H1,H2,Bl,HG,bb,bA⟩:=hh6 h1 h2 wQ hg aO aK;clear aL aG aj ai wP WV SV hE hO hg aC aO aD h1 h2 wQ aK aN;generalize Sv:w3.heap.size=g8 at *;have ag:Hid (ok=true->∀n' W,BA X i n' W->n'=n/\W=own):=λbj n' W h=>by
   have :=h.2.1;rw[ac.out] at this;exact(H1.out bj).1.uniq this h.2.2.2.1
  cases ok with
  |false=>
   obtain⟨w9,V,z,G⟩:=rV.out w4 (fx.out.trans' qb.out) (λn' W h=>by have :=h.2.1;rw[ac.out] at this;exact H2.out rfl n' W this);obtain⟨Iw,sf,Vg⟩:=hh3 V z G;clear V z G rV H1 H2;go_wp2_with(with_reducible first|refine gS 111 tZ.out ?_|refine gS 111 Iw.out ?_);exact aI (cH results173 rfl sf.out rfl rfl) rfl Vg.out
  |true=>
   by_cases hF:n.F=2
   ·rw[hF] at cF
    have Ny:=ar hF;clear hF;have aU:Hid (∀k,k<n.E.length->(eX n.E k).size<=9223372036854775807):=λk U=>by have :=(H1.out rfl).2.2.2.2 k U;omega
    have Bu:Hid (∀J,ay [] w4 J->Calls prog 96 #[aM n v] J λe w'=>e=(decide (cm n))/\ay [] J w'):=λJ U=>oz n v g Bl.out J (Gw.out.keep U (by simp)) aU.out
    have aX:Hid (∀J,ay [] w4 J->Calls prog 199 #[aM n v] J λe w'=>e=((if cm n then eW n else 0:Nat):Int)/\ay [] J w'):=λJ U=>Gd n v g Bl.out J (Gw.out.keep U (by simp)) (by have :=(H1.out rfl).2.2.2.1;omega) aU.out
    have bc:Hid (cm n->own.length=eW n->∀J,ay [] w4 J->Calls prog 200 #[b,(aY r).toArray,aM n v,vo] J λe w'=>∃t:Bool,e=t/\(t=true↔pQ X r n own)/\ay [] J w'):=λhR hN J U=>by
     have h:=UK (R:=r) (((vZ.out.keep GV.out (by simp) (by simp)).keep qb.out (by simp) (by simp)).keep U (by simp) (by simp)) n v g Bl.out hR (Gw.out.keep U (by simp)) vo aa own (ak.out.keep U (by simp)).reads hN (λc hc=>((H1.out rfl).2.2.1 c hc).2) xK;rw[SS.out] at h;exact h
    have WW:Hid (∀J,ay [] w4 J->(loadVar 111 g8).run prog J= .ok (.agg (aM n v)) J):=IA.out;have aZ:Hid (v.oneCell'=true):=by obtain⟨a,c,rfl,-⟩:=Gw.out;rfl
    have aP:Hid (∀wz,ay [] w4 wz->BA X i n own->∃w',(storeVar 111 w.heap.size (.agg (aM n v))).run prog wz= .ok () w'/\(loadVar 111 w.heap.size).run prog w'= .ok (.agg (aM n v)) w'/\sD w X i (.returned (.tuple #[aM n v,vo,true])) w'):=λwz U bn=>by
     obtain⟨w',q1,q2,q3⟩:=bH (P:= prog) (ty:= 111) (cs:=na n v) (by rw[gM,Bl.out];exact iZ) (((CQ.out.keep fx.out (by simp)).keep qb.out (by simp)).keep U (by simp)) (by rw[Vd,gM,Bl.out]) (kY aZ.out);have bt:=GV.out.size;have hg:=HG.out;have aC:=bb.out;have bp:=fx.out.size;refine⟨w',q1,b9 q2 Bl.out,n,v,g,own,vo,aa,true,rfl,Bl.out,(Gw.out.keep U (by simp)).keep q3 (λ_=>by rw[au];omega),by omega,(ak.out.keep U (by simp)).keep q3 (by rw[au];omega),by omega,(GV.out.trans' (qb.out.trans' U)).trans q3 (by intro x hx;rw[au] at hx;omega),λ_=>⟨bn,(H1.out rfl).2⟩,λh=>by cases h⟩
    have ba:Hid (∀J,ay [] w4 J->(loadVar 195 g7).run prog J= .ok (.agg (aY r).toArray) J):=λJ U=>SC.out J (qb.out.trans' U)
    obtain⟨av,cv,bg,-,-,-⟩:=sX ak.out.reads;subst bg;generalize WR:aM n v=ZN at *;clear WR;go_wp2_with(first|(with_reducible refine gS 111 tZ.out ?_)|((with_reducible show wpList _ _ _ (⟨_,.load 111 (.tmp 8),_,_,_,_⟩::_) _ _);refine eA rfl 111 (.tmp 8) rfl _ rfl _ (IA.out _ (ay.refl _ _)) ?_));refine Rr (Bu.out _ (ay.refl _ _)) λw5 kR=> ?_;have qR:=ar kR;clear kR;by_cases hR:cm n
    ·rw[bu hR]
     have aS:=ar hR;go_wp2_with(first|((with_reducible show wpList _ _ _ (⟨_,.load 111 (.tmp 8),_,_,_,_⟩::_) _ _);refine eA rfl 111 (.tmp 8) rfl _ rfl _ (IA.out _ qR.out) ?_));refine Rr (aX.out _ qR.out) λw6 jW=> ?_;rw[aB hR];have tX:=ar (qR.out.trans' jW);clear jW hR;by_cases hN:own.length=eW n
     ·have NW:=ar hN
      rw[<-hN];clear hN;go_wp2_with(first|((with_reducible show wpList _ _ _ (⟨_,.load 111 (.tmp 8),_,_,_,_⟩::_) _ _);refine eA rfl 111 (.tmp 8) rfl _ rfl _ (IA.out _ tX.out) ?_)|((with_reducible show wpList _ _ _ (⟨_,.load 195 (.tmp 7),_,_,_,_⟩::_) _ _);refine eA rfl 195 (.tmp 7) rfl _ rfl _ (ba.out _ tX.out) ?_));refine(bc.out aS.out NW.out _ tX.out).mono ?_;rintro e w7 ⟨t,rfl,ht,yl⟩;obtain⟨J3,HT⟩:=hh2 (tX.out.trans' yl) ht;clear yl ht;cases t with
      |false=>
       obtain⟨w9,V,z,G⟩:=rV.out w7 ((fx.out.trans' qb.out).trans' J3.out) (λn' W h=>by
        obtain⟨rfl,rfl⟩:=ag.out (by trivial) n' W h;have h1:=h.2.2.2.2.2;rw[ac.out] at h1;have :=HT.out.2 h1;cases this)
       obtain⟨Iw,sf,Vg⟩:=hh3 V z G;clear V z G rV H1 H2 HT;go_wp2_with(first|(with_reducible refine gS 111 Iw.out ?_));exact aI (cH results173 rfl sf.out rfl rfl) rfl Vg.out
      |true=>
       obtain⟨w9,V,z,G⟩:=aP.out w7 J3.out ⟨hi,by rw[ac.out];exact(H1.out (by trivial)).1,Ny.out,aS.out,NW.out,by rw[ac.out];exact HT.out.1 rfl⟩;obtain⟨Iw,sf,Vg,aW⟩:=hh4 V z G (IA.out _ J3.out);clear V z G rV H1 H2 HT aP;go_wp2_with(with_reducible first|refine gL 111 aW.out ?_|refine gS 111 Iw.out ?_);exact aI (cH results173 rfl sf.out rfl rfl) rfl Vg.out
     ·have bq:((own.length:Int)==((eW n:Nat):Int))=false:=by simp;omega
      obtain⟨w9,V,z,G⟩:=rV.out w6 ((fx.out.trans' qb.out).trans' tX.out) (λn' W h=>by obtain⟨rfl,rfl⟩:=ag.out (by trivial) n' W h;exact hN h.2.2.2.2.1);obtain⟨Iw,sf,Vg⟩:=hh3 V z G;clear V z G rV H1 H2;go_wp2_with(first|(with_reducible refine gS 111 Iw.out ?_));exact aI (cH results173 rfl sf.out rfl rfl) rfl Vg.out
    ·rw[aQ hR]
     obtain⟨w9,V,z,G⟩:=rV.out w5 ((fx.out.trans' qb.out).trans' qR.out) (λn' W h=>by obtain⟨rfl,rfl⟩:=ag.out (by trivial) n' W h;exact hR h.2.2.2.1);obtain⟨Iw,sf,Vg⟩:=hh3 V z G;clear V z G rV H1 H2;go_wp2_with(first|(with_reducible refine gS 111 Iw.out ?_));exact aI (cH results173 rfl sf.out rfl rfl) rfl Vg.out
   ·have br:(n.F==2)=false:=by simpa using hF
    obtain⟨w9,V,z,G⟩:=rV.out w4 (fx.out.trans' qb.out) (λn' W h=>by obtain⟨rfl,rfl⟩:=ag.out (by trivial) n' W h;exact hF h.2.2.1);obtain⟨Iw,sf,Vg⟩:=hh3 V z G;clear V z G rV H1 H2;go_wp2_with(with_reducible first|refine gS 111 tZ.out ?_|refine gS 111 Iw.out ?_);exact aI (cH results173 rfl sf.out rfl rfl) rfl Vg.out
 ·have af:gF i= -1:=by rw[gF,aB]
  rw[af] at HI;obtain⟨w9,V,z,G⟩:=rV.out W0 (ay.refl _ _) (λn' W h=>hi h.1);rw[ru.out] at V;obtain⟨Iw,sf,Vg⟩:=hh3 V z G;clear V z G rV;go_in;go_wp2_with fail;refine C' (HI.out _) ?_;go_wp2_with(first|(with_reducible refine gS 111 Iw.out ?_));exact aI (cH results173 rfl sf.out rfl rfl) rfl Vg.out
theorem AA (i:Int)(w:World):Calls prog 95 #[i] w λe w'=>e=(decide (0<=i/\i<32))/\w=w':=by
 have z:=ar (kC i);by_cases h:0<=i/\i<32
 ·rw[bu h]
  have G:0<=gF i:=by unfold gF;rw[aA];omega
  clear h;go_in;go_wp2_with fail;refine C' (z.out _) ?_;go_wp2_with fail;go_ret;exact⟨rfl,rfl⟩
 ·rw[aQ h]
  have G:¬0<=gF i:=by unfold gF;rw[aB];omega
  clear h;go_in;go_wp2_with fail;refine C' (z.out _) ?_;go_wp2_with fail;go_ret;refine⟨?_,rfl⟩;show Ending.returned (decide (0<=gF i))=_;rw[aQ (by omega)]
theorem SX:(prog.info? 148).map (·.size)=some 2:=by kernel_rfl
theorem abM{b:Value}(h:bh w g #[a,b] 148):(loadVar 148 g).run prog w= .ok (.agg #[a,b]) w:=by
 have :=b7 (P:= prog) (w:=w) g 0 [a,b] underlying148 rfl SX λj z=>by
  rw[bc,h.cell,<-dG]
 simpa using this
theorem G0{b c d:Value}(G:bh w g #[c,d] 148)(J:a.oneCell'=true)(z:b.oneCell'=true):
  ∃w',(storeVar 148 g (.agg #[a,b])).run prog w= .ok () w'/\bh w' g #[a,b] 148/\ay [g] w w':=
 bH (P:= prog) (ty:= 148) (cs:=[a,b]) SX G rfl (by intro v h;simp at h;rcases h with rfl|rfl<;>assumption)
def QZ (w:World) (k:Int) (e:Ending) (w':World):Prop:=
 ay [] w w'/\∃a b,a.oneCell'=true/\b.oneCell'=true/\e= .returned (.tuple #[.agg #[a,b],(decide (k=1\/k=2))])/\
  (k=1->a=(.func (.func 143) #[] #[])/\b=(.func (.func 144) #[] #[]))/\(k=2->a=(.func (.func 145) #[] #[])/\b=(.func (.func 146) #[] #[]))
theorem Ec (k:Int)(w:World):Calls prog 100 #[k] w (QZ w k):=by
 have aa:=bh.new w #[.nilFunc,.nilFunc] 148;have cJ:ay [] w (w.alloc (.cells #[.nilFunc,.nilFunc] 148)):=(ay.refl _ _).alloc _;have G:Hid (∀a b:Value,a.oneCell'=true->b.oneCell'=true->∃w',(storeVar 148 w.heap.size (.agg #[a,b])).run prog (w.alloc (.cells #[.nilFunc,.nilFunc] 148))= .ok () w'/\(loadVar 148 w.heap.size).run prog w'= .ok (.agg #[a,b]) w'/\ay [] w w'):=λa b V W=>by
  obtain⟨w',q1,q2,q3⟩:=G0 aa V W;exact⟨w',q1,abM q2,cJ.trans q3 (by simp)⟩
 clear aa cJ;by_cases V:k=1
 ·subst V
  obtain⟨w1,z,U,J⟩:=G.out (.func (.func 143) #[] #[]) (.func (.func 144) #[] #[]) rfl rfl;obtain⟨HS,HL,HK⟩:=hh3 z U J;clear z U J G;go_in;go_wp2_with(with_reducible refine gS 148 HS.out ?_);refine aI (eG results100 rfl HL.out rfl) rfl ?_;exact⟨HK.out,_,_,rfl,rfl,rfl,λ_=>⟨rfl,rfl⟩,λh=>by omega⟩
 ·by_cases W:k=2
  ·subst W
   obtain⟨w1,z,U,J⟩:=G.out (.func (.func 145) #[] #[]) (.func (.func 146) #[] #[]) rfl rfl;obtain⟨HS,HL,HK⟩:=hh3 z U J;clear z U J G V;go_in;go_wp2_with(with_reducible refine gS 148 HS.out ?_);refine aI (eG results100 rfl HL.out rfl) rfl ?_;exact⟨HK.out,_,_,rfl,rfl,rfl,λh=>by omega,λ_=>⟨rfl,rfl⟩⟩
  ·obtain⟨w1,z,U,J⟩:=G.out .nilFunc .nilFunc rfl rfl
   obtain⟨HS,HL,HK⟩:=hh3 z U J;have e1:(k==1)=false:=by simpa using V
   have e2:(k==2)=false:=by simpa using W
   have HD:Hid (decide (k=1\/k=2)=false):=aQ (by omega);obtain⟨H1,H2⟩:=hh2 V W;clear z U J G V W;go_in;go_wp2_with(with_reducible refine gS 148 HS.out ?_);refine aI (eG results100 rfl HL.out rfl) rfl ?_;refine⟨HK.out,.nilFunc,.nilFunc,rfl,rfl,?_,λh=>absurd h H1.out,λh=>absurd h H2.out⟩;rw[HD.out];rfl
def tC (b:Nat) (i:Int):Value:= .agg #[b,i]
def Lx (w:World) (b:Nat) (i:Int):World:=(w.alloc (.cells #[b,i] 152)).alloc (.cells (aM cg (.slice none 0 0)) 111)
theorem BB (w:World)(b:Nat)(i:Int):ay [] w (Lx w b i)/\bh (Lx w b i) (w.heap.size+1) (aM cg (.slice none 0 0)) 111 :=by
 refine⟨((ay.refl _ _).alloc _).alloc _,?_⟩;have :=bh.new (w.alloc (.cells #[b,i] 152)) (aM cg (.slice none 0 0)) 111;rwa[show(w.alloc (.cells #[b,i] 152)).heap.size=w.heap.size+1 by simp] at this
theorem G1{z:World}{h:Nat}(W:bh z h (aM cg (.slice none 0 0)) 111)(hw:w.heap.size<=h)(V:ay [] w z)(J:ay [] z G){n:bT}{v:Value}(U:n.B.length=13)(h1:v.oneCell'=true):
  ∃w',(storeVar 111 h (.agg (aM n v))).run prog G= .ok () w'/\(loadVar 111 h).run prog w'= .ok (.agg (aM n v)) w'/\ay [h] G w'/\ay [] w w':=by
 obtain⟨w',q1,q2,q3⟩:=CW (W.keep J (by simp)) rfl U h1;exact⟨w',q1,b9 q2 U,q3,(V.trans' J).trans q3 (by intro x hx;rw[au] at hx;omega)⟩
theorem Q0 (h:eK w b gp B ps)(U:In64 (az B ps))(i:Int):
  Calls prog 143 #[tC b i] w (mK w (az B ps) i):=by
 obtain⟨cJ,G⟩:=BB w b i;obtain⟨HR,qa⟩:=hh2 (abt (h.keep cJ (by simp) (by simp)) U i) G;have rG:=dz;have fI:=ar cJ;clear h U cJ G;unfold tC;generalize aa:Lx w b i=W0 at *;have W:(w.alloc (.cells #[b,i] 152)).alloc (.cells (aM cg (.slice none 0 0)) 111)=W0:=aa;have ru:=ar W;clear aa W;go_in;go_wp2_with fail;rw[ru.out];refine HR.out.mono ?_;rintro e w2 ⟨n,v,g,own,va,ga,ok,rfl,hB,hE,hg,hO,xp,SL,Mm,hk⟩;obtain⟨w3,V,ot,z,J⟩:=G1 qa.out (by omega) fI.out hk hB (yY hE);obtain⟨HS,HL⟩:=hh2 V ot;have HP:Hid (mK w (az B ps) i (.returned (.tuple #[aM n v,va,ok])) w3):=by
  have hz:=fI.out.size;refine⟨n,v,g,own,va,ga,ok,rfl,hB,hE.keep z (λh0=> ?_),by omega,hO.keep z ?_,by omega,SL,Mm,J⟩
  ·have :=qa.out.lt
   simp;omega
  ·have :=qa.out.lt
   simp;omega
 clear V ot z J hE hO SL Mm hk HR fI qa;generalize aM n v=Z at *;go_wp2_with(with_reducible refine gS 111 HS.out ?_);exact aI (cH results143 rfl HL.out rfl rfl) rfl HP.out
theorem Q4 (h:eK w b gp B ps)(U:CY (az B ps))(i:Int):
  Calls prog 145 #[tC b i] w (sD w (az B ps) i):=by
 obtain⟨cJ,G⟩:=BB w b i;obtain⟨HR,qa⟩:=hh2 (YL (h.keep cJ (by simp) (by simp)) U i) G;have rG:=dz;have fI:=ar cJ;clear h U cJ G;unfold tC;generalize aa:Lx w b i=W0 at *;have W:(w.alloc (.cells #[b,i] 152)).alloc (.cells (aM cg (.slice none 0 0)) 111)=W0:=aa;have ru:=ar W;clear aa W;go_in;go_wp2_with fail;rw[ru.out];refine HR.out.mono ?_;rintro e w2 ⟨n,v,g,own,va,ga,ok,rfl,hB,hE,hg,hO,xp,hk,SL,Mm⟩;obtain⟨w3,V,ot,z,J⟩:=G1 qa.out (by omega) fI.out hk hB (yY hE);obtain⟨HS,HL⟩:=hh2 V ot;have HP:Hid (sD w (az B ps) i (.returned (.tuple #[aM n v,va,ok])) w3):=by
  have hz:=fI.out.size;refine⟨n,v,g,own,va,ga,ok,rfl,hB,hE.keep z (λh0=> ?_),by omega,hO.keep z ?_,by omega,J,SL,Mm⟩
  ·have :=qa.out.lt
   simp;omega
  ·have :=qa.out.lt
   simp;omega
 clear V ot z J hE hO SL Mm hk HR fI qa;generalize aM n v=Z at *;go_wp2_with(with_reducible refine gS 111 HS.out ?_);exact aI (cH results145 rfl HL.out rfl rfl) rfl HP.out
theorem Fe (h:eK w b gp B ps)(i:Int):
  Calls prog 129 #[b,i] w λe w'=>e=(decide ((0<=i/\i<32)/\dR (az B ps) i))/\ay [] w w':=by
 obtain⟨J,U⟩:=hh2 (AA i) (kC i);by_cases z:0<=i/\i<32
 ·rw[bu z] at J
  have HR:=ar (pI h (824+8*i.toNat) (by omega));have G:gF i=((824+8*i.toNat:Nat):Int):=by rw[gF,aA];omega
  have aa:=lj;have hq:=MR (iG (az B ps) (824+8*i.toNat)) (bE (n:=8) (a:=(0:Int)));have hg:=xX;have V:Hid (decide (dZ (az B ps) (824+8*i.toNat)=List.replicate 8 0)=decide ((0<=i/\i<32)/\dR (az B ps) i)):=by
   apply decide_eq_decide.2;exact⟨λh=>⟨z,h⟩,λh=>h.2⟩
  rw[G] at U;clear h z G;generalize ((824+8*i.toNat:Nat):Int)=p,decide (dZ (az B ps) (824+8*i.toNat)=List.replicate 8 0)=q,(aY (dZ (az B ps) (824+8*i.toNat))).toArray=Z,(aY (List.replicate 8 0)).toArray=Z8 at *;go_in;go_wp2_with fail;refine C' (J.out _) ?_;go_wp2_with fail;refine C' (U.out _) ?_;go_wp2_with fail;refine Rr HR.out λw' W=> ?_;have HK:=ar W;clear W;go_wp2_with fail;go_ret;refine⟨?_,HK.out⟩;show Ending.returned q=_;rw[V.out]
 ·rw[aQ z] at J
  have V:Hid (decide ((0<=i/\i<32)/\dR (az B ps) i)=false):=aQ λh=>z h.1
  clear h z U;go_in;go_wp2_with fail;refine C' (J.out _) ?_;go_wp2_with fail;go_ret;refine⟨?_,ay.refl _ _⟩;rw[V.out];rfl
theorem wN.mono(z:ay [] w G)(h:wN G b J B ps i n e w'):wN w b J B ps i n e w':=by
 obtain⟨r,qs,U,h1,h2,W,h4,h5,V⟩:=h;have hz:=z.size;refine⟨r,qs,U,h1,by omega,W,(z.mono (by simp)).trans h4 λx hx=> .inl hx,h5,V⟩
theorem tv.mono(z:ay [] w G)(h:tv G b J B ps i n e w'):tv w b J B ps i n e w':=by
 obtain⟨r,qs,U,h1,h2,W,h4,h5,V⟩:=h;have hz:=z.size;refine⟨r,qs,U,h1,by omega,W,(z.mono (by simp)).trans h4 λx hx=> .inl hx,h5,V⟩
def abN (w:World) (b:Nat) (i:Int) (Z:Array Value):World:=(w.alloc (.cells #[b,i] 152)).alloc (.cells Z 111)
theorem G3 (w:World)(b:Nat)(i:Int)(Z:Array Value):ay [] w (abN w b i Z)/\bh (abN w b i Z) (w.heap.size+1) Z 111 :=by
 refine⟨((ay.refl _ _).alloc _).alloc _,?_⟩;have :=bh.new (w.alloc (.cells #[b,i] 152)) Z 111;rwa[show(w.alloc (.cells #[b,i] 152)).heap.size=w.heap.size+1 by simp] at this
theorem Vh (h:eK w b W B ps)(U:In64 (az B ps))(hT:lD w)(Ew:W<w.heap.size)(aa:ps.length<=800000)(i:Int)(n:bT)(v:Value)(g:Nat)(hB:n.B.length=13)(hE:bD w v g n.E)
  (hN:∀k,k<n.E.length->(eX n.E k).size<=9223372036854775807) (ac:n.E.length≠0->g≠b/\g≠W):
  Calls prog 144 #[tC b i,aM n v] w (wN w b W B ps i n):=by
 obtain⟨G,J⟩:=G3 w b i (aM n v);have hz:=G.size;obtain⟨HC,HL⟩:=hh2 ((abz (h.keep G (by simp) (by simp)) U (hT.keep G) (by omega) aa i n v g hB (hE.keep G (by simp)) hN ac).mono λe w'=>wN.mono G) (b9 J hB);clear h U G J hE hT hN hz;unfold tC;generalize aM n v=Z at *;generalize V:abN w b i Z=W0 at *;have z:(w.alloc (.cells #[b,i] 152)).alloc (.cells Z 111)=W0:=V;have ru:=ar z;have c1:W0.cell? w.heap.size=some (.pointer (some ⟨b,0,none⟩)):=by rw[<-z];simp
 have c2:W0.cell? ⟨w.heap.size,1,none⟩=some (.int .i64 i):=by rw[<-z];simp
 clear V z;go_in;go_wp2_with((with_reducible show wpList _ _ _ (⟨_,.load 111 (.tmp 3),_,_,_,_⟩::_) _ _);rw[ru.out];refine gJ rfl 111 (.tmp 3) rfl _ rfl _ HL.out ?_);refine HC.out.mono ?_;rintro e w1 hp;have HP:=ar hp;obtain⟨r,qs,gI,rfl,-⟩:=hp;clear HC HL ru c1 c2;go_wp2_with fail;go_ret;exact HP.out
theorem Vi (h:eK w b W B ps)(U:In64 (az B ps))(hT:lD w)(Ew:W<w.heap.size)(aa:ps.length<=800000)(i:Int)(n:bT)(v:Value)(g:Nat)(hB:n.B.length=13)(hE:bD w v g n.E)
  (hN:∀k,k<n.E.length->(eX n.E k).size<=9223372036854775807) (ac:n.E.length≠0->g≠b/\g≠W):
  Calls prog 146 #[tC b i,aM n v] w (tv w b W B ps i n):=by
 obtain⟨G,J⟩:=G3 w b i (aM n v);have hz:=G.size;obtain⟨HC,HL⟩:=hh2 ((Yv (h.keep G (by simp) (by simp)) U (hT.keep G) (by omega) aa i n v g hB (hE.keep G (by simp)) hN ac).mono λe w'=>tv.mono G) (b9 J hB);clear h U G J hE hT hN hz;unfold tC;generalize aM n v=Z at *;generalize V:abN w b i Z=W0 at *;have z:(w.alloc (.cells #[b,i] 152)).alloc (.cells Z 111)=W0:=V;have ru:=ar z;have c1:W0.cell? w.heap.size=some (.pointer (some ⟨b,0,none⟩)):=by rw[<-z];simp
 have c2:W0.cell? ⟨w.heap.size,1,none⟩=some (.int .i64 i):=by rw[<-z];simp
 clear V z;go_in;go_wp2_with((with_reducible show wpList _ _ _ (⟨_,.load 111 (.tmp 3),_,_,_,_⟩::_) _ _);rw[ru.out];refine gJ rfl 111 (.tmp 3) rfl _ rfl _ HL.out ?_);refine HC.out.mono ?_;rintro e w1 hp;have HP:=ar hp;obtain⟨r,qs,gI,rfl,-⟩:=hp;clear HC HL ru c1 c2;go_wp2_with fail;go_ret;exact HP.out
theorem NY (X:List Int)(l:List Nat)(k:Nat)(h:k<l.length):cj X (l.take (k+1))=cj X (l.take k)++eI (az X (cj X (l.take k))) (l.getD k 0) false:=by
 rw[bP h,NV];simp[h]
theorem Lz (h:eK w b J B ps)(U:In64 (az B ps))(_:J<w.heap.size)(V:ps.length<=900000){v:Value}{g:Nat}{l:List Nat}(hR:Reads w v g (dK l))(hl:l.length<=1000)(hg:l≠[]->g≠b/\g≠J):
  Calls prog 99 #[b,v] w (jU w b J B (ps++cj (az B ps) l)):=by
 have hX:(az B ps).length=3128:=h.raw.lx;have ak:=ar hX;have aA:=h.raw.lt;obtain⟨HS,uV,zM,HR,HG⟩:=hh5 h U V hR hg;obtain⟨a,cap,rfl,q1,q2,-⟩:=hR;obtain⟨n,hn⟩:∃n,l.length=n:=⟨_,rfl⟩;have HN:=ar hn;rw[fk,hn] at HR q1 ⊢;rw[hn] at hl;clear h U V hg hX hn;unfold maxLen at q2;go_in;go_wp2_with fail;go_loopg [8] n (λgh s8 wx=>∃k:Nat,k+gh=n/\s8= .int .i64 (k:Int)/\Hid (Onto w b J B (ps++cj (az B ps) (l.take k)) wx))
 case atStart=>exact⟨0,by omega,rfl,by show Onto _ _ _ _ _ _;rw[ez,show cj (az B ps) []=[] from rfl,br];exact Onto.refl HS.out⟩
 case round=>
  obtain⟨k,hk,rfl,HQ⟩:=hrel;cases gk with
  |zero=>
   obtain rfl:k=n:=by omega
   have au:¬(k:Int)<(k:Int):=by omega
   clear hk;go_wp2_with fail;go_end0;have :=HQ.out;rw[aW (by rw[HN.out];omega)] at this;exact this.post
  |succ gg=>
   have ae:k<n:=by omega
   have au:(k:Int)<(n:Int):=by omega
   have cJ:(0:Int)<=(k:Int):=by omega
   have z:k<l.length:=by rw[HN.out];exact ae
   have W:l≠[]:=by intro e;rw[e] at z;simp at z
   obtain⟨kX,p1,p2,p3⟩:=HQ.out;have Gv:=HG.out W;have ah:=HR.out.keep p3 (by simp;omega);have aa:=iD (l.take k) (az B ps) uV.out ak.out;have ag:=qA (l.take k) (az B ps);have ac:(l.take k).length<=1000:=by rw[aJ];omega
   have aj:=ar (NY (az B ps) l k z);obtain⟨a',av,af,r1,r2,r3⟩:=ah;cases af;obtain⟨ay,off,rfl,r4⟩:=r3 (by intro e;have :=cN List.length e;rw[fk,cC] at this;omega);have G:=(r4 k (by rw[fk];exact z)).trans (nB z);generalize l.getD k 0=c at *;have X4:Hid (Calls prog 142 #[b,(c:Int),false] wr (jU wr b kX B ((ps++cj (az B ps) (l.take k))++eI (az (az B ps) (cj (az B ps) (l.take k))) c false))):=by
    have :=MM p2 (by rw[bz];exact aa.1) (by rw[aC];have :=zM.out;omega) (c:Int) false;rw[bz,aG] at this;exact this
   obtain⟨ai,Cm⟩:=hh2 p1 p3;clear p1 p2 p3 aa ag ac r1 r2 r3 r4 Gv W;go_wp2_with fail;refine Rr X4.out λw2 ho=> ?_;have HO:Hid (Onto w b J B (ps++cj (az B ps) (l.take (k+1))) w2):=by
    show Onto _ _ _ _ _ _;rw[aj.out,<-aV];exact Onto.trans ai.out Cm.out ho
   clear ho X4 G;go_wp2_with fail;go_roundg gg;case measure=>omega
   case rel=>exact⟨k+1,by omega,by go_num,HO.out⟩
end Go.Proofs.YtepbpdipenedhaaGreatDoor
