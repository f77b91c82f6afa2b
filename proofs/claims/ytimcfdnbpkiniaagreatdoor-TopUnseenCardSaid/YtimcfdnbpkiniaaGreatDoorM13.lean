/- Lemmas. -/
import Derived.Test.YtimcfdnbpkiniaaGreatDoorM12
set_option maxHeartbeats 8000000
set_option maxRecDepth 100000
namespace Go.Proofs.YtimcfdnbpkiniaaGreatDoor
open Go.Proofs.Tryz
open Go.RowKit
variable{n:bS}{B R X Y:List Int}{own:List Nat}{i j:Int}{G w w':World}{J W b g gp:Nat}{ps:List (Int×Int)}{a:Value}{e:Ending}
def SU (E:List (ByteArray×Int)):Prop:=∀k,k<E.length->ig (bl (eY E k))=true/\0<=jq E k/\jq E k<=31
theorem YS{c:List (ByteArray×Int)}(h3:c.length<=3)(J:SU c)(x:Int):oY (Bf (eU c) x)=c.length/\qD (kW (Bf (eU c) x)) (oY (Bf (eU c) x))/\mA (kW (Bf (eU c) x)) (oY (Bf (eU c) x))=c:=by
 have G:oY (Bf (eU c) x)=c.length:=by
  refine JQ h3 (λj W=> ?_) ?_
  ·rw[oK,Nat.mul_comm,(vY c j W).1]
   have :=Nw (J j W).1;omega
  grind [oK,kT]
 have z:∀i,i<2*c.length->(kW (Bf (eU c) x)).getD i 0=(eU c).getD i 0:=λi hi=>by
  rw[<-oK (eU c) x i,kW,G,aj,bU,aB hi,cj,aj,Nat.add_comm]
 have hw:∀k,k<c.length->(kW (Bf (eU c) x)).getD (k*2) 0=((kS (bl (eY c k)):Nat):Int)/\(kW (Bf (eU c) x)).getD (k*2+1) 0=jq c k/\kD (kS (bl (eY c k)))=some (bl (eY c k)):=λk h=>by
  rw[z _ (by omega),z _ (by omega)];obtain⟨U,V⟩:=vY c k h;refine⟨U,V,?_⟩;unfold kS;rw[aB (J k h).1];exact oC (J k h).1 (A9 _)
 refine⟨G,λk h=> ?_,?_⟩
 ·rw[G] at h
  obtain⟨U,V,e3⟩:=hw k h;rw[U,V,aF,e3];have :=(J k h).2;exact⟨rfl,by omega⟩
 ·refine XD (by rw[jX,G]) λk h=> ?_
  grind [jX,Cw,ER]
theorem GI (z:oW n)(b:Nat):SU (eD n.E b):=λk J=>by
 obtain⟨j,h,U,G⟩:=EX J;rw[U,G];exact⟨(z.2.2.2 j h).1,(z.2.2.2 j h).2.1⟩
theorem abZ{l:List (ByteArray×Int)}(h:SU l)(x:Nat):SU (AJ l x):=λk G=>by
 obtain⟨z,J,U⟩:=EW l x k G;rw[J,U];exact h _ z
def zw (E:List (ByteArray×Int)):Nat->List (ByteArray×Int)
 |0=>[]
 |b+1=>zw E b++eD E b
theorem ab0 (l:List (ByteArray×Int))(j:Nat):l.take (3*j)++AJ l j=l.take (3*(j+1)):=by
 grind [AJ]
theorem QV{l:List Nat}{j:Nat}(h:j<l.length):l.take j++[l.getD j 0]=l.take (j+1):=by
 simp_all
theorem QW (hK:n.K=2)(hD:oW n)(ho:own.length=fO n.E 4)(Px:own.length<=24)(hm:∀c∈own,c≠0/\c<256)(hL:pE X R n own){b:Nat}(hb:b<4):
  ∀d j fuel,j+d=dN n.E b->d<fuel->mn X fuel (if j<dN n.E b then ((own.getD (fO n.E b+j) 0:Nat):Int) else 0) (own.take (fO n.E b+j)) (zw n.E b++(eD n.E b).take (3*j))=some (own.take (fO n.E (b+1)),zw n.E (b+1)):=by
 have V:=uS n.E (show b+1<=4 by omega);intro d;induction d with
 |zero=>
  intro j fuel hj hf;obtain⟨f,rfl⟩:∃f,fuel=f+1:=⟨fuel-1,by omega⟩;obtain rfl:j=dN n.E b:=by omega
  rw[aA (Nat.lt_irrefl _),mn,aB rfl,fO,zw,aW (l:=eD n.E b) (by unfold dN;omega)]
 |succ d ih=>
  intro j fuel hj hf;obtain⟨f,rfl⟩:∃f,fuel=f+1:=⟨fuel-1,by omega⟩;have G:j<dN n.E b:=by omega
  have z:fO n.E b+j<own.length:=by rw[ho];rw[fO] at V;omega
  have hc:=hm _ (jA z);have h:=hL.1 _ z;unfold gY at h;rw[aB hK,se n.E own G hb] at h;have J:(own.take (fO n.E b+j)).length=fO n.E b+j:=by rw[aJ];omega
  obtain⟨e1,e2,e3⟩:=YS (c:=AJ (eD n.E b) j) (by rw[pC];omega) (abZ (GI hD b) j) (if j+1<dN n.E b then ((own.getD (fO n.E b+(j+1)) 0:Nat):Int) else 0);have W:X.getD (1080+8*own.getD (fO n.E b+j) 0) 0=if j+1<dN n.E b then ((own.getD (fO n.E b+(j+1)) 0:Nat):Int) else 0:=by
   have :=kx X (1080+8*own.getD (fO n.E b+j) 0) 0 (by omega);rw[<-h] at this;exact this.symm
  rw[aB G,mn,aA,J,aA,aF];have U:JS X (own.getD (fO n.E b+j) 0):=by
   unfold JS;rw[<-h];exact e2
  have hE:x9 X (own.getD (fO n.E b+j) 0)=AJ (eD n.E b) j:=by
   unfold x9;rw[<-h];exact e3
  rw[aB U,hE,W,QV z,aV,ab0];exact ih (j+1) f (by omega) (by omega)
theorem NH (E:List (ByteArray×Int)):∀b,(zw E b).length<=3*fO E b
 |0=>by simp[zw]
 |b+1=>by
  have :=NH E b;rw[zw,fO,aC,dN];omega
theorem aeD (E:List (ByteArray×Int)):fO E 4*3<=(zw E 4).length+8:=by
 simp only[zw,fO,dN,aC,bN];omega
theorem NI:∀E:List (ByteArray×Int),E.Perm (zw E 4)
 | []=>by simp[zw,eD]
 |p::E=>by
  have G:=NI E;have J:=Qm p;simp only[zw,bN] at G ⊢;have z:∀b,eD (p::E) b=if KV p=b then p::eD E b else eD E b:=λb=>by
   unfold eD;rw[fE];simp
  rw[z 0,z 1,z 2,z 3];generalize eD E 0=A,eD E 1=B,eD E 2=C,eD E 3=D at *;refine(List.Perm.cons p G).trans ?_;rcases (show KV p=0\/KV p=1\/KV p=2\/KV p=3 by omega) with h|h|h|h
  ·simp[h]
  ·simp only[h]
   simp only[aV,Nat.one_ne_zero,Nat.reduceEqDiff,↓reduceIte];exact List.perm_middle.symm
  ·simp only[h]
   simp only[aV,Nat.reduceEqDiff,↓reduceIte];have :=(List.perm_middle (a:=p) (l₁:=A++B) (l₂:=C++D)).symm;simpa using this
  ·simp only[h]
   simp only[aV,Nat.reduceEqDiff,↓reduceIte];have :=(List.perm_middle (a:=p) (l₁:=A++B++C) (l₂:=D)).symm;simpa using this
theorem Eb {X:List Int}{n:bS}{own:List Nat}(h:n.K=2)(V:oW n)(U:own.length=fO n.E 4)(W:own.length<=24)(J:∀c∈own,c≠0/\c<256)(G:pE X (nR n own) n own):
  ∀b,b<=4->tq X (nR n own) b=some (own.take (fO n.E b),zw n.E b)
 |0,_=>by simp[tq,fO,zw]
 |b+1,hb=>by
  have z:=uS n.E (show b+1<=4 by omega);rw[fO] at z;rw[tq,Eb h V U W J G b (by omega)];show mn X (25-(own.take (fO n.E b)).length) ((nR n own).getD (2+b) 0) (own.take (fO n.E b)) (zw n.E b)=_;have :=QW h V U W J G (show b<4 by omega) (dN n.E b) 0 (25-fO n.E b) (by omega) (by omega);rw[dE,Nat.mul_zero,eW,bz] at this;rw[(Yg h (show b<4 by omega)).1,aJ,cZ (by omega)];exact this
theorem ab1 (z:cm n)(G:R.getD 0 0=oX n)(h:R.getD 1 0=n.S):iK R=⟨n.F,n.K,n.L,n.S,List.replicate 13 0,[]⟩:=by
 rw[<-Nt z [] 0];unfold iK;rw[G,h];rfl
theorem ajy{A:List Int}(h:A.length=5)(x:Int):(A++[x]).getD 5 0=x/\(A++[x]).take 5=A:=by
 constructor
 ·rw[aj,aT (by omega),h]
  rfl
 ·rw[fI (by omega),aW (by omega)]
theorem GJ (a b:Int)(l:List Int):(a::b::l).drop 2=l/\(a::b::l).getD 7 0=l.getD 5 0:=⟨rfl,rfl⟩
theorem Am (hB:n.B.length=13)(ai:xY i n)(G:own.length=eQ n)(hm:∀c∈own,c≠0/\c<256)(W:pE X (fS X i) n own):Bt X i n own:=by
 obtain⟨hi,hF,hR⟩:=ai;refine⟨hi,?_,hF,hR,G,W⟩;have V:=W.2;rw[<-V] at W ⊢;have QG:=ab1 hR (CH n own).1 (CH n own).2;rcases hR.2.2 with ⟨hK,hf⟩|⟨hK,U⟩
 ·left
  rw[QG];refine⟨hK,n.B,?_,?_⟩
  ·have hr:nR n own=mY n own:=aA
   have hb:gY n own=kf n:=aA;have ak:(fu n.B).length<=13:=mj n.B 13;have uC:∀k,k<13->0<=n.B.getD k 0/\n.B.getD k 0<256:=λk hk=>(hf.2.2.2 k hk).1
   rw[sf hf] at G;by_cases h6:(fu n.B).length<=6
   ·left
    have oZ:mY n own=oX n::n.S::(fu n.B++List.replicate (6-(fu n.B).length) 0):=aB h6;rw[aA] at G;rw[hr,oZ];refine⟨?_,bg G,?_⟩
    ·rw[(GJ _ _ _).2,aj]
     by_cases h5:5<(fu n.B).length
     ·rw[bh h5,aD h5]
      exact(EY (bM h5)).2
     ·rw[aT (by omega),bB]
      split<;>simp
    ·rw[(GJ _ _ _).1]
     have :=GC hB uC (6-(fu n.B).length);rwa[show(fu n.B).length+(6-(fu n.B).length)=6 by omega] at this
   ·right
    have oZ:mY n own=oX n::n.S::((fu n.B).take 5++[9223372036854775808+((own.getD 0 0:Nat):Int)]):=aA h6;have ag:kf n=[(fu n.B).drop 5++List.replicate (13-(fu n.B).length) 0]:=aA h6;rw[aB] at G;obtain⟨c,rfl⟩:=List.length_eq_one_iff.1 G;have hc:=hm c (by simp);have z:=W.1 0 (by simp);rw[hb,ag] at z;have z:(fu n.B).drop 5++List.replicate (13-(fu n.B).length) 0=eu X (1080+8*c):=z;have af:((fu n.B).take 5).length=5:=by rw[aJ];omega
    rw[hr,oZ];have hg:[c].getD 0 0=c:=rfl;rw[hg];obtain⟨a1,a2⟩:=ajy af (9223372036854775808+((c:Nat):Int));obtain⟨d1,d2⟩:=GJ (oX n) n.S ((fu n.B).take 5++[9223372036854775808+((c:Nat):Int)]);refine⟨c,?_,by omega,hc.2,rfl,?_⟩
    ·rw[d2,a1]
    ·rw[d1,a2,<-z,<-aV,dx]
     have :=GC hB uC (13-(fu n.B).length);rwa[show(fu n.B).length+(13-(fu n.B).length)=13 by omega] at this
  ·have hE:n.E=[]:=bg hf.2.1
   cases n;simp at hE;subst hE;rfl
 ·right
  rw[QG];have J:=G;rw[vg U] at J;have hp:=NI n.E;have ar:=hp.length_eq;have av:=aeD n.E;have Px:=U.1;have au:=NH n.E 4;have hs:=Eb hK U J (by omega) hm W 4 (aI _);rw[<-J,gi] at hs;refine⟨hK,zw n.E 4,n.E,hs,⟨by omega,λc hc=> ?_,by omega,λp ah=> ?_⟩,hp,λi j ae hj=> ?_,?_⟩
  ·have :=hm c hc
   omega
  ·have ac:=hp.mem_iff.2 ah
   obtain⟨k,hk,rfl⟩:=b9 ac;rw[NG _ k hk];have :=(oz (U.2.2.2 k hk).1).2;rw[mh] at this;exact this
  ·have aa:=dh.1 (Al U) i j (by omega) hj ae
   rw[NG _ i (by omega),NG _ j hj] at aa;cases h:Op.bytesLess (eY n.E j).toList (eY n.E i).toList
   ·rfl
   ·have :=ot _ _ _ aa h
    rw[oM] at this;cases this
  ·have hb:=U.2.2.1
   cases n;simp at hb;subst hb;rfl
theorem NJ (h:Bt X i n own):own.Nodup:=by
 obtain⟨hi,hs,hF,hR,ho,hL⟩:=h;rcases hR.2.2 with ⟨hK,hf⟩|⟨hK,hD⟩
 ·rw[sf hf] at ho
  have :own.length<=1:=by rw[ho];split<;>omega
  match own,this with
  | [],_=>exact List.nodup_nil
  | [c],_=>simp
  |_::_::_,h=>simp at h
 ·rw[vg hD] at ho
  have xP:∀m,m<own.length->∃b j,b<4/\3*j<(eD n.E b).length/\m=fO n.E b+j/\X.getD (1080+8*own.getD m 0+1) 0=((kS (bl (eY (eD n.E b) (3*j))):Nat):Int):=λm JP=>by
   obtain⟨b,j,hb,J,rfl⟩:=uT n.E (ho▸JP);have h3:3*j<(eD n.E b).length:=by unfold dN at J;omega
   refine⟨b,j,hb,h3,rfl,?_⟩;have z:=hL.1 _ JP;unfold gY at z;rw[aB hK,se n.E own J hb] at z;have h1:=kx X (1080+8*own.getD (fO n.E b+j) 0) 1 (by omega);rw[<-z,Ya,oK,Nl _ _ _ (by omega),aB ⟨by omega,by omega⟩,aB rfl] at h1;exact h1.symm
  rw[List.nodup_iff_pairwise_ne,dh];intro i1 i2 h1 h2 ai he;obtain⟨b,j,hb,J,e1,w1⟩:=xP i1 h1;obtain⟨W,j',ah,G,e2,w2⟩:=xP i2 h2;have ae:own.getD i1 0=own.getD i2 0:=by simp[h1,h2,he]
  rw[ae,w2] at w1;have hw:kS (bl (eY (eD n.E W) (3*j')))=kS (bl (eY (eD n.E b) (3*j))):=by omega
  have g1:=(GI hD b _ J).1;have g2:=(GI hD W _ G).1;unfold kS at hw;rw[aB g1,aB g2] at hw;have XT:=oC g1 (A9 _);rw[<-hw,oC g2 (A9 _)] at XT;have U:bl (eY (eD n.E W) (3*j'))=bl (eY (eD n.E b) (3*j)):=Option.some.inj XT;have aa:∀q k,k<(eD n.E q).length->rP (bl (eY (eD n.E q) k))=q:=λq k hk=>by
   have :=(List.mem_filter.1 (XC hk)).2;exact beq_iff_eq.1 this
  have ac:b=W:=by rw[<-aa b _ J,<-aa W _ G,U]
  subst ac;have ag:eY (eD n.E b) (3*j')=eY (eD n.E b) (3*j):=by rw[<-ER (eY (eD n.E b) (3*j')),U,ER]
  have af:(eD n.E b).Pairwise (λx y=>Op.bytesLess x.1.toList y.1.toList=true):=(Al hD).filter _;have V:=dh.1 af (3*j) (3*j') J G (by omega);rw[NG _ _ J,NG _ _ G,ag,oM] at V;cases V
def dR (X:List Int) (i:Int):Prop:=fS X i=List.replicate 8 0
instance (X:List Int) (i:Int):Decidable (dR X i):=by unfold dR;infer_instance
def dA (n:bS):Nat:=if n.F=2 then eQ n else eV n
structure eJ (X:List Int) (i:Int) (n:bS) (own:List Nat):Prop where
 rng:0<=i/\i<32
 len:n.B.length=13
 right:cm n
 mem:∀c∈own,c≠0/\c<256
 nodup:own.Nodup
 laid:(n.F=1/\own.length=eV n/\Gs X (824+8*i.toNat) n own)\/(n.F=2/\own.length=eQ n/\pE X (fS X i) n own)
theorem eJ.ownLen(h:eJ X i n own):own.length=dA n:=by
 unfold dA;rcases h.laid with ⟨G,z,-⟩|⟨G,z,-⟩
 ·rw[aA,z]
 ·rw[aB G,z]
theorem NK (h:cm n):eV n<=7:=by
 have z:=jJ h;have :=wD n;omega
theorem vr (h:cm n):dA n<=32:=by
 have z:=NK h;have G:=Gm h;unfold dA;split<;>omega
theorem eJ.tag(h:eJ X i n own):(fS X i).getD 0 0=oX n:=by
 rcases h.laid with ⟨-,-,z⟩|⟨-,-,z⟩
 ·unfold fS
  rw[z.row];rfl
 ·rw[<-z.2]
  exact(CH n own).1
theorem NL (h:cm n):oX n%256=n.F/\0<oX n:=by
 obtain⟨hF,J,z⟩:=h;have G:n.K=1\/n.K=2:=z.imp (·.1) (·.1);unfold oX;omega
theorem eJ.format(h:eJ X i n own):(fS X i).getD 0 0%256=n.F:=by
 rw[h.tag];exact(NL h.right).1
theorem eJ.notFree(h:eJ X i n own):¬dR X i:=λG=>by
 have z:=h.tag;have J:=(NL h.right).2;rw[G] at z;simp at z;omega
theorem eJ.uniq{n':bS}{cY:List Nat}(h:eJ X i n own)(z:eJ X i n' cY):n'=n/\cY=own:=by
 have hf:=h.format;have aa:=z.format;rcases h.laid with ⟨V,a2,W⟩|⟨V,a2,W⟩
 ·rcases z.laid with ⟨U,J,G⟩|⟨U,J,G⟩
  ·obtain⟨-,c1,c2⟩:=CM h.len h.right V a2 h.mem W
   obtain⟨-,d1,d2⟩:=CM z.len z.right U J z.mem G;exact⟨by rw[<-d1,c1],by rw[<-d2,c2]⟩
  ·omega
 ·rcases z.laid with ⟨U,J,G⟩|⟨U,J,G⟩
  ·omega
  ·have r1:=Am h.len ⟨h.rng,V,h.right⟩ a2 h.mem W
   have r2:=Am z.len ⟨z.rng,U,z.right⟩ J z.mem G;exact r1.2.1.uniq r2.2.1 z.right
theorem Vb (z:In64 X)(hi:0<=i/\i<32)(h:mU X (fS X i)):eJ X i (nY X (fS X i)) (EG X (fS X i)):=by
 obtain⟨G,h2,W,U,V,J,h7⟩:=UY z (q:=824+8*i.toNat) h;exact⟨hi,W,G,V,J,.inl ⟨h2,U,h7⟩⟩
theorem Vc (U:n.B.length=13)(V:∀c∈own,0<c/\c<256)(h:Bt X i n own):eJ X i n own:=by
 have hn:=NJ h;obtain⟨z,h2,h3,W,h5,G⟩:=h;exact⟨z,U,W,λc J=>by have :=V c J;omega,hn,.inr ⟨h3,h5,G⟩⟩
theorem Le (h:eJ X i n own)(hF:n.F=1):mU X (fS X i)/\nY X (fS X i)=n/\EG X (fS X i)=own:=by
 rcases h.laid with ⟨J,z,G⟩|⟨J,z,G⟩
 ·exact CM h.len h.right J z h.mem G
 ·omega
theorem Lf (h:eJ X i n own)(hF:n.F=2):Bt X i n own:=by
 rcases h.laid with ⟨J,z,G⟩|⟨J,z,G⟩
 ·omega
 ·exact Am h.len ⟨h.rng,J,h.right⟩ z h.mem G
theorem CS{p:Nat}(h:∀j,j<8->Y.getD (p+j) 0=X.getD (p+j) 0):eu Y p=eu X p:=by
 unfold eu;apply dL;intro j z;exact h j (cu.1 z)
theorem eJ.same(h:eJ X i n own)(h1:∀j,j<8->Y.getD (824+8*i.toNat+j) 0=X.getD (824+8*i.toNat+j) 0)
  (h2:∀c∈own,∀j,j<8->Y.getD (1080+8*c+j) 0=X.getD (1080+8*c+j) 0):eJ Y i n own:=by
 have W:eu Y (824+8*i.toNat)=eu X (824+8*i.toNat):=CS h1;have V:∀m,m<own.length->eu Y (1080+8*own.getD m 0)=eu X (1080+8*own.getD m 0):=λm z=>CS (h2 _ (jA z))
 refine⟨h.rng,h.len,h.right,h.mem,h.nodup,?_⟩;rcases h.laid with ⟨J,U,G⟩|⟨J,U,G⟩
 ·exact .inl ⟨J,U,by rw[W];exact G.row,λm z=>by rw[V m z];exact G.own m z⟩
 ·refine .inr ⟨J,U,λm z=>by rw[V m z];exact G.1 m z,?_⟩
  unfold fS;rw[W];exact G.2
theorem dR.same(h:dR X i)(z:∀j,j<8->Y.getD (824+8*i.toNat+j) 0=X.getD (824+8*i.toNat+j) 0):dR Y i:=by
 unfold dR fS at *;rw[CS z];exact h
def ct (X:List Int):List Nat->List (Int×Int)
 | []=>[]
 |b::l=>eK X b false++ct (az X (eK X b false)) l
theorem NM (l:List Nat)(b:Nat):∀X:List Int,ct X (l++[b])=ct X l++eK (az X (ct X l)) b false:=by
 induction l with
 |nil=>intro X;show eK X b false++[]=_;rw[bz];rfl
 |cons c l ih=>
  intro X;show eK X c false++ct _ (l++[b])=(eK X c false++ct _ l)++eK (az X (eK X c false++ct _ l)) b false;rw[ih,br,aV]
theorem YT (X:List Int)(b:Nat)(u:Bool):(eK X b u).length<=1:=by
 unfold eK;split<;>simp
theorem qp (l:List Nat):∀X:List Int,(ct X l).length<=l.length:=by
 induction l with
 |nil=>intro X;exact aI _
 |cons b l ih=>
  intro X;show(eK X b false++ct _ l).length<=_;have h:=YT X b false;have z:=ih (az X (eK X b false));rw[aC,cA];omega
theorem iq (l:List Nat):∀X:List Int,In64 X->X.length=3128->
  In64 (az X (ct X l))/\(∀c,c<256->c≠0->dn (az X (ct X l)) c=(dn X c && !decide (c∈l)))/\(∀k,820<=k->(az X (ct X l)).getD k 0=X.getD k 0):=by
 induction l with
 |nil=>intro X h V;exact⟨h,λc _ _=>by simp[ct,az],λk _=>rfl⟩
 |cons b l ih=>
  intro X h V;have W:In64 (az X (eK X b false)):=h.put (MA h b false);have h2:(az X (eK X b false)).length=3128:=by rw[cy,V]
  obtain⟨k1,k2,k3⟩:=ih _ W h2;have e:az X (ct X (b::l))=az (az X (eK X b false)) (ct (az X (eK X b false)) l):=br _ _ _;rw[e];refine⟨k1,λc hc U=> ?_,λk hk=> ?_⟩
  ·rw[k2 c hc U]
   by_cases hb:b=0\/256<=b
   ·have :eK X b false=[]:=aB hb
    rw[this];have J:¬c=b:=by omega
    simp[az,J]
   ·rw[Cm h V b (by omega) (by omega)]
    by_cases G:c=b
    ·simp[G]
    ·simp[G]
  ·rw[k3 k hk]
   refine dX _ _ _ λp z=> ?_
   unfold eK at z;split at z
   ·simp at z
   ·rw[au] at z
    subst z;show((816+b/64:Nat):Int).toNat≠k;omega
theorem sx (hm:∀c∈own,c≠0/\c<256)(hn:own.Nodup)(hu:∀c∈own,dn X c=true)(h:∀c,c<256->c≠0->dn Y c=(dn X c && !decide (c∈own))):
  (aY Y).length=(aY X).length+own.length:=by
 have W:(aY Y).Perm (aY X++own):=by
  apply(List.perm_ext_iff_of_nodup (rO Y 256) ?_).2
  ·intro c
   rw[aR];unfold aY;rw[j5,j5];constructor
   ·rintro⟨z,J,G⟩
    rw[h c z J] at G;by_cases V:c∈own
    ·exact .inr V
    ·simp[V] at G
     exact .inl ⟨z,J,G⟩
   ·rintro (⟨z,J,G⟩|z)
    ·exact⟨z,J,by rw[h c z J,G];rfl⟩
    ·have :=hm c z
     exact⟨this.2,this.1,by rw[h c this.2 this.1];simp[z]⟩
  ·refine List.nodup_append.2 ⟨rO X 256,hn,λa ha b hb U=> ?_⟩
   subst U;have :=(j5.1 ha).2.2;rw[hu a hb] at this;cases this
 rw[W.length_eq,aC]
theorem CU (h:∀k,k<820->Y.getD k 0=X.getD k 0):(∀c,c<256->dn Y c=dn X c)/\aY Y=aY X:=by
 have z:∀c,c<256->dn Y c=dn X c:=λc G=>by
  unfold dn bw;rw[h _ (by omega)]
 refine⟨z,?_⟩;unfold aY eX;apply iz;intro c G;rw[z c (cu.1 G)]
def IQ (X:List Int) (i:Nat) (n:bS) (own:List Nat):List (Int×Int):=if n.F=2 then mR X i n own else pD X i n own
structure CV (X:List Int) (i:Int) (n:bS) (own:List Nat) (X':List Int) (cY:List Nat):Prop where
 st:eJ X' i n cY
 w64:In64 X'
 len:X'.length=3128
 used:∀c,c<256->c≠0->dn X' c=((dn X c && !decide (c∈own))||decide (c∈cY))
 free:∀c∈cY,(dn X c && !decide (c∈own))=false
 other:∀k,820<=k->¬(824+8*i.toNat<=k/\k<824+8*i.toNat+8)->¬(1080<=k/\(k-1080)/8∈cY)->X'.getD k 0=X.getD k 0
 count:(aY X').length+dA n=(aY (az X (ct X own))).length
theorem GK (h:In64 X)(V:X.length=3128){own:List Nat}(hm:∀c∈own,c≠0/\c<256){qs:List (Int×Int)}(U:∀p∈qs,820<=p.1.toNat):
  (∀c,c<256->dn (az X (dt X own++qs)) c=(dn X c||decide (c∈own)))/\aY (az X (dt X own++qs))=aY (az X (dt X own)):=by
 rw[br];obtain⟨G,W⟩:=CU (X:=az X (dt X own)) (Y:=az (az X (dt X own)) qs) λk hk=>dX _ _ _ λp J=>by have :=U p J;omega
 exact⟨λc z=>by rw[G c z,(nH own X h V hm).2.2 c z],W⟩
theorem ab2 (z:In64 X)(hX:X.length=3128){i:Int}{n:bS}(hB:n.B.length=13)(hi:0<=i/\i<32)(hR:cm n)(hn:dA n<=(aY X).length):
  CV X i n [] (az X (IQ X i.toNat n ((aY X).take (dA n)))) ((aY X).take (dA n)):=by
 have J:=uo hn;have hm:∀c∈(aY X).take (dA n),c≠0/\c<256:=qm;have G:((aY X).take (dA n)).Nodup:=su;have oZ:∀c∈(aY X).take (dA n),(dn X c && !decide (c∈([]:List Nat)))=false:=λc V=>by
  rw[(j5.1 (bL V)).2.2];rfl
 obtain⟨-,-,ac⟩:=FB z hX (dA n);have Lg:∀Y,aY Y=aY (az X (dt X ((aY X).take (dA n))))->(aY Y).length+dA n=(aY (az X (ct X []))).length:=λY hY=>by
  rw[hY,ac,bV];show _=(aY X).length;omega
 have hF:n.F=1\/n.F=2:=hR.1;have Ec:∀c,c<256->∀b:Bool,(dn X c||b)=((dn X c && !decide (c∈([]:List Nat)))||b):=λc _ b=>by simp
 rcases hF with hF|hF
 ·have uW:dA n=eV n:=aA
  have W:∀own,IQ X i.toNat n own=pD X i.toNat n own:=λown=>aA
  rw[uW] at hn J hm G oZ Lg ⊢;rw[W];obtain⟨a1,a2,a3⟩:=YD z hX hB ⟨hi,hF,hR⟩ hn;have af:=jJ hR;have ae:=wD n;have aa:bj n.E.length<=((aY X).take (eV n)).length:=by omega
  obtain⟨u1,u2⟩:=GK z hX hm (qs:=wu i.toNat n ((aY X).take (eV n))) λp U=>by
   rcases sX aa U with ⟨h,-⟩|⟨h,-⟩<;>omega
  exact⟨⟨hi,hB,hR,hm,G,.inl ⟨hF,J,a1⟩⟩,a2,by rw[cy,hX],λc V _=>by rw[<-Ec c V];exact u1 c V,oZ,a3,by rw[uW];exact Lg _ u2⟩
 ·have uW:dA n=eQ n:=aB hF
  have W:∀own,IQ X i.toNat n own=mR X i.toNat n own:=λown=>aB hF
  rw[uW] at hn J hm G oZ Lg ⊢;rw[W];obtain⟨a1,a2,a3⟩:=U0 z hX ⟨hi,hF,hR⟩ hn;obtain⟨u1,u2⟩:=GK z hX hm (qs:=um (gY n ((aY X).take (eQ n))) ((aY X).take (eQ n)) ((aY X).take (eQ n)).length++jM (824+8*i.toNat) (nR n ((aY X).take (eQ n))) 8) λp U=>by
   rcases aR.1 U with U|U
   ·obtain⟨m,j,-,-,h,-⟩:=vh U
    omega
   ·obtain⟨j,-,h,-⟩:=lU U
    omega
  exact⟨⟨hi,hB,hR,hm,G,.inr ⟨hF,J,a1⟩⟩,a2,by rw[cy,hX],λc V _=>by rw[<-Ec c V];exact u1 c V,oZ,a3,by rw[uW];exact Lg _ u2⟩
def lW (X:List Int) (i:Nat) (n:bS) (own:List Nat):List (Int×Int):=
 ct X own++IQ (az X (ct X own)) i n ((aY (az X (ct X own))).take (dA n))
theorem ab3 (J:In64 X)(hX:X.length=3128){i:Int}{n:bS}{own:List Nat}(hB:n.B.length=13)(hi:0<=i/\i<32)(hR:cm n)(hn:dA n<=(aY (az X (ct X own))).length):
  CV X i n own (az X (lW X i.toNat n own)) ((aY (az X (ct X own))).take (dA n)):=by
 obtain⟨V,U,W⟩:=iq own X J hX;have gl:(az X (ct X own)).length=3128:=by rw[cy,hX]
 have h:=ab2 V gl hB hi hR hn;have hm:∀c∈(aY (az X (ct X own))).take (dA n),c≠0/\c<256:=qm;unfold lW;rw[br];obtain⟨Y,hY⟩:∃Y,Y=az X (ct X own):=⟨_,rfl⟩;rw[<-hY] at V U W gl h hm ⊢;refine⟨h.st,h.w64,h.len,λc G h0=> ?_,λc G=> ?_,λk hk h1 h2=> ?_,?_⟩
 ·rw[h.used c G h0,U c G h0]
  simp
 ·have :=h.free c G
  have z:=hm c G;rw[U c z.2 z.1] at this;simpa using this
 ·rw[h.other k hk h1 h2,W k hk]
 ·rw[<-hY]
  exact h.count
theorem CV.keeps{X':List Int}{m:bS}{W z:List Nat}(h:CV X i n own X' W)(hj:eJ X j m z)(ac:i≠j)(hu:∀c∈z,dn X c=true)(hd:∀c∈z,c∉own):eJ X' j m z:=by
 have hi:=h.st.rng;have aa:=hj.rng;have V:∀c∈z,c∉W:=λc G U=>by
  have :=h.free c U;rw[hu c G] at this;simp[hd c G] at this
 refine hj.same (λk hk=>h.other _ (by omega) (by omega) (λJ=>by omega)) λc G k hk=>h.other _ (by omega) (by omega) λJ=> ?_
 have :(1080+8*c+k-1080)/8=c:=by omega
 rw[this] at J;exact V c G J.2
theorem CV.free_keeps{z:List Int}{U:List Nat}(h:CV X i n own z U)(V:dR X j)(G:0<=j/\j<32)(J:i≠j):dR z j:=by
 have hi:=h.st.rng;exact V.same λk hk=>h.other _ (by omega) (by omega) (λW=>by omega)
theorem YU (Qx:eN w b gp B ps)(EH:CR (az B ps))(i:Int):
  Calls prog 151 #[b,i] w (sw w (az B ps) i):=by
 have ah:=bc.new w (aL bY (.slice none 0 0)) 75;obtain⟨W0,ae⟩:∃W0,W0=w.alloc (.cells (aL bY (.slice none 0 0)) 75):=⟨_,rfl⟩;rw[<-ae] at ah;have cM:ay [] w W0:=by
  rw[ae];exact(ay.refl _ _).alloc _
 have bv:W0.heap.size=w.heap.size+1:=by rw[ae];simp
 have bp:=dC;have bz:=kV;have HI:=ar (km i);have rR:Hid (∀wz,ay [] W0 wz->(∀n' W,¬Bt (az B ps) i n' W)->∃w',(storeVar 75 w.heap.size (.agg (aL bY (.slice none 0 0)))).run prog wz= .ok () w'/\(loadVar 75 w.heap.size).run prog w'= .ok (.agg (aL bY (.slice none 0 0))) w'/\sw w (az B ps) i (.returned (.tuple #[aL bY (.slice none 0 0),(),false])) w'):=λwz U hn=>by
  obtain⟨w',q1,q2,q3⟩:=bE (P:= prog) (ty:= 75) (cs:=mQ bY (.slice none 0 0)) iV (ah.keep U) rfl (kR rfl);exact⟨w',q1,bZ q2 rfl,bY,_,w.heap.size,[],_,w.heap.size,false,rfl,rfl,bD.nil _ _,aI _,lQ.nil _ _,aI _,(cM.trans' U).trans q3 (by intro x hx;rw[au] at hx;omega),λh=>(by cases h),λ_=>⟨rfl,rfl,hn⟩⟩
 obtain⟨rf,fG,CI,vP,U7⟩:=hh5 ae cM ah Qx EH;clear ah cM ae Qx EH;generalize aF:az B ps=X at *;have SS:=ar aF;clear aF;generalize aJ:aL bY (.slice none 0 0)=Z0 at *;have jt:=ar aJ;clear aJ;have Va:Z0.size=18:=by rw[<-jt.out];rfl
 by_cases hi:0<=i/\i<32
 ·have ag:gA i=((824+8*i.toNat:Nat):Int):=by rw[gA,aA];omega
  rw[ag] at HI;have bn:¬((824+8*i.toNat:Nat):Int)<0:=by omega
  have mZ:=ar (po (vP.out.keep fG.out) (824+8*i.toNat) (by omega));rw[SS.out] at mZ;have wm:=iy X (824+8*i.toNat);obtain⟨r,hr⟩:∃r,r=eu X (824+8*i.toNat):=⟨_,rfl⟩;have aM:fS X i=r:=by rw[hr];rfl
  have zu:Hid (CR r):=by rw[hr];exact CR.row U7.out _
  rw[<-hr] at mZ wm;have aa:=ar aM;clear hr aM ag;generalize aZ:((824+8*i.toNat:Nat):Int)=pi at *;clear aZ;generalize vW:(aX (List.replicate 8 0)).toArray=Z8 at *;have xz:=ar vW;clear vW;go_in;go_wp2_with fail;refine C' (HI.out _) ?_;go_wp2_with fail;refine C' (HI.out _) ?_;go_wp2_with fail;rw[<-rf.out];refine Rr mZ.out λw1 ak=> ?_;obtain⟨w2,aO,L6,aR⟩:=bE (P:= prog) (ty:= 132) (cs:=aX r) (by rw[bA,wm];exact iZ) (bc.new w1 Z8 132) (by rw[<-xz.out];simp[bA,wm]) (fk _);have bl:=ak.size;have fC:Hid (ay [] W0 w2):=(ak.alloc (.cells Z8 132)).trans aR (by intro x hx;rw[au] at hx;omega);obtain⟨Qg,EF⟩:=hh2 L6 aO;have PA:Hid (∀J,ay [] w2 J->(loadVar 132 w1.heap.size).run prog J= .ok (.agg (aX r).toArray) J):=λJ U=>fN (Qg.out.keep U) wm
  have GH:=ar (fG.out.trans' fC.out);have PC:=QU (vP.out.keep GH.out) (by rw[SS.out];exact U7.out) wm zu.out;rw[SS.out] at PC;have aQ:=ar PC;clear aO L6 aR ak bl mZ PC;generalize bo:w1.heap.size=g7 at *;have bf:=ar (PA.out w2 (ay.refl _ _));go_wp2_with(with_reducible first|refine gS 132 EF.out ?_|refine gL 132 bf.out ?_);refine aQ.out.mono ?_;rintro e w3 ⟨n,v,g,own,vo,go,ok,rfl,wH,hE,hg,hO,aj,aC,h1,h2⟩;obtain⟨w4,aN,Yn,aD⟩:=bE (P:= prog) (ty:= 75) (cs:=mQ n v) (by rw[gJ,wH];exact iV) (bc.new w3 Z0 75) (by rw[Va,gJ,wH]) (kR (by obtain⟨a,c,rfl,-⟩:=hE;rfl));have aK:=aC.size;have qB:Hid (ay [] w2 w4):=(aC.alloc (.cells Z0 75)).trans aD (by intro x hx;rw[au] at hx;omega);have ai:bc w4 w3.heap.size (aL n v) 75 :=Yn;have cF:w4.cell? w3.heap.size=some (.int .i64 n.F):=by rw[ai.cell];exact(fT _ wH).f0
  have Ih:Hid (∀J,ay [] w4 J->(loadVar 75 w3.heap.size).run prog J= .ok (.agg (aL n v)) J):=λJ U=>bZ (ai.keep U) wH
  have wG:ay [w3.heap.size] w3 w4:=((ay.refl [w3.heap.size] w3).alloc (.cells Z0 75)).trans' aD;have WZ:bD w4 v g n.E:=hE.keep wG (λh0=>by
   have :=hE.apart (l:=[w3.heap.size]) (λx hx=>by rw[au] at hx;omega) h0;exact this)
  have SV:∃ac,lQ w4 vo ac own/\w2.heap.size<=ac:=hO.away aj wG (λx hx=>by rw[au] at hx;omega);obtain⟨ac,SV,aU⟩:=SV;obtain⟨Gk,ax⟩:=hh2 WZ SV;have tY:Hid ((storeVar 75 w3.heap.size (.agg (aL n v))).run prog (w3.alloc (.cells Z0 75))= .ok () w4):=aN;obtain⟨H1,H2,Be,HG,aY,bw⟩:=hh6 h1 h2 wH hg aU aK;clear aN Yn ai aD wG WZ SV hE hO hg aj aU aC h1 h2 wH aK aQ;generalize MV:w3.heap.size=g8 at *;have af:Hid (ok=true->∀n' W,Bt X i n' W->n'=n/\W=own):=λaV n' W h=>by
   have :=h.2.1;rw[aa.out] at this;exact(H1.out aV).1.uniq this h.2.2.2.1
  cases ok with
  |false=>
   obtain⟨w9,V,G,z⟩:=rR.out w4 (fC.out.trans' qB.out) (λn' W h=>by have :=h.2.1;rw[aa.out] at this;exact H2.out rfl n' W this);obtain⟨Ie,rW,Vd⟩:=hh3 V G z;clear V G z rR H1 H2;go_wp2_with(with_reducible first|refine gS 75 tY.out ?_|refine gS 75 Ie.out ?_);exact aH (cJ results151 rfl rW.out rfl rfl) rfl Vd.out
  |true=>
   by_cases hF:n.F=2
   ·rw[hF] at cF
    have Np:=ar hF;clear hF;have aS:Hid (∀k,k<n.E.length->(eY n.E k).size<=9223372036854775807):=λk U=>by have :=(H1.out rfl).2.2.2.2 k U;omega
    have xX:Hid (∀J,ay [] w4 J->Calls prog 101 #[aL n v] J λe w'=>e=(decide (cm n))/\ay [] J w'):=λJ U=>nX n v g Be.out J (Gk.out.keep U) aS.out
    have bj:Hid (∀J,ay [] w4 J->Calls prog 186 #[aL n v] J λe w'=>e=((if cm n then eQ n else 0:Nat):Int)/\ay [] J w'):=λJ U=>F3 n v g Be.out J (Gk.out.keep U) (by have :=(H1.out rfl).2.2.2.1;omega) aS.out
    have bk:Hid (cm n->own.length=eQ n->∀J,ay [] w4 J->Calls prog 187 #[b,(aX r).toArray,aL n v,vo] J λe w'=>∃t:Bool,e=t/\(t=true↔pE X r n own)/\ay [] J w'):=λhR hN J U=>by
     have h:=UH (R:=r) (((vP.out.keep GH.out).keep qB.out).keep U) n v g Be.out hR (Gk.out.keep U) vo ac own (ax.out.keep U).reads hN (λc hc=>((H1.out rfl).2.2.1 c hc).2) wm;rw[SS.out] at h;exact h
    have W4:Hid (∀J,ay [] w4 J->(loadVar 75 g8).run prog J= .ok (.agg (aL n v)) J):=Ih.out;have aW:Hid (v.oneCell'=true):=by obtain⟨a,c,rfl,-⟩:=Gk.out;rfl
    have aT:Hid (∀wz,ay [] w4 wz->Bt X i n own->∃w',(storeVar 75 w.heap.size (.agg (aL n v))).run prog wz= .ok () w'/\(loadVar 75 w.heap.size).run prog w'= .ok (.agg (aL n v)) w'/\sw w X i (.returned (.tuple #[aL n v,vo,true])) w'):=λwz U bg=>by
     obtain⟨w',q1,q2,q3⟩:=bE (P:= prog) (ty:= 75) (cs:=mQ n v) (by rw[gJ,Be.out];exact iV) (((CI.out.keep fC.out).keep qB.out).keep U) (by rw[Va,gJ,Be.out]) (kR aW.out);have bt:=GH.out.size;have hg:=HG.out;have aj:=aY.out;have bB:=fC.out.size;refine⟨w',q1,bZ q2 Be.out,n,v,g,own,vo,ac,true,rfl,Be.out,(Gk.out.keep U).keep q3 (λ_=>by rw[au];omega),by omega,(ax.out.keep U).keep q3 (by rw[au];omega),by omega,(GH.out.trans' (qB.out.trans' U)).trans q3 (by intro x hx;rw[au] at hx;omega),λ_=>⟨bg,(H1.out rfl).2⟩,λh=>by cases h⟩
    have ba:Hid (∀J,ay [] w4 J->(loadVar 132 g7).run prog J= .ok (.agg (aX r).toArray) J):=λJ U=>PA.out J (qB.out.trans' U)
    obtain⟨av,cv,bb,-,-,-⟩:=sU ax.out.reads;subst bb;generalize WV:aL n v=ZN at *;clear WV;go_wp2_with(first|(with_reducible refine gS 75 tY.out ?_)|((with_reducible show wpList _ _ _ (⟨_,.load 75 (.tmp 8),_,_,_,_⟩::_) _ _);refine eB rfl 75 (.tmp 8) rfl _ rfl _ (Ih.out _ (ay.refl _ _)) ?_));refine Rr (xX.out _ (ay.refl _ _)) λw5 kr=> ?_;have pU:=ar kr;clear kr;by_cases hR:cm n
    ·rw[bq hR]
     have aG:=ar hR;go_wp2_with(first|((with_reducible show wpList _ _ _ (⟨_,.load 75 (.tmp 8),_,_,_,_⟩::_) _ _);refine eB rfl 75 (.tmp 8) rfl _ rfl _ (Ih.out _ pU.out) ?_));refine Rr (bj.out _ pU.out) λw6 jE=> ?_;rw[aB hR];have rX:=ar (pU.out.trans' jE);clear jE hR;by_cases hN:own.length=eQ n
     ·have NP:=ar hN
      rw[<-hN];clear hN;go_wp2_with(first|((with_reducible show wpList _ _ _ (⟨_,.load 75 (.tmp 8),_,_,_,_⟩::_) _ _);refine eB rfl 75 (.tmp 8) rfl _ rfl _ (Ih.out _ rX.out) ?_)|((with_reducible show wpList _ _ _ (⟨_,.load 132 (.tmp 7),_,_,_,_⟩::_) _ _);refine eB rfl 132 (.tmp 7) rfl _ rfl _ (ba.out _ rX.out) ?_));refine(bk.out aG.out NP.out _ rX.out).mono ?_;rintro e w7 ⟨t,rfl,ht,xZ⟩;obtain⟨JV,HT⟩:=hh2 (rX.out.trans' xZ) ht;clear xZ ht;cases t with
      |false=>
       obtain⟨w9,V,G,z⟩:=rR.out w7 ((fC.out.trans' qB.out).trans' JV.out) (λn' W h=>by
        obtain⟨rfl,rfl⟩:=af.out (by trivial) n' W h;have h1:=h.2.2.2.2.2;rw[aa.out] at h1;have :=HT.out.2 h1;cases this)
       obtain⟨Ie,rW,Vd⟩:=hh3 V G z;clear V G z rR H1 H2 HT;go_wp2_with(first|(with_reducible refine gS 75 Ie.out ?_));exact aH (cJ results151 rfl rW.out rfl rfl) rfl Vd.out
      |true=>
       obtain⟨w9,V,G,z⟩:=aT.out w7 JV.out ⟨hi,by rw[aa.out];exact(H1.out (by trivial)).1,Np.out,aG.out,NP.out,by rw[aa.out];exact HT.out.1 rfl⟩;obtain⟨Ie,rW,Vd,bh⟩:=hh4 V G z (Ih.out _ JV.out);clear V G z rR H1 H2 HT aT;go_wp2_with(with_reducible first|refine gL 75 bh.out ?_|refine gS 75 Ie.out ?_);exact aH (cJ results151 rfl rW.out rfl rfl) rfl Vd.out
     ·have br:((own.length:Int)==((eQ n:Nat):Int))=false:=by simp;omega
      obtain⟨w9,V,G,z⟩:=rR.out w6 ((fC.out.trans' qB.out).trans' rX.out) (λn' W h=>by obtain⟨rfl,rfl⟩:=af.out (by trivial) n' W h;exact hN h.2.2.2.2.1);obtain⟨Ie,rW,Vd⟩:=hh3 V G z;clear V G z rR H1 H2;go_wp2_with(first|(with_reducible refine gS 75 Ie.out ?_));exact aH (cJ results151 rfl rW.out rfl rfl) rfl Vd.out
    ·rw[aP hR]
     obtain⟨w9,V,G,z⟩:=rR.out w5 ((fC.out.trans' qB.out).trans' pU.out) (λn' W h=>by obtain⟨rfl,rfl⟩:=af.out (by trivial) n' W h;exact hR h.2.2.2.1);obtain⟨Ie,rW,Vd⟩:=hh3 V G z;clear V G z rR H1 H2;go_wp2_with(first|(with_reducible refine gS 75 Ie.out ?_));exact aH (cJ results151 rfl rW.out rfl rfl) rfl Vd.out
   ·have bu:(n.F==2)=false:=by simpa using hF
    obtain⟨w9,V,G,z⟩:=rR.out w4 (fC.out.trans' qB.out) (λn' W h=>by obtain⟨rfl,rfl⟩:=af.out (by trivial) n' W h;exact hF h.2.2.1);obtain⟨Ie,rW,Vd⟩:=hh3 V G z;clear V G z rR H1 H2;go_wp2_with(with_reducible first|refine gS 75 tY.out ?_|refine gS 75 Ie.out ?_);exact aH (cJ results151 rfl rW.out rfl rfl) rfl Vd.out
 ·have ag:gA i= -1:=by rw[gA,aB]
  rw[ag] at HI;obtain⟨w9,V,G,z⟩:=rR.out W0 (ay.refl _ _) (λn' W h=>hi h.1);rw[rf.out] at V;obtain⟨Ie,rW,Vd⟩:=hh3 V G z;clear V G z rR;go_in;go_wp2_with fail;refine C' (HI.out _) ?_;go_wp2_with(first|(with_reducible refine gS 75 Ie.out ?_));exact aH (cJ results151 rfl rW.out rfl rfl) rfl Vd.out
theorem Ao (i:Int)(w:World):Calls prog 58 #[i] w λe w'=>e=(decide (0<=i/\i<32))/\w=w':=by
 have z:=ar (km i);by_cases h:0<=i/\i<32
 ·rw[bq h]
  have G:0<=gA i:=by unfold gA;rw[aA];omega
  clear h;go_in;go_wp2_with fail;refine C' (z.out _) ?_;go_wp2;go_ret;exact⟨rfl,rfl⟩
 ·rw[aP h]
  have G:¬0<=gA i:=by unfold gA;rw[aB];omega
  clear h;go_in;go_wp2_with fail;refine C' (z.out _) ?_;go_wp2;go_ret;refine⟨?_,rfl⟩;show Ending.returned (decide (0<=gA i))=_;rw[aP (by omega)]
theorem SX:(prog.info? 128).map (·.size)=some 2:=by kernel_rfl
theorem ab4{b:Value}(h:bc w g #[a,b] 128):(loadVar 128 g).run prog w= .ok (.agg #[a,b]) w:=by
 have :=bX (P:= prog) (w:=w) g 0 [a,b] underlying128 rfl SX λj z=>by
  rw[bp,h.cell,<-dw]
 simpa using this
theorem GL{b c d:Value}(G:bc w g #[c,d] 128)(J:a.oneCell'=true)(z:b.oneCell'=true):
  ∃w',(storeVar 128 g (.agg #[a,b])).run prog w= .ok () w'/\bc w' g #[a,b] 128/\ay [g] w w':=
 bE (P:= prog) (ty:= 128) (cs:=[a,b]) SX G rfl (by intro v h;simp at h;rcases h with rfl|rfl<;>assumption)
def QX (w:World) (k:Int) (e:Ending) (w':World):Prop:=
 ay [] w w'/\∃a b,a.oneCell'=true/\b.oneCell'=true/\e= .returned (.tuple #[.agg #[a,b],(decide (k=1\/k=2))])/\
  (k=1->a=(.func (.func 110) #[] #[])/\b=(.func (.func 111) #[] #[]))/\(k=2->a=(.func (.func 112) #[] #[])/\b=(.func (.func 113) #[] #[]))
theorem Ed (k:Int)(w:World):Calls prog 60 #[k] w (QX w k):=by
 have aa:=bc.new w #[.nilFunc,.nilFunc] 128;have cM:ay [] w (w.alloc (.cells #[.nilFunc,.nilFunc] 128)):=(ay.refl _ _).alloc _;have G:Hid (∀a b:Value,a.oneCell'=true->b.oneCell'=true->∃w',(storeVar 128 w.heap.size (.agg #[a,b])).run prog (w.alloc (.cells #[.nilFunc,.nilFunc] 128))= .ok () w'/\(loadVar 128 w.heap.size).run prog w'= .ok (.agg #[a,b]) w'/\ay [] w w'):=λa b V W=>by
  obtain⟨w',q1,q2,q3⟩:=GL aa V W;exact⟨w',q1,ab4 q2,cM.trans q3⟩
 clear aa cM;by_cases V:k=1
 ·subst V
  obtain⟨w1,z,U,J⟩:=G.out (.func (.func 110) #[] #[]) (.func (.func 111) #[] #[]) rfl rfl;obtain⟨HS,HL,HK⟩:=hh3 z U J;clear z U J G;go_in;go_wp2_with(with_reducible refine gS 128 HS.out ?_);refine aH (eI results60 rfl HL.out rfl) rfl ?_;exact⟨HK.out,_,_,rfl,rfl,rfl,λ_=>⟨rfl,rfl⟩,λh=>by omega⟩
 ·by_cases W:k=2
  ·subst W
   obtain⟨w1,z,U,J⟩:=G.out (.func (.func 112) #[] #[]) (.func (.func 113) #[] #[]) rfl rfl;obtain⟨HS,HL,HK⟩:=hh3 z U J;clear z U J G V;go_in;go_wp2_with(with_reducible refine gS 128 HS.out ?_);refine aH (eI results60 rfl HL.out rfl) rfl ?_;exact⟨HK.out,_,_,rfl,rfl,rfl,λh=>by omega,λ_=>⟨rfl,rfl⟩⟩
  ·obtain⟨w1,z,U,J⟩:=G.out .nilFunc .nilFunc rfl rfl
   obtain⟨HS,HL,HK⟩:=hh3 z U J;have e1:(k==1)=false:=by simpa using V
   have e2:(k==2)=false:=by simpa using W
   have HD:Hid (decide (k=1\/k=2)=false):=aP (by omega);obtain⟨H1,H2⟩:=hh2 V W;clear z U J G V W;go_in;go_wp2_with(with_reducible refine gS 128 HS.out ?_);refine aH (eI results60 rfl HL.out rfl) rfl ?_;refine⟨HK.out,.nilFunc,.nilFunc,rfl,rfl,?_,λh=>absurd h H1.out,λh=>absurd h H2.out⟩;rw[HD.out];rfl
def tu (b:Nat) (i:Int):Value:= .agg #[b,i]
def Lh (w:World) (b:Nat) (i:Int):World:=(w.alloc (.cells #[b,i] 137)).alloc (.cells (aL bY (.slice none 0 0)) 75)
theorem Bu (w:World)(b:Nat)(i:Int):ay [] w (Lh w b i)/\bc (Lh w b i) (w.heap.size+1) (aL bY (.slice none 0 0)) 75 :=by
 refine⟨((ay.refl _ _).alloc _).alloc _,?_⟩;have :=bc.new (w.alloc (.cells #[b,i] 137)) (aL bY (.slice none 0 0)) 75;rwa[show(w.alloc (.cells #[b,i] 137)).heap.size=w.heap.size+1 by simp] at this
theorem GM{z:World}{h:Nat}(hb:bc G h (aL bY (.slice none 0 0)) 75)(hw:w.heap.size<=h)(cM:ay [] w G)(J:ay [] G z){n:bS}{v:Value}(U:n.B.length=13)(V:v.oneCell'=true):
  ∃w',(storeVar 75 h (.agg (aL n v))).run prog z= .ok () w'/\(loadVar 75 h).run prog w'= .ok (.agg (aL n v)) w'/\ay [h] z w'/\ay [] w w':=by
 obtain⟨w',q1,q2,q3⟩:=CO (hb.keep J) rfl U V;exact⟨w',q1,bZ q2 U,q3,(cM.trans' J).trans q3 (by intro x W;rw[au] at W;omega)⟩
theorem QY (h:eN w b gp B ps)(V:In64 (az B ps))(i:Int):
  Calls prog 110 #[tu b i] w (mB w (az B ps) i):=by
 obtain⟨cM,aa⟩:=Bu w b i;obtain⟨HR,pO⟩:=hh2 (abL (h.keep cM) V i) aa;have rq:=dC;have fG:=ar cM;clear h V cM aa;unfold tu;generalize J:Lh w b i=W0 at *;have W:(w.alloc (.cells #[b,i] 137)).alloc (.cells (aL bY (.slice none 0 0)) 75)=W0:=J;have rf:=ar W;clear J W;go_in;go_wp2_with fail;rw[rf.out];refine HR.out.mono ?_;rintro e w2 ⟨n,v,g,own,va,ga,ok,rfl,hB,hE,hg,hO,xe,SK,Mb,hk⟩;obtain⟨w3,G,pN,z,U⟩:=GM pO.out (by omega) fG.out hk hB (yR hE);obtain⟨HS,HL⟩:=hh2 G pN;have HP:Hid (mB w (az B ps) i (.returned (.tuple #[aL n v,va,ok])) w3):=by
  have hz:=fG.out.size;refine⟨n,v,g,own,va,ga,ok,rfl,hB,hE.keep z (λh0=> ?_),by omega,hO.keep z ?_,by omega,SK,Mb,U⟩
  ·have :=pO.out.lt
   simp;omega
  ·have :=pO.out.lt
   simp;omega
 clear G pN z U hE hO SK Mb hk HR fG pO;generalize aL n v=Z at *;go_wp2_with(with_reducible refine gS 75 HS.out ?_);exact aH (cJ results110 rfl HL.out rfl rfl) rfl HP.out
theorem QZ (h:eN w b gp B ps)(V:CR (az B ps))(i:Int):
  Calls prog 112 #[tu b i] w (sw w (az B ps) i):=by
 obtain⟨cM,aa⟩:=Bu w b i;obtain⟨HR,pO⟩:=hh2 (YU (h.keep cM) V i) aa;have rq:=dC;have fG:=ar cM;clear h V cM aa;unfold tu;generalize J:Lh w b i=W0 at *;have W:(w.alloc (.cells #[b,i] 137)).alloc (.cells (aL bY (.slice none 0 0)) 75)=W0:=J;have rf:=ar W;clear J W;go_in;go_wp2_with fail;rw[rf.out];refine HR.out.mono ?_;rintro e w2 ⟨n,v,g,own,va,ga,ok,rfl,hB,hE,hg,hO,xe,hk,SK,Mb⟩;obtain⟨w3,G,pN,z,U⟩:=GM pO.out (by omega) fG.out hk hB (yR hE);obtain⟨HS,HL⟩:=hh2 G pN;have HP:Hid (sw w (az B ps) i (.returned (.tuple #[aL n v,va,ok])) w3):=by
  have hz:=fG.out.size;refine⟨n,v,g,own,va,ga,ok,rfl,hB,hE.keep z (λh0=> ?_),by omega,hO.keep z ?_,by omega,U,SK,Mb⟩
  ·have :=pO.out.lt
   simp;omega
  ·have :=pO.out.lt
   simp;omega
 clear G pN z U hE hO SK Mb hk HR fG pO;generalize aL n v=Z at *;go_wp2_with(with_reducible refine gS 75 HS.out ?_);exact aH (cJ results112 rfl HL.out rfl rfl) rfl HP.out
theorem E0 (h:eN w b gp B ps)(i:Int):
  Calls prog 59 #[b,i] w λe w'=>e=(decide ((0<=i/\i<32)/\dR (az B ps) i))/\ay [] w w':=by
 obtain⟨J,V⟩:=hh2 (Ao i) (km i);by_cases z:0<=i/\i<32
 ·rw[bq z] at J
  have HR:=ar (po h (824+8*i.toNat) (by omega));have G:gA i=((824+8*i.toNat:Nat):Int):=by rw[gA,aA];omega
  have aa:=kV;have hq:=ML (iy (az B ps) (824+8*i.toNat)) (bJ (n:=8) (a:=(0:Int)));have hg:=xK;have U:Hid (decide (eu (az B ps) (824+8*i.toNat)=List.replicate 8 0)=decide ((0<=i/\i<32)/\dR (az B ps) i)):=by
   apply decide_eq_decide.2;exact⟨λh=>⟨z,h⟩,λh=>h.2⟩
  rw[G] at V;clear h z G;generalize ((824+8*i.toNat:Nat):Int)=p,decide (eu (az B ps) (824+8*i.toNat)=List.replicate 8 0)=q,(aX (eu (az B ps) (824+8*i.toNat))).toArray=Z,(aX (List.replicate 8 0)).toArray=Z8 at *;go_in;go_wp2_with fail;refine C' (J.out _) ?_;go_wp2_with fail;refine C' (V.out _) ?_;go_wp2_with fail;refine Rr HR.out λw' W=> ?_;have HK:=ar W;clear W;go_wp2;go_ret;refine⟨?_,HK.out⟩;show Ending.returned q=_;rw[U.out]
 ·rw[aP z] at J
  have U:Hid (decide ((0<=i/\i<32)/\dR (az B ps) i)=false):=aP λh=>z h.1
  clear h z V;go_in;go_wp2_with fail;refine C' (J.out _) ?_;go_wp2;go_ret;refine⟨?_,ay.refl _ _⟩;rw[U.out];rfl
theorem wE.mono(z:ay [] w G)(h:wE G b J B ps i n e w'):wE w b J B ps i n e w':=by
 obtain⟨r,qs,gG,U,h2,h3,h4,h5,W⟩:=h;have hz:=z.size;refine⟨r,qs,gG,U,by omega,h3,(z.mono).trans h4 λx V=> .inl V,h5,W⟩
theorem sZ.mono(z:ay [] w G)(h:sZ G b J B ps i n e w'):sZ w b J B ps i n e w':=by
 obtain⟨r,qs,gG,U,h2,h3,h4,h5,W⟩:=h;have hz:=z.size;refine⟨r,qs,gG,U,by omega,h3,(z.mono).trans h4 λx V=> .inl V,h5,W⟩
def ab5 (w:World) (b:Nat) (i:Int) (Z:Array Value):World:=(w.alloc (.cells #[b,i] 137)).alloc (.cells Z 75)
theorem GP (w:World)(b:Nat)(i:Int)(Z:Array Value):ay [] w (ab5 w b i Z)/\bc (ab5 w b i Z) (w.heap.size+1) Z 75 :=by
 refine⟨((ay.refl _ _).alloc _).alloc _,?_⟩;have :=bc.new (w.alloc (.cells #[b,i] 137)) Z 75;rwa[show(w.alloc (.cells #[b,i] 137)).heap.size=w.heap.size+1 by simp] at this
theorem Ve (h:eN w b W B ps)(U:In64 (az B ps))(hT:ku w)(Ic:W<w.heap.size)(ac:ps.length<=800000)(i:Int)(n:bS)(v:Value)(g:Nat)(hB:n.B.length=13)(hE:bD w v g n.E)
  (hN:∀k,k<n.E.length->(eY n.E k).size<=9223372036854775807) (aa:n.E.length≠0->g≠b/\g≠W):
  Calls prog 111 #[tu b i,aL n v] w (wE w b W B ps i n):=by
 obtain⟨G,V⟩:=GP w b i (aL n v);have hz:=G.size;obtain⟨HC,HL⟩:=hh2 ((abR (h.keep G) U (hT.keep G) (by omega) ac i n v g hB (hE.keep G) hN aa).mono λe w'=>wE.mono G) (bZ V hB);clear h U G V hE hT hN hz;unfold tu;generalize aL n v=Z at *;generalize J:ab5 w b i Z=W0 at *;have z:(w.alloc (.cells #[b,i] 137)).alloc (.cells Z 75)=W0:=J;have rf:=ar z;have c1:W0.cell? w.heap.size=some (.pointer (some ⟨b,0,none⟩)):=by rw[<-z];simp
 have c2:W0.cell? ⟨w.heap.size,1,none⟩=some (.int .i64 i):=by rw[<-z];simp
 clear J z;go_in;go_wp2_with((with_reducible show wpList _ _ _ (⟨_,.load 75 (.tmp 3),_,_,_,_⟩::_) _ _);rw[rf.out];refine gH rfl 75 (.tmp 3) rfl _ rfl _ HL.out ?_);refine HC.out.mono ?_;rintro e w1 hp;have HP:=ar hp;obtain⟨r,qs,gG,rfl,-⟩:=hp;clear HC HL rf c1 c2;go_wp2;go_ret;exact HP.out
theorem Vf (h:eN w b W B ps)(U:In64 (az B ps))(hT:ku w)(Ic:W<w.heap.size)(ac:ps.length<=800000)(i:Int)(n:bS)(v:Value)(g:Nat)(hB:n.B.length=13)(hE:bD w v g n.E)
  (hN:∀k,k<n.E.length->(eY n.E k).size<=9223372036854775807) (aa:n.E.length≠0->g≠b/\g≠W):
  Calls prog 113 #[tu b i,aL n v] w (sZ w b W B ps i n):=by
 obtain⟨G,V⟩:=GP w b i (aL n v);have hz:=G.size;obtain⟨HC,HL⟩:=hh2 ((YE (h.keep G) U (hT.keep G) (by omega) ac i n v g hB (hE.keep G) hN aa).mono λe w'=>sZ.mono G) (bZ V hB);clear h U G V hE hT hN hz;unfold tu;generalize aL n v=Z at *;generalize J:ab5 w b i Z=W0 at *;have z:(w.alloc (.cells #[b,i] 137)).alloc (.cells Z 75)=W0:=J;have rf:=ar z;have c1:W0.cell? w.heap.size=some (.pointer (some ⟨b,0,none⟩)):=by rw[<-z];simp
 have c2:W0.cell? ⟨w.heap.size,1,none⟩=some (.int .i64 i):=by rw[<-z];simp
 clear J z;go_in;go_wp2_with((with_reducible show wpList _ _ _ (⟨_,.load 75 (.tmp 3),_,_,_,_⟩::_) _ _);rw[rf.out];refine gH rfl 75 (.tmp 3) rfl _ rfl _ HL.out ?_);refine HC.out.mono ?_;rintro e w1 hp;have HP:=ar hp;obtain⟨r,qs,gG,rfl,-⟩:=hp;clear HC HL rf c1 c2;go_wp2;go_ret;exact HP.out
theorem NQ (X:List Int)(l:List Nat)(k:Nat)(h:k<l.length):ct X (l.take (k+1))=ct X (l.take k)++eK (az X (ct X (l.take k))) (l.getD k 0) false:=by
 rw[bR h,NM];simp[h]
theorem Li (h:eN w b J B ps)(V:In64 (az B ps))(_:J<w.heap.size)(W:ps.length<=900000){v:Value}{g:Nat}{l:List Nat}(hR:Reads w v g (dJ l))(hl:l.length<=1000)(hg:l≠[]->g≠b/\g≠J):
  Calls prog 103 #[b,v] w (jN w b J B (ps++ct (az B ps) l)):=by
 have hX:(az B ps).length=3128:=h.raw.lx;have au:=ar hX;have ay:=h.raw.lt;obtain⟨HS,uM,zB,HR,HG⟩:=hh5 h V W hR hg;obtain⟨a,cap,rfl,q1,q2,-⟩:=hR;obtain⟨n,hn⟩:∃n,l.length=n:=⟨_,rfl⟩;have HN:=ar hn;rw[fo,hn] at HR q1 ⊢;rw[hn] at hl;clear h V W hg hX hn;unfold maxLen at q2;go_in;go_wp2_with fail;go_loopg [8] n (λgh s8 wx=>∃k:Nat,k+gh=n/\s8= .int .i64 (k:Int)/\Hid (Onto w b J B (ps++ct (az B ps) (l.take k)) wx))
 case atStart=>exact⟨0,by omega,rfl,by show Onto _ _ _ _ _ _;rw[eW,show ct (az B ps) []=[] from rfl,bz];exact Onto.refl HS.out⟩
 case round=>
  obtain⟨k,hk,rfl,HQ⟩:=hrel;cases gk with
  |zero=>
   obtain rfl:k=n:=by omega
   have af:¬(k:Int)<(k:Int):=by omega
   clear hk;go_wp2;go_end0;have :=HQ.out;rw[aW (by rw[HN.out];omega)] at this;exact this.post
  |succ gg=>
   have ag:k<n:=by omega
   have af:(k:Int)<(n:Int):=by omega
   have cM:(0:Int)<=(k:Int):=by omega
   have z:k<l.length:=by rw[HN.out];exact ag
   have aa:l≠[]:=by intro e;rw[e] at z;simp at z
   obtain⟨kQ,p1,p2,p3⟩:=HQ.out;have Gj:=HG.out aa;have aj:=HR.out.keep p3 (by simp;omega);have U:=iq (l.take k) (az B ps) uM.out au.out;have ai:=qp (l.take k) (az B ps);have ae:(l.take k).length<=1000:=by rw[aJ];omega
   have ah:=ar (NQ (az B ps) l k z);obtain⟨a',av,ac,r1,r2,r3⟩:=aj;cases ac;obtain⟨aA,off,rfl,r4⟩:=r3 (by intro e;have :=cP List.length e;rw[fo,cD] at this;omega);have G:=(r4 k (by rw[fo];exact z)).trans (nr z);generalize l.getD k 0=c at *;have Ye:Hid (Calls prog 145 #[b,(c:Int),false] wr (jN wr b kQ B ((ps++ct (az B ps) (l.take k))++eK (az (az B ps) (ct (az B ps) (l.take k))) c false))):=by
    have :=MG p2 (by rw[br];exact U.1) (by rw[aC];have :=zB.out;omega) (c:Int) false;rw[br,aF] at this;exact this
   obtain⟨ak,Cf⟩:=hh2 p1 p3;clear p1 p2 p3 U ai ae r1 r2 r3 r4 Gj aa;go_wp2_with fail;refine Rr Ye.out λw2 ho=> ?_;have HO:Hid (Onto w b J B (ps++ct (az B ps) (l.take (k+1))) w2):=by
    show Onto _ _ _ _ _ _;rw[ah.out,<-aV];exact Onto.trans ak.out Cf.out ho
   clear ho Ye G;go_wp2;go_roundg gg;case measure=>omega
   case rel=>exact⟨k+1,by omega,by go_num,HO.out⟩
def Vg (X:List Int) (i:Int) (n:bS) (own:List Nat) (r:Int):Prop:=
 (r=1/\¬(0<=i/\i<32)/\n=bY/\own=[])\/(r=2/\(0<=i/\i<32)/\dR X i/\n=bY/\own=[])\/
  (r=10/\(0<=i/\i<32)/\¬dR X i/\(∀n' h,¬eJ X i n' h)/\n=bY/\own=[])\/(r=0/\eJ X i n own)
def E9 (w:World) (X:List Int) (i:Int) (e:Ending) (w':World):Prop:=
 ∃n v g own h z r,e= .returned (.tuple #[aL n v,h,(r:Int)])/\n.B.length=13/\bD w' v g n.E/\w.heap.size<=g/\lQ w' h z own/\w.heap.size<=z/\ay [] w w'/\Vg X i n own r
theorem ab6{r:Int}(J:ay [] (w.alloc (.cells (aL bY (.slice none 0 0)) 75)) G)(h:Vg X i bY [] r):
  ∃w',(storeVar 75 w.heap.size (.agg (aL bY (.slice none 0 0)))).run prog G= .ok () w'/\(loadVar 75 w.heap.size).run prog w'= .ok (.agg (aL bY (.slice none 0 0))) w'/\E9 w X i (.returned (.tuple #[aL bY (.slice none 0 0),(),r])) w':=by
 have z:=bc.new w (aL bY (.slice none 0 0)) 75;obtain⟨w',q1,q2,q3⟩:=bE (P:= prog) (ty:= 75) (cs:=mQ bY (.slice none 0 0)) iV (z.keep J) rfl (kR rfl);exact⟨w',q1,bZ q2 rfl,bY,_,w.heap.size,[],_,w.heap.size,r,rfl,rfl,bD.nil _ _,aI _,lQ.nil _ _,aI _,(((ay.refl [] w).alloc _).trans' J).trans q3,h⟩
def Fa (w:World) (X:List Int) (i f:Int) (e:Ending) (w':World):Prop:=
 ∃n v g own h z ok,e= .returned (.tuple #[aL n v,h,.bool ok])/\n.B.length=13/\bD w' v g n.E/\w.heap.size<=g/\lQ w' h z own/\w.heap.size<=z/\ay [] w w'/\
  (ok=true->eJ X i n own)/\(ok=false->n=bY/\own=[]/\∀n' G,eJ X i n' G->n'.F≠f)
theorem Lj (W:In64 X)(h:mB w X i e w'):Fa w X i 1 e w':=by
 obtain⟨n,v,g,own,va,J,ok,h1,h2,h3,h4,h5,U,h7,h8,h9⟩:=h;refine⟨n,v,g,own,va,J,ok,h1,h2,h3,h4,h5,U,h9,λz=> ?_,λz=> ?_⟩
 ·grind [Vb]
 ·obtain⟨V,a2,a3⟩:=h8 z
  exact⟨a2,a3,λn' cY G hf=>V ⟨G.rng,(Le G hf).1⟩⟩
theorem Ll (h:sw w X i e w'):Fa w X i 2 e w':=by
 obtain⟨n,v,g,own,va,J,ok,h1,h2,h3,h4,h5,U,h9,h7,h8⟩:=h;refine⟨n,v,g,own,va,J,ok,h1,h2,h3,h4,h5,U,h9,λz=> ?_,λz=> ?_⟩
 ·grind [Vc]
 ·obtain⟨W,a3,V⟩:=h8 z
  exact⟨W,a3,λn' G hs hf=>V n' G (Lf hs hf)⟩
theorem yU{h:World}{v va:Value}{ga:Nat}(W:ay [] w h)(hB:n.B.length=13)(U:bD h v g n.E)(hO:lQ h va ga own)(xe:w.heap.size<=ga):
  ∃z,(storeVar 75 h.heap.size (.agg (aL n v))).run prog (h.alloc (.cells (aL bY (.slice none 0 0)) 75))= .ok () z/\(loadVar 75 h.heap.size).run prog z= .ok (.agg (aL n v)) z/\
   bD z v g n.E/\(∃J,lQ z va J own/\w.heap.size<=J)/\ay [] w z/\bc z h.heap.size (aL n v) 75 :=by
 have hb:=bc.new h (aL bY (.slice none 0 0)) 75;obtain⟨z,q1,q2,q3⟩:=CO (n:=n) (v:=v) hb rfl hB (yR U);have V:ay [h.heap.size] h z:=((ay.refl [h.heap.size] h).alloc _).trans' q3;refine⟨z,q1,bZ q2 hB,U.keep V (λh0=> ?_),?_,(W.alloc _).trans q3 (by intro x G;rw[au] at G;have :=W.size;omega),q2⟩
 ·exact U.apart (l:=[h.heap.size]) (λx G=>by rw[au] at G;omega) h0
 ·exact hO.away xe V λx G=>by rw[au] at G;omega
theorem Vh (r:List Int)(w:World):(Instr.field 75 (.agg (aL (iK r) (.slice none 0 0))) 0).run prog w= .ok (.int .i64 (iK r).F) w:=by kernel_rfl
theorem get_at(h:eN w b gp B ps)(aF:In64 (az B ps))(i:Int):
  Calls prog 30 #[b,i] w (E9 w (az B ps) i):=by
 have cM:ay [] w (w.alloc (.cells (aL bY (.slice none 0 0)) 75)):=(ay.refl _ _).alloc _;obtain⟨HI,HT,vP,uM⟩:=hh4 (Ao i) (km i) h aF;have V:Hid (∀(wz:World) (r:Int),ay [] (w.alloc (.cells (aL bY (.slice none 0 0)) 75)) wz->Vg (az B ps) i bY [] r->_):=λwz r hk hr=>ab6 (w:=w) hk hr
 have zL:=ar (E0 (h.keep cM) i);have rq:=dC;have CI:=ar (bc.new w (aL bY (.slice none 0 0)) 75);obtain⟨W0,ak⟩:∃W0,w.alloc (.cells (aL bY (.slice none 0 0)) 75)=W0:=⟨_,rfl⟩;rw[ak] at V zL CI cM;obtain⟨rf,fG⟩:=hh2 ak cM;clear h aF ak cM;generalize aC:az B ps=X at *;have SS:=ar aC;clear aC;generalize af:aL bY (.slice none 0 0)=Z0 at *;have jt:=ar af;clear af;by_cases hi:0<=i/\i<32
 ·rw[bq hi] at HI
  by_cases hf:dR X i
  ·obtain⟨w1,bf⟩:∃w1,w1=W0:=⟨_,rfl⟩
   rw[bq (show(0<=i/\i<32)/\dR X i from ⟨hi,hf⟩)] at zL;have J:Hid (∀wz,ay [] W0 wz->_):=λwz hk=>V.out wz 2 hk (.inr (.inl ⟨rfl,hi,hf,rfl,rfl⟩))
   clear hi hf V CI HT bf;go_in;go_wp2_with fail;rw[rf.out];refine C' (HI.out _) ?_;go_wp2_with fail;refine Rr zL.out λw2 U=> ?_;obtain⟨w3,q1,q2,q3⟩:=J.out w2 U;obtain⟨HS,HL,HP⟩:=hh3 q1 q2 q3;clear q1 q2 q3 U J zL;go_wp2_with(with_reducible refine gS 75 HS.out ?_);exact aH (cJ results30 rfl HL.out rfl rfl) rfl HP.out
  ·rw[aP (show ¬((0<=i/\i<32)/\dR X i) from λh=>hf h.2)] at zL
   have aG:gA i=((824+8*i.toNat:Nat):Int):=by rw[gA,aA];omega
   rw[aG] at HT;have mZ:Hid (∀z,ay [] W0 z->Calls prog 62 #[b,((824+8*i.toNat:Nat):Int)] z λe w'=>e=(aX (fS X i)).toArray/\ay [] z w'):=λz hk=>by
    have :=po (vP.out.keep (fG.out.trans' hk)) (824+8*i.toNat) (by omega);rw[SS.out] at this;exact this
   have wm:(fS X i).length=8:=iy _ _;have xq:∀k,0<=(fS X i).getD k 0/\(fS X i).getD k 0<18446744073709551616:=CR.row uM.out _;have ai:=ar (λz=>CD (fS X i) wm (xq 0) (xq 1) z);have hF:(iK (fS X i)).F=(fS X i).getD 0 0%256:=rfl;have bk:=Vh (fS X i);have ag:Hid (∀n own,eJ X i n own->(iK (fS X i)).F=n.F):=λn own h=>h.format
   have av:=ar (λz=>Ed (iK (fS X i)).F z);have HO:Hid (∀z,ay [] W0 z->Calls prog 110 #[tu b i] z (Fa z X i 1)):=λz hk=>by
    have :=QY (vP.out.keep (fG.out.trans' hk)) (by rw[SS.out];exact uM.out) i;rw[SS.out] at this;exact this.mono λe w'=>Lj uM.out
   have HN:Hid (∀z,ay [] W0 z->Calls prog 112 #[tu b i] z (Fa z X i 2)):=λz hk=>by
    have :=QZ (vP.out.keep (fG.out.trans' hk)) (by rw[SS.out];exact uM.out) i;rw[SS.out] at this;exact this.mono λe w'=>Ll
   have Fb:Hid (Z0.size=18):=by rw[<-jt.out];rfl
   obtain⟨aJ,Yq⟩:=hh2 hf hi;clear hF wm xq aG hi hf;generalize ba:((824+8*i.toNat:Nat):Int)=pi at *;clear ba;generalize bh:(aX (fS X i)).toArray=R8 at *;clear bh;generalize aY:aL (iK (fS X i)) (.slice none 0 0)=ZT at *;clear aY;generalize (iK (fS X i)).F=f at *;go_in;go_wp2_with fail;rw[rf.out];refine C' (HI.out _) ?_;go_wp2_with fail;refine Rr zL.out λw2 U=> ?_;have fC:=ar U;clear U;go_wp2_with fail;refine C' (HT.out _) ?_;go_wp2_with fail;refine Rr (mZ.out _ fC.out) λw3 aQ=> ?_;have og:=ar (fC.out.trans' aQ);clear aQ fC;go_wp2_with fail;refine Rr (ai.out _) λw4 aV=> ?_;have qB:=ar (og.out.trans' aV);clear aV og;go_wp2_with fail;refine(av.out _).mono ?_;rintro e w5 ⟨kr,fa,fb,aD,aK,rfl,h1,h2⟩;have pU:=ar (qB.out.trans' kr);have aT:=bc.new w5 #[.nilFunc,.nilFunc] 128;obtain⟨w6,q1,q2,q3⟩:=GL aT aD aK;have Gl:=ar q1;have rX:Hid (ay [] W0 w6):=(pU.out.alloc _).trans q3 (by intro x hx;rw[au] at hx;have :=pU.out.size;omega);have aN:Hid (w6.cell? w5.heap.size=some fa):=by show _=_;rw[q2.cell];rfl
   clear kr qB aT q1 q2 q3;by_cases G:f=1;rw[bq (show f=1\/f=2 from .inl G)];obtain⟨rfl,rfl⟩:=h1 G;have ah:=HO
   rotate_left
   by_cases aa:f=2;rw[bq (show f=1\/f=2 from .inr aa)];obtain⟨rfl,rfl⟩:=h2 aa;have ah:=HN;have G:=aa
   rotate_left
   ·rw[aP (show ¬(f=1\/f=2) by omega)]
    have J:Hid (Vg X i bY [] 10):= .inr (.inr (.inl ⟨rfl,Yq.out,aJ.out,λn' cY hs=>by
     have :=ag.out n' cY hs;have :=hs.right.1;omega,rfl,rfl⟩))
    obtain⟨w7,p1,p2,W⟩:=V.out w6 10 rX.out J.out;obtain⟨aZ,bg,bb⟩:=hh3 p1 p2 W;clear p1 p2 W V HO HN ai mZ av HI HT zL J h1 h2 G aa ag;go_wp2_with(with_reducible first|refine gS 128 Gl.out ?_|refine gS 75 aZ.out ?_);exact aH (cJ results30 rfl bg.out rfl rfl) rfl bb.out
   all_goals
    have c6:=aN.out;clear h1 h2 aN aD aK;go_wp2_with(with_reducible refine gS 128 Gl.out ?_);refine(ah.out w6 rX.out).mono ?_;rintro e w7 ⟨n,v,g,own,va,ga,ok,rfl,hB,hE,hg,hO,xe,xZ,SK,Mb⟩;have JV:=ar (rX.out.trans' xZ);obtain⟨w8,q1,q2,aI,⟨bj,aO,aW⟩,rM,Yn⟩:=yU JV.out hB hE hO (by have :=rX.out.size;omega);have MV:W0.heap.size<=g:=by have :=rX.out.size;omega
    rw[jt.out] at q1;obtain⟨aU,D5,PB,MI,WU,aM,BU⟩:=hh7 q1 q2 rM SK Mb aI aO;obtain⟨Qy,aR,aS⟩:=hh3 hB MV aW;clear xZ hE hO hB hg xe q1 q2 aI aO rM Yn MV aW SK Mb c6 Gl HO HN ah ai mZ av HI HT zL;generalize WV:aL n v=ZN at *;have W4:=ar WV;clear WV;cases ok with
    |false=>
     obtain⟨e1,e2,e3⟩:=WU.out rfl;obtain⟨w9,p1,p2,W⟩:=V.out w8 10 PB.out (.inr (.inr (.inl ⟨rfl,Yq.out,aJ.out,λn' cY hs=>e3 n' cY hs ((ag.out n' cY hs).symm.trans G),rfl,rfl⟩)));obtain⟨ae,aB,ax⟩:=hh3 p1 p2 W;clear e1 e2 e3 p1 p2 W V MI WU;go_wp2_with(with_reducible first|refine gS 75 aU.out ?_|refine gS 75 ae.out ?_);exact aH (cJ results30 rfl aB.out rfl rfl) rfl ax.out
    |true=>
     obtain⟨w9,p1,p2,W⟩:=CO (n:=n) (v:=v) (CI.out.keep PB.out) Fb.out Qy.out (yR aM.out);have aj:=bZ p2 Qy.out;have ac:E9 w X i (.returned (.tuple #[aL n v,va,(0:Int)])) w9:=by
      have af:=fG.out.size;have bl:=CI.out.lt;refine⟨n,v,g,own,va,bj,0,rfl,Qy.out,aM.out.keep W (λh0=> ?_),?_,BU.out.keep W ?_,?_,(fG.out.trans' PB.out).trans W,.inr (.inr (.inr ⟨rfl,MI.out rfl⟩))⟩
      ·have :=aR.out
       rw[au];omega
      ·have :=aR.out;omega
      ·have :=aS.out
       rw[au];omega
      ·have :=aS.out;omega
     rw[W4.out] at p1 aj ac;obtain⟨ae,aB,ax⟩:=hh3 p1 aj ac;clear p1 p2 W aj ac V MI WU;go_wp2_with(with_reducible first|refine gS 75 aU.out ?_|refine gL 75 D5.out ?_|refine gS 75 ae.out ?_);exact aH (cJ results30 rfl aB.out rfl rfl) rfl ax.out
 ·rw[aP hi] at HI
  obtain⟨w1,q1,q2,q3⟩:=V.out W0 1 (ay.refl _ _) (.inl ⟨rfl,hi,rfl,rfl⟩);obtain⟨HS,HL,HP⟩:=hh3 q1 q2 q3;clear q1 q2 q3 hi V zL CI HT;go_in;go_wp2_with fail;rw[rf.out];refine C' (HI.out _) ?_;go_wp2_with(with_reducible refine gS 75 HS.out ?_);exact aH (cJ results30 rfl HL.out rfl rfl) rfl HP.out
end Go.Proofs.YtimcfdnbpkiniaaGreatDoor
