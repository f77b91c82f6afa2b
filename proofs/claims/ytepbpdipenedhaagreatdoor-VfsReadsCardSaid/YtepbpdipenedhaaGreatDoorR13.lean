/- Lemmas. -/
import Derived.Test.YtepbpdipenedhaaGreatDoorR12
set_option maxHeartbeats 8000000
set_option maxRecDepth 100000
namespace Go.Proofs.YtepbpdipenedhaaGreatDoor
open Go.Proofs.Tryz
open Go.RowKit
variable{cM own:List Nat}{B L R X Y:List Int}{w:World}{b g gp:Nat}{ps:List (Int×Int)}{n:bP}{i j:Int}{a:Value}
def xA (X L:List Int) (n:bP) (own:List Nat):Prop:=
 ((iR L).K=1/\∃l,rR X L l own/\n={ iR L with B:=l })\/
 ((iR L).K=2/\∃E h,Xp X L=some (own,E)/\sY own E/\h.Perm E/\(∀i j,i<j->j<h.length->Op.bytesLess (eU h j).toList (eU h i).toList=false)/\n={ iR L with E:=h })
def Dd (w:World) (X L:List Int) (e:Ending) (w':World):Prop:=
 ∃n v g own z h ok,e= .returned (.tuple #[.agg (aR n v),z,.bool ok])/\n.B.length=13/\bC w' v g n.E/\w.heap.size<=g/\lq w' z h own/\w.heap.size<=h/\az [] w w'/\
  (ok=true->xA X L n own/\own.length<=24/\(∀c,c∈own->0<c/\c<256)/\n.E.length<=72/\∀k,k<n.E.length->(eU n.E k).size<=7)/\(ok=false->∀J G,¬xA X L J G)
theorem TL{E z:List (ByteArray×Int)}(h:sY own E)(G:z.Perm E):z.length<=72/\∀k,k<z.length->(eU z k).size<=7:=by
 refine⟨by have :=G.length_eq;have :=h.ents;have :=h.len;omega,λk J=> ?_⟩;exact h.size _ (G.mem_iff.1 (V6 J))
theorem IU{l:List Int}(h:rR X L l own):own.length<=24/\∀c,c∈own->0<c/\c<256:=by
 rcases h with ⟨-,rfl,-⟩|⟨b,-,G,J,rfl,-⟩
 ·exact⟨by simp,λc z=>by simp at z⟩
 ·exact⟨by simp,λc z=>by rw[ay] at z;omega⟩
theorem PD (Pb:eO w b gp B ps)(DK:Cg (aA B ps)){L:List Int}(hL:L.length=8)(yA:Cg L):
  Calls prog 198 #[.pointer (some ⟨b,0,none⟩),.agg (aW L).toArray] w (Dd w (aA B ps) L):=by
 obtain⟨W0,aa⟩:∃W0,W0=(w.alloc (.cells (aW L).toArray 195)).alloc (.cells (aR cr (.slice none 0 0)) 111):=⟨_,rfl⟩;have aB:bh W0 w.heap.size (aW L).toArray 195 :=by
  rw[aa];exact(bh.new w _ _).alloc _
 have mq:bh W0 (w.heap.size+1) (aR cr (.slice none 0 0)) 111 :=by
  have :=bh.new (w.alloc (.cells (aW L).toArray 195)) (aR cr (.slice none 0 0)) 111;have e:(w.alloc (.cells (aW L).toArray 195)).heap.size=w.heap.size+1:=by simp
  rw[e] at this;rw[aa];exact this
 have dt:az [] w W0:=by
  rw[aa];exact((az.refl _ _).alloc _).alloc _
 have bg:=eA;have GV:=au (eY aB hL);have Tp:=au (BV L hL (yA 0) (yA 1) W0);have qC:=au aa;have fW:=au dt;have rb:=au aB;have KW:=au mq;have aQ:Hid (∀wx,az [] w wx->Calls prog 213 #[.pointer (some ⟨b,0,none⟩),.agg (aW L).toArray] wx (pG wx (aA B ps) L)):=λwx hk=>by
  have h7:=yA 7;by_cases h:L.getD 7 0<9223372036854775808
  ·exact Hd hL yA h
  ·by_cases hb:L.getD 7 0-9223372036854775808=0\/256<=L.getD 7 0-9223372036854775808
   ·exact J6 hL (bi:=L.getD 7 0-9223372036854775808) (by omega) (by omega) hb h7.2
   ·exact He (Pb.keep hk (by simp) (by simp)) DK hL yA (c:=(L.getD 7 0-9223372036854775808).toNat) (by omega) (by omega) (by omega)
 have aU:Hid (∀wx,az [] w wx->Calls prog 214 #[.pointer (some ⟨b,0,none⟩),.agg (aW L).toArray] wx (x8 wx (aA B ps) L)):=λwx hk=>PB (Pb.keep hk (by simp) (by simp)) DK hL yA
 have HL:=au hL;have bb:W0.heap.size=w.heap.size+1+1:=by rw[aa];simp
 have vF:(iR L).B.length=13:=by simp[iR]
 have BP:Hid ((iR L).E=[]/\(iR L).B=List.replicate 13 0):=⟨rfl,rfl⟩;clear aB mq dt aa Pb DK hL yA;generalize aA B ps=X at *;generalize aM:(aW L).toArray=ZL at *;have QY:=au aM;clear aM;obtain⟨J,aj⟩:∃J,J=iR L:=⟨_,rfl⟩;rw[<-aj] at Tp vF BP;have WV:=au aj;clear aj;generalize aN:aR cr (.slice none 0 0)=Z0 at *;have oz:=au aN;clear aN;have TM:Z0.size=18:=by rw[<-oz.out];rfl
 go_enter func198,ntmps198;go_wp2_with((with_reducible show wpList _ _ _ (⟨_,.load 195 (.tmp 3),_,_,_,_⟩::_) _ _);rw[<-qC.out];refine gH rfl 195 (.tmp 3) rfl _ rfl _ GV.out ?_);refine Tp.out.mono ?_;rintro e w1 ⟨rfl,ai⟩;obtain⟨w2,aD,KQ,aH⟩:=bB (P:= prog) (ty:= 111) (cs:=mo J (.slice none 0 0)) (by rw[gU,vF];exact iY) (bh.new w1 Z0 111) (by rw[TM,gU,vF]) (ku rfl);have aG:=ai.size;have ar:bh w2 w1.heap.size (aR J (.slice none 0 0)) 111 :=KQ;have cK:w2.cell? ⟨w1.heap.size,1,none⟩=some (.int .i64 J.K):=by rw[ar.cell];exact(iX _ vF).f1
 have fL:Hid (az [] W0 w2):=(ai.alloc (.cells Z0 111)).trans aH (by intro x hx;rw[ay] at hx;omega);have lU:Hid (∀wz n v g own vo go ok,az [w1.heap.size] w2 wz->bh wz w1.heap.size (aR n v) 111->n.B.length=13->bC wz v g n.E->w.heap.size<=g->(n.E.length≠0->g≠w.heap.size+1)->lq wz vo go own->w.heap.size<=go->go≠w.heap.size+1->
   (ok=true->xA X L n own/\own.length<=24/\(∀c,c∈own->0<c/\c<256)/\n.E.length<=72/\∀k,k<n.E.length->(eU n.E k).size<=7)->(ok=false->∀n' cM,¬xA X L n' cM)->
   (loadVar 111 ⟨w1.heap.size,0,none⟩).run prog wz= .ok (.agg (aR n v)) wz/\∃w',(storeVar 111 ⟨w.heap.size+1,0,none⟩ (.agg (aR n v))).run prog wz= .ok () w'/\(loadVar 111 ⟨w.heap.size+1,0,none⟩).run prog w'= .ok (.agg (aR n v)) w'/\Dd w X L (.returned (.tuple #[.agg (aR n v),vo,.bool ok])) w'):=by
  intro wz n v g own vo go ok hk hb hn hE hg aX hO ag aT h1 h2;have aZ:v.oneCell'=true:=by
   obtain⟨a,c,rfl,-⟩:=hE;rfl
  obtain⟨w',q1,q2,q3⟩:=bB (P:= prog) (ty:= 111) (cs:=mo n v) (by rw[gU,hn];exact iY) ((KW.out.keep fL.out (by simp)).keep hk (by rw[ay];omega)) (by rw[TM,gU,hn]) (ku aZ);refine⟨ct hb hn,w',q1,ct q2 hn,n,v,g,own,vo,go,ok,rfl,hn,hE.keep q3 (λh0=>by rw[ay];exact aX h0),hg,hO.keep q3 (by rw[ay];exact aT),ag,?_,h1,h2⟩;exact((fW.out.trans' fL.out).trans hk (by intro x hx;rw[ay] at hx;omega)).trans q3 (by intro x hx;rw[ay] at hx;omega)
 have DF:=au aD;have OS:=au ar;have zC:Hid ((loadVar 195 ⟨w.heap.size,0,none⟩).run prog w2= .ok (.agg ZL) w2):=by
  have :=rb.out.keep fL.out (by simp);rw[<-QY.out] at this ⊢;exact eY this HL.out
 have ba:=au aG;have FO:=au (fW.out.trans' fL.out);clear aD KQ ar aH ai aG Tp GV;generalize Vz:w1.heap.size=g7 at *;by_cases QZ:J.K=1
 ·rw[QZ] at cK
  go_wp2_with(first|(with_reducible refine gS 111 DF.out ?_)|(with_reducible refine gL 195 zC.out ?_));refine(aQ.out _ FO.out).mono ?_;rintro e w3 ⟨l,vo,go,own,ok,rfl,rQ,ah,ag,aK,G,h1,h2⟩;obtain⟨w4,aO,U,z⟩:=Q9 (OS.out.keep G (by simp)) vF rQ;have aS:w.heap.size+1<w2.heap.size:=by have :=fL.out.size;omega
  obtain⟨qF,w5,Xt,Xu,Xv⟩:=lU.out w4 { J with B:=l } (.slice none 0 0) w.heap.size own vo go ok ((G.mono (by simp)).trans' z) U rQ (by
   show bC w4 _ _ J.E;rw[BP.out.1];exact bC.nil _ _) (aI _) (by
   show J.E.length≠0->_;rw[BP.out.1];intro h;exact absurd rfl h) (ah.keep z (by have :=OS.out.lt;rw[ay];omega)) (by have :=FO.out.size;omega) (by omega) (λak=>by
    have W:=h1 ak;refine⟨.inl ⟨by rw[<-WV.out];exact QZ,l,W,by rw[<-WV.out]⟩,(IU W).1,(IU W).2,?_,?_⟩
    ·show J.E.length<=72
     rw[BP.out.1];simp
    ·show ∀k,k<J.E.length->_
     rw[BP.out.1];intro k hk;simp at hk) (λak n' cM W=>by
    rcases W with ⟨-,l',W,-⟩|⟨ac,-⟩
    ·exact h2 ak l' cM W
    ·rw[<-WV.out] at ac;omega)
  have vB:=au aO;have p9:=au qF;have zz:=au Xt;have IH:=au Xu;have V:=au Xv;clear aO U z qF Xt Xu Xv ah ag aK G h1 h2;generalize aR { J with B:=l } (.slice none 0 0)=ZN at *;go_wp2_with(first|(with_reducible refine gS 109 vB.out ?_)|(with_reducible refine gL 111 p9.out ?_)|(with_reducible refine gS 111 zz.out ?_));exact aL (bU results198 rfl IH.out rfl rfl) rfl V.out
 ·by_cases ac:J.K=2
  ·rw[ac] at cK
   have aS:w.heap.size+1<w2.heap.size:=by have :=fL.out.size;omega
   go_wp2_with(first|(with_reducible refine gS 111 DF.out ?_)|(with_reducible refine gL 195 zC.out ?_));refine(aU.out _ FO.out).mono ?_;rintro e w3 (⟨own,E,E',ve,ge,vo,go,rfl,af,Zo,aC,aJ,av,aV,ah,ag,G⟩|⟨rfl,af,G⟩)
   ·have E9:=OS.out.keep G (by simp)
    have U:=J2 (u:=ve) (E:=E') E9 vF;have z:az [g7] w3 (w3.setCell ⟨g7,17,none⟩ ve):=(az.refl _ _).setCell (.inl (by simp)) _;have ax:=TL Zo aC;have bf:=OS.out.lt;obtain⟨qF,w5,Xt,Xu,Xv⟩:=lU.out (w3.setCell ⟨g7,17,none⟩ ve) { J with E:=E' } ve ge own vo go true ((G.mono (by simp)).trans' z) U vF (av.keep z (λ_=>by rw[ay];omega)) (by omega) (λ_=>by omega) (ah.keep z (by rw[ay];omega)) (by omega) (by omega) (λ_=>⟨.inr ⟨by rw[<-WV.out];exact ac,E,E',af,Zo,aC,aJ,by rw[<-WV.out]⟩,Zo.len,Zo.num,ax.1,ax.2⟩) (λh=>by cases h);have aY:w3.cell? ⟨g7,17,none⟩=some (.slice none 0 0):=by rw[E9.cell];exact zk _ vF
    have aP:w3.frozen? ⟨g7,17,none⟩=false:=E9.frozen 17;obtain⟨ae,ce,rfl,-,-,-⟩:=av.open;have p9:=au qF;have zz:=au Xt;have IH:=au Xu;have V:=au Xv;clear E9 U z ax qF Xt Xu Xv af Zo aC aJ av aV ah ag G;generalize aR { J with E:=E' } (.slice ae E'.length ce)=ZN at *;go_wp2_with(first|(with_reducible refine gL 111 p9.out ?_)|(with_reducible refine gS 111 zz.out ?_));exact aL (bU results198 rfl IH.out rfl rfl) rfl V.out
   ·have E9:=OS.out.keep G (by simp)
    have U:=J2 (u:= .slice none 0 0) (E:=[]) E9 vF;have z:az [g7] w3 (w3.setCell ⟨g7,17,none⟩ (.slice none 0 0)):=(az.refl _ _).setCell (.inl (by simp)) _;obtain⟨qF,w5,Xt,Xu,Xv⟩:=lU.out (w3.setCell ⟨g7,17,none⟩ (.slice none 0 0)) { J with E:=[] } (.slice none 0 0) w.heap.size [] (.slice none 0 0) w.heap.size false ((G.mono (by simp)).trans' z) U vF (bC.nil _ _) (aI _) (λh=>absurd rfl h) (lq.nil _ _) (aI _) (by omega) (λh=>by cases h) (λ_ n' cM W=>by
     rcases W with ⟨aF,-⟩|⟨-,E,E',W,-⟩
     ·rw[<-WV.out] at aF;omega
     ·rw[af] at W;cases W)
    have aY:w3.cell? ⟨g7,17,none⟩=some (.slice none 0 0):=by rw[E9.cell];exact zk _ vF
    have aP:w3.frozen? ⟨g7,17,none⟩=false:=E9.frozen 17;have p9:=au qF;have zz:=au Xt;have IH:=au Xu;have V:=au Xv;clear E9 U z qF Xt Xu Xv af G;generalize aR { J with E:=[] } (.slice none 0 0)=ZN at *;go_wp2_with(first|(with_reducible refine gL 111 p9.out ?_)|(with_reducible refine gS 111 zz.out ?_));exact aL (bU results198 rfl IH.out rfl rfl) rfl V.out
  ·have aF:(J.K==1)=false:=by simpa using QZ
   have bc:(J.K==2)=false:=by simpa using ac
   obtain⟨qF,w5,Xt,Xu,Xv⟩:=lU.out w2 J (.slice none 0 0) w.heap.size [] (.slice none 0 0) w.heap.size false (az.refl _ _) OS.out vF (by rw[BP.out.1];exact bC.nil _ _) (aI _) (by rw[BP.out.1];intro h;exact absurd rfl h) (lq.nil _ _) (aI _) (by omega) (λh=>by cases h) (λ_ n' cM W=>by
    rcases W with ⟨h1,-⟩|⟨h1,-⟩
    ·rw[<-WV.out] at h1;exact QZ h1
    ·rw[<-WV.out] at h1;exact ac h1)
   have p9:=au qF;have zz:=au Xt;have IH:=au Xu;have V:=au Xv;clear qF Xt Xu Xv;generalize J.K=K at *;go_wp2_with(first|(with_reducible refine gS 111 DF.out ?_)|(with_reducible refine gL 111 p9.out ?_)|(with_reducible refine gS 111 zz.out ?_));exact aL (bU results198 rfl IH.out rfl rfl) rfl V.out
def AX (X:List Int) (i:Int) (n:bP) (own:List Nat):Prop:=
 (0<=i/\i<32)/\xA X (fT X i) n own/\n.F=2/\bZ n/\own.length=eP n/\oQ X (fT X i) n own
def ry (w:World) (X:List Int) (i:Int) (e:Ending) (w':World):Prop:=
 ∃n v g own z h ok,e= .returned (.tuple #[.agg (aR n v),z,.bool ok])/\n.B.length=13/\bC w' v g n.E/\w.heap.size<=g/\lq w' z h own/\w.heap.size<=h/\az [] w w'/\
  (ok=true->AX X i n own/\own.length<=24/\(∀c,c∈own->0<c/\c<256)/\n.E.length<=72/\∀k,k<n.E.length->(eU n.E k).size<=7)/\(ok=false->n=cr/\own=[]/\∀J G,¬AX X i J G)
theorem IV {lt:ByteArray×Int->ByteArray×Int->Bool}:∀(l2 z:List (ByteArray×Int)),z.Perm l2->z.Pairwise (λa b=>lt b a=false)->l2.Pairwise (λa b=>lt a b=true)->z=l2
 | [],z,hp,_,_=>hp.eq_nil
 |b::t2,[],hp,_,_=>by have :=hp.length_eq;simp at this
 |b::t2,a::t1,hp,h1,h2=>by
  rw[List.pairwise_cons] at h1 h2;by_cases e:a=b
  ·subst e
   rw[IV t2 t1 (List.Perm.cons_inv hp) h1.2 h2.2]
  ·exfalso
   have U:a∈t2:=by
    rcases aP.1 (hp.mem_iff.1 (jG ..)) with h|h
    ·exact absurd h e
    ·exact h
   have J:b∈t1:=by
    rcases aP.1 (hp.mem_iff.2 (jG ..)) with h|h
    ·exact absurd h.symm e
    ·exact h
   have V:=h2.1 a U;have G:=h1.1 b J;rw[V] at G;cases G
theorem J9 (E:List (ByteArray×Int))(i:Nat)(h:i<E.length):E[i]=(eU E i,jl E i):=by
 simp[eU,jl,h]
theorem zG (h:og n):n.E.Pairwise (λa b=>Op.bytesLess a.1.toList b.1.toList=true):=by
 have G:∀k,k+1<n.E.length->Op.bytesLess (eU n.E k).toList (eU n.E (k+1)).toList=true:=λk V=>by
  have U:=(h.2.2.2 (k+1) V).2.2 (by omega);rw[ic,leB,Bool.or_eq_false_iff] at U;exact rO _ _ U.1 (λe=>by have :=U.2;rw[e] at this;simp at this)
 have J:∀d i,i+1+d<n.E.length->Op.bytesLess (eU n.E i).toList (eU n.E (i+1+d)).toList=true:=by
  intro d;induction d with
  |zero=>exact λi z=>G i z
  |succ d ih=>exact λi z=>nE _ _ _ (ih i (by omega)) (G (i+1+d) z)
 rw[cU];intro i j z W aa;rw[J9 _ i z,J9 _ j W];have :=J (j-i-1) i (by omega);rwa[show i+1+(j-i-1)=j by omega] at this
theorem xA.uniq{U:bP}(h:xA X L n own)(h':xA X L U cM)(hR:bZ U):U=n/\cM=own:=by
 rcases h with ⟨h1,l,W,rfl⟩|⟨h1,E,E',W,-,h3,h4,rfl⟩
 ·rcases h' with ⟨J,l',z,rfl⟩|⟨J,-⟩
  ·obtain⟨rfl,rfl⟩:=W.inj z
   exact⟨rfl,rfl⟩
  ·omega
 ·rcases h' with ⟨J,-⟩|⟨J,F,G,z,-,g3,g4,rfl⟩
  ·omega
  ·rw[W] at z
   cases z;have hd:og { iR L with E:=G }:=(hR.2.2.resolve_left (λh=>by have :(iR L).K=1:=h.1;omega)).2;have e:E'=G:=by
    refine IV (lt:=λa b=>Op.bytesLess a.1.toList b.1.toList) G E' (h3.trans g3.symm) ?_ (zG hd);rw[cU];intro i j hi hj V;rw[J9 _ i hi,J9 _ j hj];exact h4 i j V hj
   subst e;exact⟨rfl,rfl⟩
def Rk (E:List (ByteArray×Int)):Prop:=∀k,k<E.length->iC (bl (eU E k))=true/\0<=jl E k/\jl E k<=31
theorem Xw{c:List (ByteArray×Int)}(h3:c.length<=3)(W:Rk c)(x:Int):nG (yx (eK c) x)=c.length/\pY (ka (yx (eK c) x)) (nG (yx (eK c) x))/\kY (ka (yx (eK c) x)) (nG (yx (eK c) x))=c:=by
 have J:nG (yx (eK c) x)=c.length:=by
  refine IM h3 (λj hj=> ?_) ?_
  ·rw[nX,Nat.mul_comm,(uZ c j hj).1]
   have :=Mq (W j hj).1;omega
  ·rcases (show c.length=3\/c.length<3 by omega) with h|h
   ·exact .inl h
   ·right
    rw[nX,aj,aT (by rw[kx];omega)];rfl
 have G:∀i,i<2*c.length->(ka (yx (eK c) x)).getD i 0=(eK c).getD i 0:=λi hi=>by
  rw[<-nX (eK c) x i,ka,J,aj,bO,aC hi,bT,aj,Nat.add_comm]
 have hw:∀k,k<c.length->(ka (yx (eK c) x)).getD (k*2) 0=((kv (bl (eU c k)):Nat):Int)/\(ka (yx (eK c) x)).getD (k*2+1) 0=jl c k/\kf (kv (bl (eU c k)))=some (bl (eU c k)):=λk z=>by
  rw[G _ (by omega),G _ (by omega)];obtain⟨V,U⟩:=uZ c k z;refine⟨V,U,?_⟩;unfold kv;rw[aC (W k z).1];exact nO (W k z).1 (Ao _)
 refine⟨J,λk z=> ?_,?_⟩
 ·rw[J] at z
  obtain⟨V,U,e3⟩:=hw k z;rw[V,U,aH,e3];have :=(W k z).2;exact⟨rfl,by omega⟩
 ·refine V7 (by rw[jm,J]) λk z=> ?_
  rw[jm,J] at z;obtain⟨V,U,e3⟩:=hw k z;obtain⟨g1,g2⟩:=BO (ka (yx (eK c) x)) (nG (yx (eK c) x)) k (by rw[J];exact z);rw[g1,g2,V,U,aH,e3];exact⟨D4 _,rfl⟩
theorem FP (h:og n)(b:Nat):Rk (ez n.E b):=λk G=>by
 obtain⟨j,z,U,J⟩:=Ea G;rw[U,J];exact⟨(h.2.2.2 j z).1,(h.2.2.2 j z).2.1⟩
theorem aa5{l:List (ByteArray×Int)}(h:Rk l)(x:Nat):Rk (xU l x):=λk z=>by
 obtain⟨G,U,J⟩:=D9 l x k z;rw[U,J];exact h _ G
def yB (E:List (ByteArray×Int)):Nat->List (ByteArray×Int)
 |0=>[]
 |b+1=>yB E b++ez E b
theorem aa6 (l:List (ByteArray×Int))(j:Nat):l.take (3*j)++xU l j=l.take (3*(j+1)):=by
 unfold xU;rw[show 3*(j+1)=3*j+3 by omega,List.take_add]
theorem PE{l:List Nat}{j:Nat}(h:j<l.length):l.take j++[l.getD j 0]=l.take (j+1):=by
 rw[bJ h];simp[h]
theorem PF (hK:n.K=2)(hD:og n)(ho:own.length=fN n.E 4)(N8:own.length<=24)(hm:∀c∈own,c≠0/\c<256)(hL:oQ X R n own){b:Nat}(hb:b<4):
  ∀d j fuel,j+d=dN n.E b->d<fuel->lR X fuel (if j<dN n.E b then ((own.getD (fN n.E b+j) 0:Nat):Int) else 0) (own.take (fN n.E b+j)) (yB n.E b++(ez n.E b).take (3*j))=some (own.take (fN n.E (b+1)),yB n.E (b+1)):=by
 have V:=tQ n.E (show b+1<=4 by omega);intro d;induction d with
 |zero=>
  intro j fuel hj hf;obtain⟨f,rfl⟩:∃f,fuel=f+1:=⟨fuel-1,by omega⟩;obtain rfl:j=dN n.E b:=by omega
  rw[aB (Nat.lt_irrefl _),lR,aC rfl,fN,yB,aV (l:=ez n.E b) (by unfold dN;omega)]
 |succ d ih=>
  intro j fuel hj hf;obtain⟨f,rfl⟩:∃f,fuel=f+1:=⟨fuel-1,by omega⟩;have J:j<dN n.E b:=by omega
  have z:fN n.E b+j<own.length:=by rw[ho];rw[fN] at V;omega
  have hc:=hm _ (jt z);have h:=hL.1 _ z;unfold gV at h;rw[aC hK,rh n.E own J hb] at h;have G:(own.take (fN n.E b+j)).length=fN n.E b+j:=by rw[aJ];omega
  obtain⟨e1,W,e3⟩:=Xw (c:=xU (ez n.E b) j) (by rw[mO];omega) (aa5 (FP hD b) j) (if j+1<dN n.E b then ((own.getD (fN n.E b+(j+1)) 0:Nat):Int) else 0);have Q8:X.getD (1080+8*own.getD (fN n.E b+j) 0) 0=if j+1<dN n.E b then ((own.getD (fN n.E b+(j+1)) 0:Nat):Int) else 0:=by
   have :=j5 X (1080+8*own.getD (fN n.E b+j) 0) 0 (by omega);rw[<-h] at this;exact this.symm
  rw[aC J,lR,aB (by omega),G,aB (by omega),aH];have U:IQ X (own.getD (fN n.E b+j) 0):=by
   unfold IQ;rw[<-h];exact W
  have hE:xz X (own.getD (fN n.E b+j) 0)=xU (ez n.E b) j:=by
   unfold xz;rw[<-h];exact e3
  rw[aC U,hE,Q8,PE z,ba,aa6];exact ih (j+1) f (by omega) (by omega)
theorem My (E:List (ByteArray×Int)):∀b,(yB E b).length<=3*fN E b
 |0=>by simp[yB]
 |b+1=>by
  have :=My E b;rw[yB,fN,aD,dN];omega
theorem adv (E:List (ByteArray×Int)):fN E 4*3<=(yB E 4).length+8:=by
 simp only[yB,fN,dN,aD,bY];omega
theorem Mz:∀E:List (ByteArray×Int),E.Perm (yB E 4)
 | []=>by simp[yB,ez]
 |p::E=>by
  have G:=Mz E;have J:=OW p;simp only[yB,bY] at G ⊢;have z:∀b,ez (p::E) b=if JS p=b then p::ez E b else ez E b:=λb=>by
   unfold ez;rw[iT];simp
  rw[z 0,z 1,z 2,z 3];generalize ez E 0=A at *;generalize ez E 1=B at *;generalize ez E 2=C at *;generalize ez E 3=D at *;refine(List.Perm.cons p G).trans ?_;rcases (show JS p=0\/JS p=1\/JS p=2\/JS p=3 by omega) with h|h|h|h
  ·simp[h]
  ·simp only[h]
   simp only[ba,Nat.one_ne_zero,Nat.reduceEqDiff,↓reduceIte];exact List.perm_middle.symm
  ·simp only[h]
   simp only[ba,Nat.reduceEqDiff,↓reduceIte];have :=(List.perm_middle (a:=p) (l₁:=A++B) (l₂:=C++D)).symm;simpa using this
  ·simp only[h]
   simp only[ba,Nat.reduceEqDiff,↓reduceIte];have :=(List.perm_middle (a:=p) (l₁:=A++B++C) (l₂:=D)).symm;simpa using this
theorem De {X:List Int}{n:bP}{own:List Nat}(z:n.K=2)(J:og n)(W:own.length=fN n.E 4)(G:own.length<=24)(V:∀c∈own,c≠0/\c<256)(U:oQ X (nb n own) n own):
  ∀b,b<=4->rS X (nb n own) b=some (own.take (fN n.E b),yB n.E b)
 |0,_=>by simp[rS,fN,yB]
 |b+1,hb=>by
  have h:=tQ n.E (show b+1<=4 by omega);rw[fN] at h;rw[rS,De z J W G V U b (by omega)];show lR X (25-(own.take (fN n.E b)).length) ((nb n own).getD (2+b) 0) (own.take (fN n.E b)) (yB n.E b)=_;have :=PF z J W G V U (show b<4 by omega) (dN n.E b) 0 (25-fN n.E b) (by omega) (by omega);rw[dR,Nat.mul_zero,eV,bu] at this;rw[(WR z (show b<4 by omega)).1,aJ,cC (by omega)];exact this
theorem aa7 (h:bZ n)(G:R.getD 0 0=oh n)(z:R.getD 1 0=n.S):iR R=⟨n.F,n.K,n.L,n.S,List.replicate 13 0,[]⟩:=by
 rw[<-Mm h [] 0];unfold iR;rw[G,z];rfl
theorem ahS{A:List Int}(h:A.length=5)(x:Int):(A++[x]).getD 5 0=x/\(A++[x]).take 5=A:=by
 constructor
 ·rw[aj,aQ (by omega),h]
  rfl
 ·rw[ia (by omega),aV (by omega)]
theorem FQ (a b:Int)(l:List Int):(a::b::l).drop 2=l/\(a::b::l).getD 7 0=l.getD 5 0:=⟨rfl,rfl⟩
theorem zH (hB:n.B.length=13)(af:xw i n)(G:own.length=eP n)(hm:∀c∈own,c≠0/\c<256)(V:oQ X (fT X i) n own):AX X i n own:=by
 obtain⟨hi,hF,hR⟩:=af;refine⟨hi,?_,hF,hR,G,V⟩;have W:=V.2;rw[<-W] at V ⊢;have Pp:=aa7 hR (Ca n own).1 (Ca n own).2;rcases hR.2.2 with ⟨hK,hf⟩|⟨hK,U⟩
 ·left
  rw[Pp];refine⟨hK,n.B,?_,?_⟩
  ·have hr:nb n own=ml n own:=aB (by omega)
   have hb:gV n own=jW n:=aB (by omega);have ai:(fu n.B).length<=13:=lN n.B 13;have sX:∀k,k<13->0<=n.B.getD k 0/\n.B.getD k 0<256:=λk hk=>(hf.2.2.2 k hk).1
   rw[rp hf] at G;by_cases h6:(fu n.B).length<=6
   ·left
    have o9:ml n own=oh n::n.S::(fu n.B++List.replicate (6-(fu n.B).length) 0):=aC h6;rw[aB (by omega)] at G;rw[hr,o9];refine⟨?_,bg G,?_⟩
    ·rw[(FQ _ _ _).2,aj]
     by_cases h5:5<(fu n.B).length
     ·rw[aY h5,aG h5]
      exact(Eb (bA h5)).2
     ·rw[aQ (by omega),bo]
      split<;>simp
    ·rw[(FQ _ _ _).1]
     have :=FK hB sX (6-(fu n.B).length);rwa[show(fu n.B).length+(6-(fu n.B).length)=6 by omega] at this
   ·right
    have o9:ml n own=oh n::n.S::((fu n.B).take 5++[9223372036854775808+((own.getD 0 0:Nat):Int)]):=aB h6;have aa:jW n=[(fu n.B).drop 5++List.replicate (13-(fu n.B).length) 0]:=aB h6;rw[aC (by omega)] at G;obtain⟨c,rfl⟩:=List.length_eq_one_iff.1 G;have hc:=hm c (by simp);have z:=V.1 0 (by simp);rw[hb,aa] at z;have z:(fu n.B).drop 5++List.replicate (13-(fu n.B).length) 0=eu X (1080+8*c):=z;have ag:((fu n.B).take 5).length=5:=by rw[aJ];omega
    rw[hr,o9];have hg:[c].getD 0 0=c:=rfl;rw[hg];obtain⟨a1,a2⟩:=ahS ag (9223372036854775808+((c:Nat):Int));obtain⟨d1,d2⟩:=FQ (oh n) n.S ((fu n.B).take 5++[9223372036854775808+((c:Nat):Int)]);refine⟨c,?_,by omega,hc.2,rfl,?_⟩
    ·rw[d2,a1]
    ·rw[d1,a2,<-z,<-ba,eI]
     have :=FK hB sX (13-(fu n.B).length);rwa[show(fu n.B).length+(13-(fu n.B).length)=13 by omega] at this
  ·have hE:n.E=[]:=bg hf.2.1
   cases n;simp at hE;subst hE;rfl
 ·right
  rw[Pp];have J:=G;rw[ua U] at J;have hp:=Mz n.E;have au:=hp.length_eq;have ar:=adv n.E;have N8:=U.1;have ak:=My n.E 4;have hs:=De hK U J (by omega) hm V 4 (aI _);rw[<-J,gA] at hs;refine⟨hK,yB n.E 4,n.E,hs,⟨by omega,λc hc=> ?_,by omega,λp ac=> ?_⟩,hp,λi j ah hj=> ?_,?_⟩
  ·have :=hm c hc
   omega
  ·have ae:=hp.mem_iff.2 ac
   obtain⟨k,hk,rfl⟩:=cj ae;rw[J9 _ k hk];have :=(nN (U.2.2.2 k hk).1).2;rw[lM] at this;exact this
  ·have Zo:=cU.1 (zG U) i j (by omega) hj ah
   rw[J9 _ i (by omega),J9 _ j hj] at Zo;cases h:Op.bytesLess (eU n.E j).toList (eU n.E i).toList
   ·rfl
   ·have :=nE _ _ _ Zo h
    rw[nZ] at this;cases this
  ·have hb:=U.2.2.1
   cases n;simp at hb;subst hb;rfl
theorem MA (h:AX X i n own):own.Nodup:=by
 obtain⟨hi,hs,hF,hR,ho,hL⟩:=h;rcases hR.2.2 with ⟨hK,hf⟩|⟨hK,hD⟩
 ·rw[rp hf] at ho
  have :own.length<=1:=by rw[ho];split<;>omega
  match own,this with
  | [],_=>exact List.nodup_nil
  | [c],_=>simp
  |_::_::_,h=>simp at h
 ·rw[ua hD] at ho
  have xk:∀m,m<own.length->∃b j,b<4/\3*j<(ez n.E b).length/\m=fN n.E b+j/\X.getD (1080+8*own.getD m 0+1) 0=((kv (bl (eU (ez n.E b) (3*j))):Nat):Int):=λm IL=>by
   obtain⟨b,j,hb,J,rfl⟩:=tS n.E (ho▸IL);have h3:3*j<(ez n.E b).length:=by unfold dN at J;omega
   refine⟨b,j,hb,h3,rfl,?_⟩;have z:=hL.1 _ IL;unfold gV at z;rw[aC hK,rh n.E own J hb] at z;have h1:=j5 X (1080+8*own.getD (fN n.E b+j) 0) 1 (by omega);rw[<-z,WK,nX,Mf _ _ _ (by omega),aC ⟨by omega,by omega⟩,aC rfl] at h1;exact h1.symm
  rw[List.nodup_iff_pairwise_ne,cU];intro i1 i2 h1 h2 ah he;obtain⟨b,j,hb,J,e1,w1⟩:=xk i1 h1;obtain⟨V,U,ag,G,e2,w2⟩:=xk i2 h2;have ae:own.getD i1 0=own.getD i2 0:=by simp[h1,h2,he]
  rw[ae,w2] at w1;have hw:kv (bl (eU (ez n.E V) (3*U)))=kv (bl (eU (ez n.E b) (3*j))):=by omega
  have g1:=(FP hD b _ J).1;have g2:=(FP hD V _ G).1;unfold kv at hw;rw[aC g1,aC g2] at hw;have Wk:=nO g1 (Ao _);rw[<-hw,nO g2 (Ao _)] at Wk;have W:bl (eU (ez n.E V) (3*U))=bl (eU (ez n.E b) (3*j)):=Option.some.inj Wk;have aa:∀q k,k<(ez n.E q).length->qV (bl (eU (ez n.E q) k))=q:=λq k hk=>by
   have :=(List.mem_filter.1 (V6 hk)).2;exact beq_iff_eq.1 this
  have af:b=V:=by rw[<-aa b _ J,<-aa V _ G,W]
  subst af;have Sd:eU (ez n.E b) (3*U)=eU (ez n.E b) (3*j):=by rw[<-D4 (eU (ez n.E b) (3*U)),W,D4]
  have Zo:(ez n.E b).Pairwise (λx y=>Op.bytesLess x.1.toList y.1.toList=true):=(zG hD).filter _;have ac:=cU.1 Zo (3*j) (3*U) J G (by omega);rw[J9 _ _ J,J9 _ _ G,Sd,nZ] at ac;cases ac
def dP (X:List Int) (i:Int):Prop:=fT X i=List.replicate 8 0
instance (X:List Int) (i:Int):Decidable (dP X i):=by unfold dP;infer_instance
def dz (n:bP):Nat:=if n.F=2 then eP n else eZ n
structure eG (X:List Int) (i:Int) (n:bP) (own:List Nat):Prop where
 rng:0<=i/\i<32
 len:n.B.length=13
 right:bZ n
 mem:∀c∈own,c≠0/\c<256
 nodup:own.Nodup
 laid:(n.F=1/\own.length=eZ n/\Fz X (824+8*i.toNat) n own)\/(n.F=2/\own.length=eP n/\oQ X (fT X i) n own)
theorem eG.ownLen(h:eG X i n own):own.length=dz n:=by
 unfold dz;rcases h.laid with ⟨G,z,-⟩|⟨G,z,-⟩
 ·rw[aB (by omega),z]
 ·rw[aC G,z]
theorem MB (h:bZ n):eZ n<=7:=by
 have z:=jz h;have :=vC n;omega
theorem ui (h:bZ n):dz n<=32:=by
 have z:=MB h;have G:=Fw h;unfold dz;split<;>omega
theorem eG.tag(h:eG X i n own):(fT X i).getD 0 0=oh n:=by
 rcases h.laid with ⟨-,-,z⟩|⟨-,-,z⟩
 ·unfold fT
  rw[z.row];rfl
 ·rw[<-z.2]
  exact(Ca n own).1
theorem MD (h:bZ n):oh n%256=n.F/\0<oh n:=by
 obtain⟨hF,J,z⟩:=h;have G:n.K=1\/n.K=2:=z.imp (·.1) (·.1);unfold oh;omega
theorem eG.format(h:eG X i n own):(fT X i).getD 0 0%256=n.F:=by
 rw[h.tag];exact(MD h.right).1
theorem eG.notFree(h:eG X i n own):¬dP X i:=λG=>by
 have z:=h.tag;have J:=(MD h.right).2;rw[G] at z;simp at z;omega
theorem eG.uniq{n':bP}(h:eG X i n own)(z:eG X i n' cM):n'=n/\cM=own:=by
 have hf:=h.format;have aa:=z.format;rcases h.laid with ⟨V,W,a3⟩|⟨V,W,a3⟩
 ·rcases z.laid with ⟨J,U,G⟩|⟨J,U,G⟩
  ·obtain⟨-,c1,c2⟩:=Cc h.len h.right V W h.mem a3
   obtain⟨-,d1,d2⟩:=Cc z.len z.right J U z.mem G;exact⟨by rw[<-d1,c1],by rw[<-d2,c2]⟩
  ·omega
 ·rcases z.laid with ⟨J,U,G⟩|⟨J,U,G⟩
  ·omega
  ·have r1:=zH h.len ⟨h.rng,V,h.right⟩ W h.mem a3
   have r2:=zH z.len ⟨z.rng,J,z.right⟩ U z.mem G;exact r1.2.1.uniq r2.2.1 z.right
theorem TN (z:In64 X)(J:0<=i/\i<32)(h:mf X (fT X i)):eG X i (nu X (fT X i)) (DI X (fT X i)):=by
 obtain⟨G,V,h3,W,h5,h6,U⟩:=TA z (q:=824+8*i.toNat) h;exact⟨J,h3,G,h5,h6,.inl ⟨V,W,U⟩⟩
theorem TP (hB:n.B.length=13)(J:∀c∈own,0<c/\c<256)(h:AX X i n own):eG X i n own:=by
 have G:=MA h;obtain⟨z,h2,h3,U,V,W⟩:=h;exact⟨z,hB,U,λc hc=>by have :=J c hc;omega,G,.inr ⟨h3,V,W⟩⟩
theorem Ka (h:eG X i n own)(hF:n.F=1):mf X (fT X i)/\nu X (fT X i)=n/\DI X (fT X i)=own:=by
 rcases h.laid with ⟨G,J,z⟩|⟨G,J,z⟩
 ·exact Cc h.len h.right G J h.mem z
 ·omega
theorem Kb (h:eG X i n own)(hF:n.F=2):AX X i n own:=by
 rcases h.laid with ⟨G,J,z⟩|⟨G,J,z⟩
 ·omega
 ·exact zH h.len ⟨h.rng,G,h.right⟩ J h.mem z
theorem Ci{p:Nat}(h:∀j,j<8->Y.getD (p+j) 0=X.getD (p+j) 0):eu Y p=eu X p:=by
 unfold eu;apply dD;intro j z;exact h j (bX.1 z)
theorem eG.same(h:eG X i n own)(h1:∀j,j<8->Y.getD (824+8*i.toNat+j) 0=X.getD (824+8*i.toNat+j) 0)
  (h2:∀c∈own,∀j,j<8->Y.getD (1080+8*c+j) 0=X.getD (1080+8*c+j) 0):eG Y i n own:=by
 have W:eu Y (824+8*i.toNat)=eu X (824+8*i.toNat):=Ci h1;have V:∀m,m<own.length->eu Y (1080+8*own.getD m 0)=eu X (1080+8*own.getD m 0):=λm z=>Ci (h2 _ (jt z))
 refine⟨h.rng,h.len,h.right,h.mem,h.nodup,?_⟩;rcases h.laid with ⟨J,U,G⟩|⟨J,U,G⟩
 ·exact .inl ⟨J,U,by rw[W];exact G.row,λm z=>by rw[V m z];exact G.own m z⟩
 ·refine .inr ⟨J,U,λm z=>by rw[V m z];exact G.1 m z,?_⟩
  unfold fT;rw[W];exact G.2
theorem dP.same(h:dP X i)(z:∀j,j<8->Y.getD (824+8*i.toNat+j) 0=X.getD (824+8*i.toNat+j) 0):dP Y i:=by
 unfold dP fT at *;rw[Ci z];exact h
def cJ (X:List Int):List Nat->List (Int×Int)
 | []=>[]
 |b::l=>eJ X b false++cJ (aA X (eJ X b false)) l
theorem ME (l:List Nat)(b:Nat):∀X:List Int,cJ X (l++[b])=cJ X l++eJ (aA X (cJ X l)) b false:=by
 induction l with
 |nil=>intro X;show eJ X b false++[]=_;rw[bu];rfl
 |cons c l ih=>
  intro X;show eJ X c false++cJ _ (l++[b])=(eJ X c false++cJ _ l)++eJ (aA X (eJ X c false++cJ _ l)) b false;rw[ih,bD,ba]
theorem Xx (X:List Int)(b:Nat)(u:Bool):(eJ X b u).length<=1:=by
 unfold eJ;split<;>simp
theorem vG (l:List Nat):∀X:List Int,(cJ X l).length<=l.length:=by
 induction l with
 |nil=>intro X;exact aI _
 |cons b l ih=>
  intro X;show(eJ X b false++cJ _ l).length<=_;have h:=Xx X b false;have z:=ih (aA X (eJ X b false));rw[aD,bQ];omega
theorem jF (l:List Nat):∀X:List Int,In64 X->X.length=3128->
  In64 (aA X (cJ X l))/\(∀c,c<256->c≠0->dC (aA X (cJ X l)) c=(dC X c && !decide (c∈l)))/\(∀k,820<=k->(aA X (cJ X l)).getD k 0=X.getD k 0):=by
 induction l with
 |nil=>intro X h U;exact⟨h,λc _ _=>by simp[cJ,aA],λk _=>rfl⟩
 |cons b l ih=>
  intro X h U;have W:In64 (aA X (eJ X b false)):=h.put (Lp h b false);have h2:(aA X (eJ X b false)).length=3128:=by rw[b7,U]
  obtain⟨k1,k2,k3⟩:=ih _ W h2;have e:aA X (cJ X (b::l))=aA (aA X (eJ X b false)) (cJ (aA X (eJ X b false)) l):=bD _ _ _;rw[e];refine⟨k1,λc hc V=> ?_,λk hk=> ?_⟩
  ·rw[k2 c hc V]
   by_cases hb:b=0\/256<=b
   ·have :eJ X b false=[]:=aC hb
    rw[this];have J:¬c=b:=by omega
    simp[aA,J]
   ·rw[BF h U b (by omega) (by omega)]
    by_cases z:c=b
    ·simp[z]
    ·simp[z]
  ·rw[k3 k hk]
   refine ey _ _ _ λp G=> ?_
   unfold eJ at G;split at G
   ·simp at G
   ·rw[ay] at G
    subst G;show((816+b/64:Nat):Int).toNat≠k;omega
theorem uj (hm:∀c∈own,c≠0/\c<256)(W:own.Nodup)(hu:∀c∈own,dC X c=true)(h:∀c,c<256->c≠0->dC Y c=(dC X c && !decide (c∈own))):
  (aZ Y).length=(aZ X).length+own.length:=by
 have hp:(aZ Y).Perm (aZ X++own):=by
  apply(List.perm_ext_iff_of_nodup (qU Y 256) ?_).2
  ·intro c
   rw[aU];unfold aZ;rw[jT,jT];constructor
   ·rintro⟨z,G,J⟩
    rw[h c z G] at J;by_cases V:c∈own
    ·exact .inr V
    ·simp[V] at J
     exact .inl ⟨z,G,J⟩
   ·rintro (⟨z,G,J⟩|z)
    ·exact⟨z,G,by rw[h c z G,J];rfl⟩
    ·have :=hm c z
     exact⟨this.2,this.1,by rw[h c this.2 this.1];simp[z]⟩
  ·refine List.nodup_append.2 ⟨qU X 256,W,λa ha b hb U=> ?_⟩
   subst U;have :=(jT.1 ha).2.2;rw[hu a hb] at this;cases this
 rw[hp.length_eq,aD]
theorem Cj (h:∀k,k<820->Y.getD k 0=X.getD k 0):(∀c,c<256->dC Y c=dC X c)/\aZ Y=aZ X:=by
 have G:∀c,c<256->dC Y c=dC X c:=λc z=>by
  unfold dC bw;rw[h _ (by omega)]
 refine⟨G,?_⟩;unfold aZ gW;apply iE;intro c z;rw[G c (bX.1 z)]
def Hf (X:List Int) (i:Nat) (n:bP) (own:List Nat):List (Int×Int):=if n.F=2 then mb X i n own else oP X i n own
structure Ck (X:List Int) (i:Int) (n:bP) (own:List Nat) (X':List Int) (cM:List Nat):Prop where
 st:eG X' i n cM
 w64:In64 X'
 len:X'.length=3128
 used:∀c,c<256->c≠0->dC X' c=((dC X c && !decide (c∈own))||decide (c∈cM))
 free:∀c∈cM,(dC X c && !decide (c∈own))=false
 other:∀k,820<=k->¬(824+8*i.toNat<=k/\k<824+8*i.toNat+8)->¬(1080<=k/\(k-1080)/8∈cM)->X'.getD k 0=X.getD k 0
 count:(aZ X').length+dz n=(aZ (aA X (cJ X own))).length
theorem FR (h:In64 X)(J:X.length=3128){own:List Nat}(U:∀c∈own,c≠0/\c<256){qs:List (Int×Int)}(W:∀p∈qs,820<=p.1.toNat):
  (∀c,c<256->dC (aA X (cW X own++qs)) c=(dC X c||decide (c∈own)))/\aZ (aA X (cW X own++qs))=aZ (aA X (cW X own)):=by
 rw[bD];obtain⟨G,V⟩:=Cj (X:=aA X (cW X own)) (Y:=aA (aA X (cW X own)) qs) λk hk=>ey _ _ _ λp hp=>by have :=W p hp;omega
 exact⟨λc z=>by rw[G c z,(mN own X h J U).2.2 c z],V⟩
theorem aa8 (z:In64 X)(U:X.length=3128){i:Int}{n:bP}(hB:n.B.length=13)(hi:0<=i/\i<32)(hR:bZ n)(hn:dz n<=(aZ X).length):
  Ck X i n [] (aA X (Hf X i.toNat n ((aZ X).take (dz n)))) ((aZ X).take (dz n)):=by
 have J:=sJ hn;have hm:∀c∈(aZ X).take (dz n),c≠0/\c<256:=pF;have G:((aZ X).take (dz n)).Nodup:=ru;have o9:∀c∈(aZ X).take (dz n),(dC X c && !decide (c∈([]:List Nat)))=false:=λc W=>by
  rw[(jT.1 (bM W)).2.2];rfl
 obtain⟨-,-,ae⟩:=EF z U (dz n);have Kc:∀Y,aZ Y=aZ (aA X (cW X ((aZ X).take (dz n))))->(aZ Y).length+dz n=(aZ (aA X (cJ X []))).length:=λY hY=>by
  rw[hY,ae,bE];show _=(aZ X).length;omega
 have hF:n.F=1\/n.F=2:=hR.1;have Df:∀c,c<256->∀b:Bool,(dC X c||b)=((dC X c && !decide (c∈([]:List Nat)))||b):=λc _ b=>by simp
 rcases hF with hF|hF
 ·have tV:dz n=eZ n:=aB (by omega)
  have aa:∀own,Hf X i.toNat n own=oP X i.toNat n own:=λown=>aB (by omega)
  rw[tV] at hn J hm G o9 Kc ⊢;rw[aa];obtain⟨a1,a2,a3⟩:=Xh z U hB ⟨hi,hF,hR⟩ hn;have ag:=jz hR;have af:=vC n;have ac:bj n.E.length<=((aZ X).take (eZ n)).length:=by omega
  obtain⟨u1,u2⟩:=FR z U hm (qs:=vz i.toNat n ((aZ X).take (eZ n))) λp V=>by
   rcases rN ac V with ⟨h,-⟩|⟨h,-⟩<;>omega
  exact⟨⟨hi,hB,hR,hm,G,.inl ⟨hF,J,a1⟩⟩,a2,by rw[b7,U],λc W _=>by rw[<-Df c W];exact u1 c W,o9,a3,by rw[tV];exact Kc _ u2⟩
 ·have tV:dz n=eP n:=aC hF
  have aa:∀own,Hf X i.toNat n own=mb X i.toNat n own:=λown=>aC hF
  rw[tV] at hn J hm G o9 Kc ⊢;rw[aa];obtain⟨a1,a2,a3⟩:=TC z U ⟨hi,hF,hR⟩ hn;obtain⟨u1,u2⟩:=FR z U hm (qs:=sI (gV n ((aZ X).take (eP n))) ((aZ X).take (eP n)) ((aZ X).take (eP n)).length++jD (824+8*i.toNat) (nb n ((aZ X).take (eP n))) 8) λp V=>by
   rcases aU.1 V with V|V
   ·obtain⟨m,j,-,-,h,-⟩:=ug V
    omega
   ·obtain⟨j,-,h,-⟩:=lF V
    omega
  exact⟨⟨hi,hB,hR,hm,G,.inr ⟨hF,J,a1⟩⟩,a2,by rw[b7,U],λc W _=>by rw[<-Df c W];exact u1 c W,o9,a3,by rw[tV];exact Kc _ u2⟩
def lH (X:List Int) (i:Nat) (n:bP) (own:List Nat):List (Int×Int):=
 cJ X own++Hf (aA X (cJ X own)) i n ((aZ (aA X (cJ X own))).take (dz n))
theorem aa9 (J:In64 X)(V:X.length=3128){i:Int}{n:bP}{own:List Nat}(hB:n.B.length=13)(hi:0<=i/\i<32)(hR:bZ n)(hn:dz n<=(aZ (aA X (cJ X own))).length):
  Ck X i n own (aA X (lH X i.toNat n own)) ((aZ (aA X (cJ X own))).take (dz n)):=by
 obtain⟨g1,U,g3⟩:=jF own X J V;have gl:(aA X (cJ X own)).length=3128:=by rw[b7,V]
 have h:=aa8 g1 gl hB hi hR hn;have hm:∀c∈(aZ (aA X (cJ X own))).take (dz n),c≠0/\c<256:=pF;unfold lH;rw[bD];obtain⟨Y,hY⟩:∃Y,Y=aA X (cJ X own):=⟨_,rfl⟩;rw[<-hY] at g1 U g3 gl h hm ⊢;refine⟨h.st,h.w64,h.len,λc G h0=> ?_,λc G=> ?_,λk W h1 h2=> ?_,?_⟩
 ·rw[h.used c G h0,U c G h0]
  simp
 ·have :=h.free c G
  have z:=hm c G;rw[U c z.2 z.1] at this;simpa using this
 ·rw[h.other k W h1 h2,g3 k W]
 ·rw[<-hY]
  exact h.count
theorem Ck.keeps{X':List Int}{m:bP}{W z:List Nat}(h:Ck X i n own X' W)(hj:eG X j m z)(aa:i≠j)(hu:∀c∈z,dC X c=true)(hd:∀c∈z,c∉own):eG X' j m z:=by
 have hi:=h.st.rng;have ac:=hj.rng;have J:∀c∈z,c∉W:=λc G V=>by
  have :=h.free c V;rw[hu c G] at this;simp[hd c G] at this
 refine hj.same (λk hk=>h.other _ (by omega) (by omega) (λU=>by omega)) λc G k hk=>h.other _ (by omega) (by omega) λU=> ?_
 have :(1080+8*c+k-1080)/8=c:=by omega
 rw[this] at U;exact J c G U.2
theorem Ck.free_keeps{z:List Int}{G:List Nat}(h:Ck X i n own z G)(J:dP X j)(V:0<=j/\j<32)(U:i≠j):dP z j:=by
 have hi:=h.st.rng;exact J.same λk W=>h.other _ (by omega) (by omega) (λhx=>by omega)
theorem Xy (Pb:eO w b gp B ps)(DK:Cg (aA B ps))(i:Int):
  Calls prog 173 #[.pointer (some ⟨b,0,none⟩),.int .i64 i] w (ry w (aA B ps) i):=by
 have af:=bh.new w (aR cr (.slice none 0 0)) 111;obtain⟨W0,ac⟩:∃W0,W0=w.alloc (.cells (aR cr (.slice none 0 0)) 111):=⟨_,rfl⟩;rw[<-ac] at af;have dt:az [] w W0:=by
  rw[ac];exact(az.refl _ _).alloc _
 have bu:W0.heap.size=w.heap.size+1:=by rw[ac];simp
 have bn:=eA;have bA:=kC;have HI:=au (jY i);have pH:Hid (∀wz,az [] W0 wz->(∀n' W,¬AX (aA B ps) i n' W)->∃w',(storeVar 111 ⟨w.heap.size,0,none⟩ (.agg (aR cr (.slice none 0 0)))).run prog wz= .ok () w'/\(loadVar 111 ⟨w.heap.size,0,none⟩).run prog w'= .ok (.agg (aR cr (.slice none 0 0))) w'/\ry w (aA B ps) i (.returned (.tuple #[.agg (aR cr (.slice none 0 0)),.slice none 0 0,.bool false])) w'):=λwz U hn=>by
  obtain⟨w',q1,q2,q3⟩:=bB (P:= prog) (ty:= 111) (cs:=mo cr (.slice none 0 0)) iY (af.keep U (by simp)) rfl (ku rfl);exact⟨w',q1,ct q2 rfl,cr,_,w.heap.size,[],_,w.heap.size,false,rfl,rfl,bC.nil _ _,aI _,lq.nil _ _,aI _,(dt.trans' U).trans q3 (by intro x hx;rw[ay] at hx;omega),λh=>(by cases h),λ_=>⟨rfl,rfl,hn⟩⟩
 have qC:=au ac;have fW:=au dt;have AL:=au af;have wC:=au Pb;have TJ:=au DK;clear af dt ac Pb DK;generalize aU:aA B ps=X at *;have Mw:=au aU;clear aU;generalize aM:aR cr (.slice none 0 0)=Z0 at *;have oz:=au aM;clear aM;have TM:Z0.size=18:=by rw[<-oz.out];rfl
 by_cases hi:0<=i/\i<32
 ·have ae:gF i=((824+8*i.toNat:Nat):Int):=by rw[gF,aB (by omega)];omega
  rw[ae] at HI;have bv:¬((824+8*i.toNat:Nat):Int)<0:=by omega
  have ma:=au (oL (wC.out.keep fW.out (by simp) (by simp)) (824+8*i.toNat) (by omega));rw[Mw.out] at ma;have wN:=iD X (824+8*i.toNat);obtain⟨r,hr⟩:∃r,r=eu X (824+8*i.toNat):=⟨_,rfl⟩;have aQ:fT X i=r:=by rw[hr];rfl
  have yw:Hid (Cg r):=by rw[hr];exact Cg.row TJ.out _
  rw[<-hr] at ma wN;have PG:=au aQ;clear hr aQ ae;generalize bf:((824+8*i.toNat:Nat):Int)=pi at *;clear bf;generalize wK:(aW (List.replicate 8 0)).toArray=Z8 at *;have xR:=au wK;clear wK;go_enter func173,ntmps173;go_wp2_with fail;refine(HI.out _).mono ?_;rintro e wy ⟨rfl,rfl⟩;go_wp2_with fail;refine(HI.out _).mono ?_;rintro e wy ⟨rfl,rfl⟩;go_wp2_with fail;rw[<-qC.out];refine ma.out.mono ?_;rintro e w1 ⟨rfl,ah⟩;obtain⟨w2,aD,KQ,aG⟩:=bB (P:= prog) (ty:= 195) (cs:=aW r) (by rw[bp,wN];exact ja) (bh.new w1 Z8 195) (by rw[<-xR.out];simp[bp,wN]) (fh _);have ba:=ah.size;have fL:Hid (az [] W0 w2):=(ah.alloc (.cells Z8 195)).trans aG (by intro x hx;rw[ay] at hx;omega);have OS:=au KQ;have DF:=au aD;have O5:Hid (∀J,az [] w2 J->(loadVar 195 ⟨w1.heap.size,0,none⟩).run prog J= .ok (.agg (aW r).toArray) J):=λJ U=>eY (OS.out.keep U (by simp)) wN
  have FO:=au (fW.out.trans' fL.out);have Oc:=PD (wC.out.keep FO.out (by simp) (by simp)) (by rw[Mw.out];exact TJ.out) wN yw.out;rw[Mw.out] at Oc;have aP:=au Oc;clear aD KQ aG ah ba ma Oc;generalize Vz:w1.heap.size=g7 at *;have bc:=au (O5.out w2 (az.refl _ _));go_wp2_with(first|(with_reducible refine gS 195 DF.out ?_)|(with_reducible refine gL 195 bc.out ?_));refine aP.out.mono ?_;rintro e w3 ⟨n,v,g,own,vo,go,ok,rfl,vF,hE,hg,hO,aj,ak,h1,h2⟩;obtain⟨w4,aT,aJ,ai⟩:=bB (P:= prog) (ty:= 111) (cs:=mo n v) (by rw[gU,vF];exact iY) (bh.new w3 Z0 111) (by rw[TM,gU,vF]) (ku (by obtain⟨a,c,rfl,-⟩:=hE;rfl));have aK:=ak.size;have pW:Hid (az [] w2 w4):=(ak.alloc (.cells Z0 111)).trans ai (by intro x hx;rw[ay] at hx;omega);have ar:bh w4 w3.heap.size (aR n v) 111 :=aJ;have cF:w4.cell? ⟨w3.heap.size,0,none⟩=some (.int .i64 n.F):=by rw[ar.cell];exact(iX _ vF).f0
  have AO:Hid (∀J,az [] w4 J->(loadVar 111 ⟨w3.heap.size,0,none⟩).run prog J= .ok (.agg (aR n v)) J):=λJ U=>ct (ar.keep U (by simp)) vF
  have AW:az [w3.heap.size] w3 w4:=((az.refl [w3.heap.size] w3).alloc (.cells Z0 111)).trans' ai;have VE:bC w4 v g n.E:=hE.keep AW (λh0=>by
   have :=hE.apart (l:=[w3.heap.size]) (λx hx=>by rw[ay] at hx;omega) h0;exact this)
  have Rl:∃aa,lq w4 vo aa own/\w2.heap.size<=aa:=hO.away aj AW (λx hx=>by rw[ay] at hx;omega);obtain⟨aa,Rl,aO⟩:=Rl;have Pe:=au VE;have ax:=au Rl;have vB:Hid ((storeVar 111 ⟨w3.heap.size,0,none⟩ (.agg (aR n v))).run prog (w3.alloc (.cells Z0 111))= .ok () w4):=aT;have H1:=au h1;have H2:=au h2;have zx:=au vF;have HG:=au hg;have bk:=au aO;have bo:=au aK;clear aT aJ ar ai AW VE Rl hE hO hg aj aO ak h1 h2 vF aK aP;generalize LO:w3.heap.size=g8 at *;have ag:Hid (ok=true->∀n' W,AX X i n' W->n'=n/\W=own):=λaZ n' W h=>by
   have :=h.2.1;rw[PG.out] at this;exact(H1.out aZ).1.uniq this h.2.2.2.1
  cases ok with
  |false=>
   obtain⟨w9,V,G,z⟩:=pH.out w4 (fL.out.trans' pW.out) (λn' W h=>by have :=h.2.1;rw[PG.out] at this;exact H2.out rfl n' W this);have D7:=au V;have pX:=au G;have TQ:=au z;clear V G z pH H1 H2;go_wp2_with(first|(with_reducible refine gS 111 vB.out ?_)|(with_reducible refine gS 111 D7.out ?_));exact aL (bU results173 rfl pX.out rfl rfl) rfl TQ.out
  |true=>
   by_cases hF:n.F=2
   ·rw[hF] at cF
    have Rf:=au hF;clear hF;have aF:Hid (∀k,k<n.E.length->(eU n.E k).size<=9223372036854775807):=λk U=>by have :=(H1.out rfl).2.2.2.2 k U;omega
    have yR:Hid (∀J,az [] w4 J->Calls prog 96 #[.agg (aR n v)] J λe w'=>e= .returned (.bool (decide (bZ n)))/\az [] J w'):=λJ U=>nt n v g zx.out J (Pe.out.keep U (by simp)) aF.out
    have bb:Hid (∀J,az [] w4 J->Calls prog 199 #[.agg (aR n v)] J λe w'=>e= .returned (.int .i64 ((if bZ n then eP n else 0:Nat):Int))/\az [] J w'):=λJ U=>Fa n v g zx.out J (Pe.out.keep U (by simp)) (by have :=(H1.out rfl).2.2.2.1;omega) aF.out
    have bg:Hid (bZ n->own.length=eP n->∀J,az [] w4 J->Calls prog 200 #[.pointer (some ⟨b,0,none⟩),.agg (aW r).toArray,.agg (aR n v),vo] J λe w'=>∃t:Bool,e= .returned (.bool t)/\(t=true↔oQ X r n own)/\az [] J w'):=λhR hN J U=>by
     have h:=Tj (R:=r) (((wC.out.keep FO.out (by simp) (by simp)).keep pW.out (by simp) (by simp)).keep U (by simp) (by simp)) n v g zx.out hR (Pe.out.keep U (by simp)) vo aa own (ax.out.keep U (by simp)).reads hN (λc hc=>((H1.out rfl).2.2.1 c hc).2) wN;rw[Mw.out] at h;exact h
    have Xz:Hid (∀J,az [] w4 J->(loadVar 111 ⟨g8,0,none⟩).run prog J= .ok (.agg (aR n v)) J):=AO.out;have aV:Hid (v.oneCell'=true):=by obtain⟨a,c,rfl,-⟩:=Pe.out;rfl
    have aN:Hid (∀wz,az [] w4 wz->AX X i n own->∃w',(storeVar 111 ⟨w.heap.size,0,none⟩ (.agg (aR n v))).run prog wz= .ok () w'/\(loadVar 111 ⟨w.heap.size,0,none⟩).run prog w'= .ok (.agg (aR n v)) w'/\ry w X i (.returned (.tuple #[.agg (aR n v),vo,.bool true])) w'):=λwz U aY=>by
     obtain⟨w',q1,q2,q3⟩:=bB (P:= prog) (ty:= 111) (cs:=mo n v) (by rw[gU,zx.out];exact iY) (((AL.out.keep fL.out (by simp)).keep pW.out (by simp)).keep U (by simp)) (by rw[TM,gU,zx.out]) (ku aV.out);have br:=FO.out.size;have hg:=HG.out;have aj:=bk.out;have bz:=fL.out.size;refine⟨w',q1,ct q2 zx.out,n,v,g,own,vo,aa,true,rfl,zx.out,(Pe.out.keep U (by simp)).keep q3 (λ_=>by rw[ay];omega),by omega,(ax.out.keep U (by simp)).keep q3 (by rw[ay];omega),by omega,(FO.out.trans' (pW.out.trans' U)).trans q3 (by intro x hx;rw[ay] at hx;omega),λ_=>⟨aY,(H1.out rfl).2⟩,λh=>by cases h⟩
    have bj:Hid (∀J,az [] w4 J->(loadVar 195 ⟨g7,0,none⟩).run prog J= .ok (.agg (aW r).toArray) J):=λJ U=>O5.out J (pW.out.trans' U)
    obtain⟨av,cv,bl,-,-,-⟩:=rK ax.out.reads;subst bl;generalize OY:aR n v=ZN at *;clear OY;go_wp2_with(first|(with_reducible refine gS 111 vB.out ?_)|((with_reducible show wpList _ _ _ (⟨_,.load 111 (.tmp 8),_,_,_,_⟩::_) _ _);refine eB rfl 111 (.tmp 8) rfl _ rfl _ (AO.out _ (az.refl _ _)) ?_));refine(yR.out _ (az.refl _ _)).mono ?_;rintro e w5 ⟨rfl,j6⟩;have qG:=au j6;clear j6;by_cases hR:bZ n
    ·rw[bq hR]
     have aH:=au hR;go_wp2_with(first|((with_reducible show wpList _ _ _ (⟨_,.load 111 (.tmp 8),_,_,_,_⟩::_) _ _);refine eB rfl 111 (.tmp 8) rfl _ rfl _ (AO.out _ qG.out) ?_));refine(bb.out _ qG.out).mono ?_;rintro e w6 ⟨rfl,kG⟩;rw[aC hR];have o8:=au (qG.out.trans' kG);clear kG hR;by_cases hN:own.length=eP n
     ·have Rm:=au hN
      rw[<-hN];clear hN;go_wp2_with(first|((with_reducible show wpList _ _ _ (⟨_,.load 111 (.tmp 8),_,_,_,_⟩::_) _ _);refine eB rfl 111 (.tmp 8) rfl _ rfl _ (AO.out _ o8.out) ?_)|((with_reducible show wpList _ _ _ (⟨_,.load 195 (.tmp 7),_,_,_,_⟩::_) _ _);refine eB rfl 195 (.tmp 7) rfl _ rfl _ (bj.out _ o8.out) ?_));refine(bg.out aH.out Rm.out _ o8.out).mono ?_;rintro e w7 ⟨t,rfl,ht,zW⟩;have GD:=au (o8.out.trans' zW);have HT:=au ht;clear zW ht;cases t with
      |false=>
       obtain⟨w9,V,G,z⟩:=pH.out w7 ((fL.out.trans' pW.out).trans' GD.out) (λn' W h=>by
        obtain⟨rfl,rfl⟩:=ag.out (by trivial) n' W h;have h1:=h.2.2.2.2.2;rw[PG.out] at h1;have :=HT.out.2 h1;cases this)
       have D7:=au V;have pX:=au G;have TQ:=au z;clear V G z pH H1 H2 HT;go_wp2_with(first|(with_reducible refine gS 111 D7.out ?_));exact aL (bU results173 rfl pX.out rfl rfl) rfl TQ.out
      |true=>
       obtain⟨w9,V,G,z⟩:=aN.out w7 GD.out ⟨hi,by rw[PG.out];exact(H1.out (by trivial)).1,Rf.out,aH.out,Rm.out,by rw[PG.out];exact HT.out.1 rfl⟩;have D7:=au V;have pX:=au G;have TQ:=au z;have aX:=au (AO.out _ GD.out);clear V G z pH H1 H2 HT aN;go_wp2_with(first|(with_reducible refine gL 111 aX.out ?_)|(with_reducible refine gS 111 D7.out ?_));exact aL (bU results173 rfl pX.out rfl rfl) rfl TQ.out
     ·have bw:((own.length:Int)==((eP n:Nat):Int))=false:=by simp;omega
      obtain⟨w9,V,G,z⟩:=pH.out w6 ((fL.out.trans' pW.out).trans' o8.out) (λn' W h=>by obtain⟨rfl,rfl⟩:=ag.out (by trivial) n' W h;exact hN h.2.2.2.2.1);have D7:=au V;have pX:=au G;have TQ:=au z;clear V G z pH H1 H2;go_wp2_with(first|(with_reducible refine gS 111 D7.out ?_));exact aL (bU results173 rfl pX.out rfl rfl) rfl TQ.out
    ·rw[aS hR]
     obtain⟨w9,V,G,z⟩:=pH.out w5 ((fL.out.trans' pW.out).trans' qG.out) (λn' W h=>by obtain⟨rfl,rfl⟩:=ag.out (by trivial) n' W h;exact hR h.2.2.2.1);have D7:=au V;have pX:=au G;have TQ:=au z;clear V G z pH H1 H2;go_wp2_with(first|(with_reducible refine gS 111 D7.out ?_));exact aL (bU results173 rfl pX.out rfl rfl) rfl TQ.out
   ·have bt:(n.F==2)=false:=by simpa using hF
    obtain⟨w9,V,G,z⟩:=pH.out w4 (fL.out.trans' pW.out) (λn' W h=>by obtain⟨rfl,rfl⟩:=ag.out (by trivial) n' W h;exact hF h.2.2.1);have D7:=au V;have pX:=au G;have TQ:=au z;clear V G z pH H1 H2;go_wp2_with(first|(with_reducible refine gS 111 vB.out ?_)|(with_reducible refine gS 111 D7.out ?_));exact aL (bU results173 rfl pX.out rfl rfl) rfl TQ.out
 ·have ae:gF i= -1:=by rw[gF,aC (by omega)]
  rw[ae] at HI;obtain⟨w9,V,G,z⟩:=pH.out W0 (az.refl _ _) (λn' W h=>hi h.1);rw[qC.out] at V;have D7:=au V;have pX:=au G;have TQ:=au z;clear V G z pH;go_enter func173,ntmps173;go_wp2_with fail;refine(HI.out _).mono ?_;rintro e wy ⟨rfl,rfl⟩;go_wp2_with(first|(with_reducible refine gS 111 D7.out ?_));exact aL (bU results173 rfl pX.out rfl rfl) rfl TQ.out
theorem zI (i:Int)(w:World):Calls prog 95 #[.int .i64 i] w λe w'=>e= .returned (.bool (decide (0<=i/\i<32)))/\w=w':=by
 have z:=au (jY i);by_cases h:0<=i/\i<32
 ·rw[bq h]
  have G:0<=gF i:=by unfold gF;rw[aB (by omega)];omega
  clear h;go_enter func95,ntmps95;go_wp2_with fail;refine(z.out _).mono ?_;rintro e w' ⟨rfl,rfl⟩;go_wp2_with fail;go_ret;exact⟨rfl,rfl⟩
 ·rw[aS h]
  have G:¬0<=gF i:=by unfold gF;rw[aC (by omega)];omega
  clear h;go_enter func95,ntmps95;go_wp2_with fail;refine(z.out _).mono ?_;rintro e w' ⟨rfl,rfl⟩;go_wp2_with fail;go_ret;refine⟨?_,rfl⟩;show Ending.returned (.bool (decide (0<=gF i)))=_;rw[aS (by omega)]
theorem Rn:(prog.info? 148).map (·.size)=some 2:=by kernel_rfl
theorem aba{b:Value}(h:bh w g #[a,b] 148):(loadVar 148 ⟨g,0,none⟩).run prog w= .ok (.agg #[a,b]) w:=by
 have :=bW (P:= prog) (w:=w) g 0 [a,b] underlying148 rfl Rn λj z=>by
  rw[aX,h.cell,<-dw]
 simpa using this
theorem FT{b c d:Value}(z:bh w g #[c,d] 148)(J:a.oneCell'=true)(G:b.oneCell'=true):
  ∃w',(storeVar 148 ⟨g,0,none⟩ (.agg #[a,b])).run prog w= .ok () w'/\bh w' g #[a,b] 148/\az [g] w w':=
 bB (P:= prog) (ty:= 148) (cs:=[a,b]) Rn z rfl (by intro v h;simp at h;rcases h with rfl|rfl<;>assumption)
def PH (w:World) (k:Int) (e:Ending) (w':World):Prop:=
 az [] w w'/\∃a b,a.oneCell'=true/\b.oneCell'=true/\e= .returned (.tuple #[.agg #[a,b],.bool (decide (k=1\/k=2))])/\
  (k=1->a=(.func (.func 143) #[] #[])/\b=(.func (.func 144) #[] #[]))/\(k=2->a=(.func (.func 145) #[] #[])/\b=(.func (.func 146) #[] #[]))
theorem Dg (k:Int)(w:World):Calls prog 100 #[.int .i64 k] w (PH w k):=by
 have aa:=bh.new w #[.nilFunc,.nilFunc] 148;have dt:az [] w (w.alloc (.cells #[.nilFunc,.nilFunc] 148)):=(az.refl _ _).alloc _;have G:Hid (∀a b:Value,a.oneCell'=true->b.oneCell'=true->∃w',(storeVar 148 ⟨w.heap.size,0,none⟩ (.agg #[a,b])).run prog (w.alloc (.cells #[.nilFunc,.nilFunc] 148))= .ok () w'/\(loadVar 148 ⟨w.heap.size,0,none⟩).run prog w'= .ok (.agg #[a,b]) w'/\az [] w w'):=λa b V W=>by
  obtain⟨w',q1,q2,q3⟩:=FT aa V W;exact⟨w',q1,aba q2,dt.trans q3 (by simp)⟩
 clear aa dt;by_cases V:k=1
 ·subst V
  obtain⟨w1,z,U,J⟩:=G.out (.func (.func 143) #[] #[]) (.func (.func 144) #[] #[]) rfl rfl;have HS:=au z;have HL:=au U;have HK:=au J;clear z U J G;go_enter func100,ntmps100;go_wp2_with(with_reducible refine gS 148 HS.out ?_);refine aL (dH results100 rfl HL.out rfl) rfl ?_;exact⟨HK.out,_,_,rfl,rfl,rfl,λ_=>⟨rfl,rfl⟩,λh=>by omega⟩
 ·by_cases W:k=2
  ·subst W
   obtain⟨w1,z,U,J⟩:=G.out (.func (.func 145) #[] #[]) (.func (.func 146) #[] #[]) rfl rfl;have HS:=au z;have HL:=au U;have HK:=au J;clear z U J G V;go_enter func100,ntmps100;go_wp2_with(with_reducible refine gS 148 HS.out ?_);refine aL (dH results100 rfl HL.out rfl) rfl ?_;exact⟨HK.out,_,_,rfl,rfl,rfl,λh=>by omega,λ_=>⟨rfl,rfl⟩⟩
  ·obtain⟨w1,z,U,J⟩:=G.out .nilFunc .nilFunc rfl rfl
   have HS:=au z;have HL:=au U;have HK:=au J;have e1:(k==1)=false:=by simpa using V
   have e2:(k==2)=false:=by simpa using W
   have HD:Hid (decide (k=1\/k=2)=false):=aS (by omega);have H1:=au V;have H2:=au W;clear z U J G V W;go_enter func100,ntmps100;go_wp2_with(with_reducible refine gS 148 HS.out ?_);refine aL (dH results100 rfl HL.out rfl) rfl ?_;refine⟨HK.out,.nilFunc,.nilFunc,rfl,rfl,?_,λh=>absurd h H1.out,λh=>absurd h H2.out⟩;rw[HD.out];rfl
def rT (b:Nat) (i:Int):Value:= .agg #[.pointer (some ⟨b,0,none⟩),.int .i64 i]
def Ke (w:World) (b:Nat) (i:Int):World:=(w.alloc (.cells #[.pointer (some ⟨b,0,none⟩),.int .i64 i] 152)).alloc (.cells (aR cr (.slice none 0 0)) 111)
theorem AY (w:World)(b:Nat)(i:Int):az [] w (Ke w b i)/\bh (Ke w b i) (w.heap.size+1) (aR cr (.slice none 0 0)) 111 :=by
 refine⟨((az.refl _ _).alloc _).alloc _,?_⟩;have :=bh.new (w.alloc (.cells #[.pointer (some ⟨b,0,none⟩),.int .i64 i] 152)) (aR cr (.slice none 0 0)) 111;rwa[show(w.alloc (.cells #[.pointer (some ⟨b,0,none⟩),.int .i64 i] 152)).heap.size=w.heap.size+1 by simp] at this
theorem FU{G z:World}{h:Nat}(hb:bh G h (aR cr (.slice none 0 0)) 111)(hw:w.heap.size<=h)(W:az [] w G)(J:az [] G z){n:bP}{v:Value}(U:n.B.length=13)(V:v.oneCell'=true):
  ∃w',(storeVar 111 ⟨h,0,none⟩ (.agg (aR n v))).run prog z= .ok () w'/\(loadVar 111 ⟨h,0,none⟩).run prog w'= .ok (.agg (aR n v)) w'/\az [h] z w'/\az [] w w':=by
 obtain⟨w',q1,q2,q3⟩:=xY (hb.keep J (by simp)) rfl U V;exact⟨w',q1,ct q2 U,q3,(W.trans' J).trans q3 (by intro x hx;rw[ay] at hx;omega)⟩
theorem PJ (h:eO w b gp B ps)(J:In64 (aA B ps))(i:Int):
  Calls prog 143 #[rT b i] w (ky w (aA B ps) i):=by
 obtain⟨dt,aa⟩:=AY w b i;have HR:=au (aaP (h.keep dt (by simp) (by simp)) J i);have oK:=au aa;have ub:=eA;have fW:=au dt;clear h J dt aa;unfold rT;generalize W:Ke w b i=W0 at *;have V:(w.alloc (.cells #[.pointer (some ⟨b,0,none⟩),.int .i64 i] 152)).alloc (.cells (aR cr (.slice none 0 0)) 111)=W0:=W;have qC:=au V;clear W V;go_enter func143,ntmps143;go_wp2_with fail;rw[qC.out];refine HR.out.mono ?_;rintro e w2 ⟨n,v,g,own,va,ga,ok,rfl,hB,hE,hg,hO,tv,Mg,G8,hk⟩;obtain⟨w3,G,qF,z,U⟩:=FU oK.out (by omega) fW.out hk hB (uf hE);have HS:=au G;have HL:=au qF;have HP:Hid (ky w (aA B ps) i (.returned (.tuple #[.agg (aR n v),va,.bool ok])) w3):=by
  have hz:=fW.out.size;refine⟨n,v,g,own,va,ga,ok,rfl,hB,hE.keep z (λh0=> ?_),by omega,hO.keep z ?_,by omega,Mg,G8,U⟩
  ·have :=oK.out.lt
   simp;omega
  ·have :=oK.out.lt
   simp;omega
 clear G qF z U hE hO Mg G8 hk HR fW oK;generalize aR n v=Z at *;go_wp2_with(with_reducible refine gS 111 HS.out ?_);exact aL (bU results143 rfl HL.out rfl rfl) rfl HP.out
theorem PK (h:eO w b gp B ps)(J:Cg (aA B ps))(i:Int):
  Calls prog 145 #[rT b i] w (ry w (aA B ps) i):=by
 obtain⟨dt,aa⟩:=AY w b i;have HR:=au (Xy (h.keep dt (by simp) (by simp)) J i);have oK:=au aa;have ub:=eA;have fW:=au dt;clear h J dt aa;unfold rT;generalize W:Ke w b i=W0 at *;have V:(w.alloc (.cells #[.pointer (some ⟨b,0,none⟩),.int .i64 i] 152)).alloc (.cells (aR cr (.slice none 0 0)) 111)=W0:=W;have qC:=au V;clear W V;go_enter func145,ntmps145;go_wp2_with fail;rw[qC.out];refine HR.out.mono ?_;rintro e w2 ⟨n,v,g,own,va,ga,ok,rfl,hB,hE,hg,hO,tv,hk,Mg,G8⟩;obtain⟨w3,G,qF,z,U⟩:=FU oK.out (by omega) fW.out hk hB (uf hE);have HS:=au G;have HL:=au qF;have HP:Hid (ry w (aA B ps) i (.returned (.tuple #[.agg (aR n v),va,.bool ok])) w3):=by
  have hz:=fW.out.size;refine⟨n,v,g,own,va,ga,ok,rfl,hB,hE.keep z (λh0=> ?_),by omega,hO.keep z ?_,by omega,U,Mg,G8⟩
  ·have :=oK.out.lt
   simp;omega
  ·have :=oK.out.lt
   simp;omega
 clear G qF z U hE hO Mg G8 hk HR fW oK;generalize aR n v=Z at *;go_wp2_with(with_reducible refine gS 111 HS.out ?_);exact aL (bU results145 rfl HL.out rfl rfl) rfl HP.out
end Go.Proofs.YtepbpdipenedhaaGreatDoor
