/- Lemmas. -/
import Derived.Test.YtepbpdipenedhaaGreatDoorS12
set_option maxHeartbeats 8000000
set_option maxRecDepth 100000
namespace Go.Proofs.YtepbpdipenedhaaGreatDoor
open Go.Proofs.Tryz
open Go.RowKit
variable{W own:List Nat}{B L R X Y:List Int}{w:World}{b g gp:Nat}{ps:List (Int×Int)}{n:bN}{i j:Int}{a:Value}
def tT (X L:List Int) (n:bN) (own:List Nat):Prop:=
 ((gX L).K=1/\∃l,pG X L l own/\n={ gX L with B:=l })\/
 ((gX L).K=2/\∃E h,SL X L=some (own,E)/\qj own E/\h.Perm E/\(∀i j,i<j->j<h.length->Op.bytesLess (dZ h j).toList (dZ h i).toList=false)/\n={ gX L with E:=h })
def zT (w:World) (X L:List Int) (e:Ending) (w':World):Prop:=
 ∃n v g own y h ok,e= .returned (.tuple #[.agg (aU n v),y,.bool ok])/\n.B.length=13/\br w' v g n.E/\w.heap.size<=g/\kb w' y h own/\w.heap.size<=h/\ay [] w w'/\
  (ok=true->tT X L n own/\own.length<=24/\(∀c,c∈own->0<c/\c<256)/\n.E.length<=72/\∀k,k<n.E.length->(dZ n.E k).size<=7)/\(ok=false->∀G z,¬tT X L G z)
theorem O3{E y:List (ByteArray×Int)}(h:qj own E)(z:y.Perm E):y.length<=72/\∀k,k<y.length->(dZ y k).size<=7:=by
 refine⟨by have :=z.length_eq;have :=h.ents;have :=h.len;omega,λk G=> ?_⟩;exact h.size _ (z.mem_iff.1 (Rh G))
theorem EP{l:List Int}(h:pG X L l own):own.length<=24/\∀c,c∈own->0<c/\c<256:=by
 rcases h with ⟨-,rfl,-⟩|⟨b,-,z,G,rfl,-⟩
 ·exact⟨by simp,λc y=>by simp at y⟩
 ·exact⟨by simp,λc y=>by rw[au] at y;omega⟩
theorem Lx (K4:eT w b gp B ps)(Ay:yY (az B ps)){L:List Int}(hL:L.length=8)(uO:yY L):
  Calls prog 198 #[.pointer (some ⟨b,0,none⟩),.agg (aO L).toArray] w (zT w (az B ps) L):=by
 obtain⟨W0,W⟩:∃W0,W0=(w.alloc (.cells (aO L).toArray 195)).alloc (.cells (aU cX (.slice none 0 0)) 111):=⟨_,rfl⟩;have af:bf W0 w.heap.size (aO L).toArray 195 :=by
  rw[W];exact(bf.new w _ _).alloc _
 have sB:bf W0 (w.heap.size+1) (aU cX (.slice none 0 0)) 111 :=by
  have :=bf.new (w.alloc (.cells (aO L).toArray 195)) (aU cX (.slice none 0 0)) 111;have e:(w.alloc (.cells (aO L).toArray 195)).heap.size=w.heap.size+1:=by simp
  rw[e] at this;rw[W];exact this
 have eo:ay [] w W0:=by
  rw[W];exact((ay.refl _ _).alloc _).alloc _
 have aZ:=fu;have Dw:=ar (dX af hL);have Ul:=ar (yN L hL (uO 0) (uO 1) W0);have nX:=ar W;have gH:=ar eo;have p9:=ar af;have KZ:=ar sB;have aV:Hid (∀wx,ay [] w wx->Calls prog 213 #[.pointer (some ⟨b,0,none⟩),.agg (aO L).toArray] wx (ny wx (az B ps) L)):=λwx hk=>by
  have h7:=uO 7;by_cases h:L.getD 7 0<9223372036854775808
  ·exact DL hL uO h
  ·by_cases hb:L.getD 7 0-9223372036854775808=0\/256<=L.getD 7 0-9223372036854775808
   ·exact Gj hL (bi:=L.getD 7 0-9223372036854775808) (by omega) (by omega) hb h7.2
   ·exact DM (K4.keep hk (by simp) (by simp)) Ay hL uO (c:=(L.getD 7 0-9223372036854775808).toNat) (by omega) (by omega) (by omega)
 have aM:Hid (∀wx,ay [] w wx->Calls prog 214 #[.pointer (some ⟨b,0,none⟩),.agg (aO L).toArray] wx (uC wx (az B ps) L)):=λwx hk=>Lv (K4.keep hk (by simp) (by simp)) Ay hL uO
 have HL:=ar hL;have aY:W0.heap.size=w.heap.size+1+1:=by rw[W];simp
 have Z:(gX L).B.length=13:=by simp[gX]
 have Dd:Hid ((gX L).E=[]/\(gX L).B=List.replicate 13 0):=⟨rfl,rfl⟩;clear af sB eo W K4 Ay hL uO;generalize az B ps=X at *;generalize aJ:(aO L).toArray=ZL at *;have Rx:=ar aJ;clear aJ;obtain⟨G,ai⟩:∃G,G=gX L:=⟨_,rfl⟩;rw[<-ai] at Ul Z Dd;have Se:=ar ai;clear ai;generalize aD:aU cX (.slice none 0 0)=Z0 at *;have AY:=ar aD;clear aD;have O4:Z0.size=18:=by rw[<-AY.out];rfl
 go_enter func198,ntmps198;go_wp2_with((with_reducible show wpList _ _ _ (⟨_,.load 195 (.tmp 3),_,_,_,_⟩::_) _ _);rw[<-nX.out];refine ft rfl 195 (.tmp 3) rfl _ rfl _ Dw.out ?_);refine Ul.out.mono ?_;rintro e w1 ⟨rfl,ah⟩;obtain⟨w2,ax,G5,aF⟩:=bo (P:= prog) (ty:= 111) (cs:=mr G (.slice none 0 0)) (by rw[fT,Z];exact iH) (bf.new w1 Z0 111) (by rw[O4,fT,Z]) (jD rfl);have aI:=ah.size;have Zu:bf w2 w1.heap.size (aU G (.slice none 0 0)) 111 :=G5;have cK:w2.cell? ⟨w1.heap.size,1,none⟩=some (.int .i64 G.K):=by rw[Zu.cell];exact(jL _ Z).f1
 have fF:Hid (ay [] W0 w2):=(ah.alloc (.cells Z0 111)).trans aF (by intro x hx;rw[au] at hx;omega);have mJ:Hid (∀wz n v g own vo go ok,ay [w1.heap.size] w2 wz->bf wz w1.heap.size (aU n v) 111->n.B.length=13->br wz v g n.E->w.heap.size<=g->(n.E.length≠0->g≠w.heap.size+1)->kb wz vo go own->w.heap.size<=go->go≠w.heap.size+1->
   (ok=true->tT X L n own/\own.length<=24/\(∀c,c∈own->0<c/\c<256)/\n.E.length<=72/\∀k,k<n.E.length->(dZ n.E k).size<=7)->(ok=false->∀n' cH,¬tT X L n' cH)->
   (loadVar 111 ⟨w1.heap.size,0,none⟩).run prog wz= .ok (.agg (aU n v)) wz/\∃w',(storeVar 111 ⟨w.heap.size+1,0,none⟩ (.agg (aU n v))).run prog wz= .ok () w'/\(loadVar 111 ⟨w.heap.size+1,0,none⟩).run prog w'= .ok (.agg (aU n v)) w'/\zT w X L (.returned (.tuple #[.agg (aU n v),vo,.bool ok])) w'):=by
  intro wz n v g own vo go ok hk hb hn hE hg aS hO ac aK h1 h2;have aT:v.oneCell'=true:=by
   obtain⟨a,c,rfl,-⟩:=hE;rfl
  obtain⟨w',q1,q2,q3⟩:=bo (P:= prog) (ty:= 111) (cs:=mr n v) (by rw[fT,hn];exact iH) ((KZ.out.keep fF.out (by simp)).keep hk (by rw[au];omega)) (by rw[O4,fT,hn]) (jD aT);refine⟨cC hb hn,w',q1,cC q2 hn,n,v,g,own,vo,go,ok,rfl,hn,hE.keep q3 (λh0=>by rw[au];exact aS h0),hg,hO.keep q3 (by rw[au];exact aK),ac,?_,h1,h2⟩;exact((gH.out.trans' fF.out).trans hk (by intro x hx;rw[au] at hx;omega)).trans q3 (by intro x hx;rw[au] at hx;omega)
 have Av:=ar ax;have KQ:=ar Zu;have zO:Hid ((loadVar 195 ⟨w.heap.size,0,none⟩).run prog w2= .ok (.agg ZL) w2):=by
  have :=p9.out.keep fF.out (by simp);rw[<-Rx.out] at this ⊢;exact dX this HL.out
 have ba:=ar aI;have I9:=ar (gH.out.trans' fF.out);clear ax G5 Zu aF ah aI Ul Dw;generalize QC:w1.heap.size=g7 at *;by_cases MJ:G.K=1
 ·rw[MJ] at cK
  go_wp2_with(first|(with_reducible refine gS 111 Av.out ?_)|(with_reducible refine gL 195 zO.out ?_));refine(aV.out _ I9.out).mono ?_;rintro e w3 ⟨l,vo,go,own,ok,rfl,pF,aa,ac,aA,z,h1,h2⟩;obtain⟨w4,aC,J,y⟩:=MO (KQ.out.keep z (by simp)) Z pF;have aP:w.heap.size+1<w2.heap.size:=by have :=fF.out.size;omega
  obtain⟨oa,w5,SP,SQ,SR⟩:=mJ.out w4 { G with B:=l } (.slice none 0 0) w.heap.size own vo go ok ((z.mono (by simp)).trans' y) J pF (by
   show br w4 _ _ G.E;rw[Dd.out.1];exact br.nil _ _) (aG _) (by
   show G.E.length≠0->_;rw[Dd.out.1];intro h;exact absurd rfl h) (aa.keep y (by have :=KQ.out.lt;rw[au];omega)) (by have :=I9.out.size;omega) (by omega) (λaj=>by
    have U:=h1 aj;refine⟨.inl ⟨by rw[<-Se.out];exact MJ,l,U,by rw[<-Se.out]⟩,(EP U).1,(EP U).2,?_,?_⟩
    ·show G.E.length<=72
     rw[Dd.out.1];simp
    ·show ∀k,k<G.E.length->_
     rw[Dd.out.1];intro k hk;simp at hk) (λaj n' cH U=>by
    rcases U with ⟨-,l',U,-⟩|⟨V,-⟩
    ·exact h2 aj l' cH U
    ·rw[<-Se.out] at V;omega)
  have wQ:=ar aC;have nC:=ar oa;have zL:=ar SP;have EG:=ar SQ;have Zv:=ar SR;clear aC J y oa SP SQ SR aa ac aA z h1 h2;generalize aU { G with B:=l } (.slice none 0 0)=ZN at *;go_wp2_with(first|(with_reducible refine gS 109 wQ.out ?_)|(with_reducible refine gL 111 nC.out ?_)|(with_reducible refine gS 111 zL.out ?_));exact aL (bB results198 rfl EG.out rfl rfl) rfl Zv.out
 ·by_cases V:G.K=2
  ·rw[V] at cK
   have aP:w.heap.size+1<w2.heap.size:=by have :=fF.out.size;omega
   go_wp2_with(first|(with_reducible refine gS 111 Av.out ?_)|(with_reducible refine gL 195 zO.out ?_));refine(aM.out _ I9.out).mono ?_;rintro e w3 (⟨own,E,E',ve,ge,vo,go,rfl,Zo,Uq,av,aB,ak,aN,aa,ac,z⟩|⟨rfl,Zo,z⟩)
   ·have BP:=KQ.out.keep z (by simp)
    have J:=Gf (u:=ve) (E:=E') BP Z;have y:ay [g7] w3 (w3.setCell ⟨g7,17,none⟩ ve):=(ay.refl _ _).setCell (.inl (by simp)) _;have ag:=O3 Uq av;have aW:=KQ.out.lt;obtain⟨oa,w5,SP,SQ,SR⟩:=mJ.out (w3.setCell ⟨g7,17,none⟩ ve) { G with E:=E' } ve ge own vo go true ((z.mono (by simp)).trans' y) J Z (ak.keep y (λ_=>by rw[au];omega)) (by omega) (λ_=>by omega) (aa.keep y (by rw[au];omega)) (by omega) (by omega) (λ_=>⟨.inr ⟨by rw[<-Se.out];exact V,E,E',Zo,Uq,av,aB,by rw[<-Se.out]⟩,Uq.len,Uq.num,ag.1,ag.2⟩) (λh=>by cases h);have aQ:w3.cell? ⟨g7,17,none⟩=some (.slice none 0 0):=by rw[BP.cell];exact vN _ Z
    have aR:w3.frozen? ⟨g7,17,none⟩=false:=BP.frozen 17;obtain⟨ae,ce,rfl,-,-,-⟩:=ak.open;have nC:=ar oa;have zL:=ar SP;have EG:=ar SQ;have Zv:=ar SR;clear BP J y ag oa SP SQ SR Zo Uq av aB ak aN aa ac z;generalize aU { G with E:=E' } (.slice ae E'.length ce)=ZN at *;go_wp2_with(first|(with_reducible refine gL 111 nC.out ?_)|(with_reducible refine gS 111 zL.out ?_));exact aL (bB results198 rfl EG.out rfl rfl) rfl Zv.out
   ·have BP:=KQ.out.keep z (by simp)
    have J:=Gf (u:= .slice none 0 0) (E:=[]) BP Z;have y:ay [g7] w3 (w3.setCell ⟨g7,17,none⟩ (.slice none 0 0)):=(ay.refl _ _).setCell (.inl (by simp)) _;obtain⟨oa,w5,SP,SQ,SR⟩:=mJ.out (w3.setCell ⟨g7,17,none⟩ (.slice none 0 0)) { G with E:=[] } (.slice none 0 0) w.heap.size [] (.slice none 0 0) w.heap.size false ((z.mono (by simp)).trans' y) J Z (br.nil _ _) (aG _) (λh=>absurd rfl h) (kb.nil _ _) (aG _) (by omega) (λh=>by cases h) (λ_ n' cH U=>by
     rcases U with ⟨aH,-⟩|⟨-,E,E',U,-⟩
     ·rw[<-Se.out] at aH;omega
     ·rw[Zo] at U;cases U)
    have aQ:w3.cell? ⟨g7,17,none⟩=some (.slice none 0 0):=by rw[BP.cell];exact vN _ Z
    have aR:w3.frozen? ⟨g7,17,none⟩=false:=BP.frozen 17;have nC:=ar oa;have zL:=ar SP;have EG:=ar SQ;have Zv:=ar SR;clear BP J y oa SP SQ SR Zo z;generalize aU { G with E:=[] } (.slice none 0 0)=ZN at *;go_wp2_with(first|(with_reducible refine gL 111 nC.out ?_)|(with_reducible refine gS 111 zL.out ?_));exact aL (bB results198 rfl EG.out rfl rfl) rfl Zv.out
  ·have aH:(G.K==1)=false:=by simpa using MJ
   have aX:(G.K==2)=false:=by simpa using V
   obtain⟨oa,w5,SP,SQ,SR⟩:=mJ.out w2 G (.slice none 0 0) w.heap.size [] (.slice none 0 0) w.heap.size false (ay.refl _ _) KQ.out Z (by rw[Dd.out.1];exact br.nil _ _) (aG _) (by rw[Dd.out.1];intro h;exact absurd rfl h) (kb.nil _ _) (aG _) (by omega) (λh=>by cases h) (λ_ n' cH U=>by
    rcases U with ⟨h1,-⟩|⟨h1,-⟩
    ·rw[<-Se.out] at h1;exact MJ h1
    ·rw[<-Se.out] at h1;exact V h1)
   have nC:=ar oa;have zL:=ar SP;have EG:=ar SQ;have Zv:=ar SR;clear oa SP SQ SR;generalize G.K=K at *;go_wp2_with(first|(with_reducible refine gS 111 Av.out ?_)|(with_reducible refine gL 111 nC.out ?_)|(with_reducible refine gS 111 zL.out ?_));exact aL (bB results198 rfl EG.out rfl rfl) rfl Zv.out
def xI (X:List Int) (i:Int) (n:bN) (own:List Nat):Prop:=
 (0<=i/\i<32)/\tT X (fe X i) n own/\n.F=2/\bR n/\own.length=dS n/\mQ X (fe X i) n own
def oV (w:World) (X:List Int) (i:Int) (e:Ending) (w':World):Prop:=
 ∃n v g own y h ok,e= .returned (.tuple #[.agg (aU n v),y,.bool ok])/\n.B.length=13/\br w' v g n.E/\w.heap.size<=g/\kb w' y h own/\w.heap.size<=h/\ay [] w w'/\
  (ok=true->xI X i n own/\own.length<=24/\(∀c,c∈own->0<c/\c<256)/\n.E.length<=72/\∀k,k<n.E.length->(dZ n.E k).size<=7)/\(ok=false->n=cX/\own=[]/\∀G z,¬xI X i G z)
theorem ER {lt:ByteArray×Int->ByteArray×Int->Bool}:∀(l2 y:List (ByteArray×Int)),y.Perm l2->y.Pairwise (λa b=>lt b a=false)->l2.Pairwise (λa b=>lt a b=true)->y=l2
 | [],y,hp,_,_=>hp.eq_nil
 |b::t2,[],hp,_,_=>by have :=hp.length_eq;simp at this
 |b::t2,a::t1,hp,h1,h2=>by
  rw[List.pairwise_cons] at h1 h2;by_cases e:a=b
  ·subst e
   rw[ER t2 t1 (List.Perm.cons_inv hp) h1.2 h2.2]
  ·exfalso
   have U:a∈t2:=by
    rcases aQ.1 (hp.mem_iff.1 (iO ..)) with h|h
    ·exact absurd h e
    ·exact h
   have G:b∈t1:=by
    rcases aQ.1 (hp.mem_iff.2 (iO ..)) with h|h
    ·exact absurd h.symm e
    ·exact h
   have J:=h2.1 a U;have z:=h1.1 b G;rw[J] at z;cases z
theorem Gm (E:List (ByteArray×Int))(i:Nat)(h:i<E.length):E[i]=(dZ E i,iC E i):=by
 simp[dZ,iC,h]
theorem wi (h:mz n):n.E.Pairwise (λa b=>Op.bytesLess a.1.toList b.1.toList=true):=by
 have G:∀k,k+1<n.E.length->Op.bytesLess (dZ n.E k).toList (dZ n.E (k+1)).toList=true:=λk W=>by
  have J:=(h.2.2.2 (k+1) W).2.2 (by omega);rw[fO,leB,Bool.or_eq_false_iff] at J;exact pD _ _ J.1 (λe=>by have :=J.2;rw[e] at this;simp at this)
 have z:∀d i,i+1+d<n.E.length->Op.bytesLess (dZ n.E i).toList (dZ n.E (i+1+d)).toList=true:=by
  intro d;induction d with
  |zero=>exact λi y=>G i y
  |succ d ih=>exact λi y=>lZ _ _ _ (ih i (by omega)) (G (i+1+d) y)
 rw[cU];intro i j y U V;rw[Gm _ i y,Gm _ j U];have :=z (j-i-1) i (by omega);rwa[show i+1+(j-i-1)=j by omega] at this
theorem tT.uniq{z:bN}(h:tT X L n own)(h':tT X L z W)(hR:bR z):z=n/\W=own:=by
 rcases h with ⟨h1,l,J,rfl⟩|⟨h1,E,Z,J,-,h3,h4,rfl⟩
 ·rcases h' with ⟨V,l',y,rfl⟩|⟨V,-⟩
  ·obtain⟨rfl,rfl⟩:=J.inj y
   exact⟨rfl,rfl⟩
  ·omega
 ·rcases h' with ⟨V,-⟩|⟨V,F,G,y,-,g3,g4,rfl⟩
  ·omega
  ·rw[J] at y
   cases y;have hd:mz { gX L with E:=G }:=(hR.2.2.resolve_left (λh=>by have :(gX L).K=1:=h.1;omega)).2;have e:Z=G:=by
    refine ER (lt:=λa b=>Op.bytesLess a.1.toList b.1.toList) G Z (h3.trans g3.symm) ?_ (wi hd);rw[cU];intro i j hi hj U;rw[Gm _ i hi,Gm _ j hj];exact h4 i j U hj
   subst e;exact⟨rfl,rfl⟩
def MX (E:List (ByteArray×Int)):Prop:=∀k,k<E.length->gA (bl (dZ E k))=true/\0<=iC E k/\iC E k<=31
theorem SS{c:List (ByteArray×Int)}(h3:c.length<=3)(V:MX c)(x:Int):l6 (uN (dM c) x)=c.length/\nD (jg (uN (dM c) x)) (l6 (uN (dM c) x))/\jM (jg (uN (dM c) x)) (l6 (uN (dM c) x))=c:=by
 have G:l6 (uN (dM c) x)=c.length:=by
  refine EM h3 (λj Z=> ?_) ?_
  ·rw[ml,Nat.mul_comm,(rD c j Z).1]
   have :=I3 (V j Z).1;omega
  ·rcases (show c.length=3\/c.length<3 by omega) with h|h
   ·exact .inl h
   ·right
    rw[ml,aj,aP (by rw[jr];omega)];rfl
 have z:∀i,i<2*c.length->(jg (uN (dM c) x)).getD i 0=(dM c).getD i 0:=λi hi=>by
  rw[<-ml (dM c) x i,jg,G,aj,cy,aB hi,cg,aj,Nat.add_comm]
 have hw:∀k,k<c.length->(jg (uN (dM c) x)).getD (k*2) 0=((jq (bl (dZ c k)):Nat):Int)/\(jg (uN (dM c) x)).getD (k*2+1) 0=iC c k/\jk (jq (bl (dZ c k)))=some (bl (dZ c k)):=λk y=>by
  rw[z _ (by omega),z _ (by omega)];obtain⟨U,J⟩:=rD c k y;refine⟨U,J,?_⟩;unfold jq;rw[aB (V k y).1];exact l9 (V k y).1 (xg _)
 refine⟨G,λk y=> ?_,?_⟩
 ·rw[G] at y
  obtain⟨U,J,W⟩:=hw k y;rw[U,J,aJ,W];have :=(V k y).2;exact⟨rfl,by omega⟩
 ·refine Ri (by rw[iD,G]) λk y=> ?_
  rw[iD,G] at y;obtain⟨U,J,W⟩:=hw k y;obtain⟨g1,g2⟩:=yH (jg (uN (dM c) x)) (l6 (uN (dM c) x)) k (by rw[G];exact y);rw[g1,g2,U,J,aJ,W];exact⟨AJ _,rfl⟩
theorem CA (y:mz n)(b:Nat):MX (dF n.E b):=λk z=>by
 obtain⟨j,h,J,G⟩:=AR z;rw[J,G];exact⟨(y.2.2.2 j h).1,(y.2.2.2 j h).2.1⟩
theorem VV{l:List (ByteArray×Int)}(h:MX l)(x:Nat):MX (uq l x):=λk y=>by
 obtain⟨z,J,G⟩:=AQ l x k y;rw[J,G];exact h _ z
def uP (E:List (ByteArray×Int)):Nat->List (ByteArray×Int)
 |0=>[]
 |b+1=>uP E b++dF E b
theorem VW (l:List (ByteArray×Int))(j:Nat):l.take (3*j)++uq l j=l.take (3*(j+1)):=by
 unfold uq;rw[show 3*(j+1)=3*j+3 by omega,List.take_add]
theorem Lz{l:List Nat}{j:Nat}(h:j<l.length):l.take j++[l.getD j 0]=l.take (j+1):=by
 rw[bz h];simp[h]
theorem LA (hK:n.K=2)(hD:mz n)(ho:own.length=eY n.E 4)(Kc:own.length<=24)(hm:∀c∈own,c≠0/\c<256)(Z:mQ X R n own){b:Nat}(W:b<4):
  ∀d j fuel,j+d=dN n.E b->d<fuel->km X fuel (if j<dN n.E b then ((own.getD (eY n.E b+j) 0:Nat):Int) else 0) (own.take (eY n.E b+j)) (uP n.E b++(dF n.E b).take (3*j))=some (own.take (eY n.E (b+1)),uP n.E (b+1)):=by
 have J:=qH n.E (show b+1<=4 by omega);intro d;induction d with
 |zero=>
  intro j fuel hj V;obtain⟨f,rfl⟩:∃f,fuel=f+1:=⟨fuel-1,by omega⟩;obtain rfl:j=dN n.E b:=by omega
  rw[aA (Nat.lt_irrefl _),km,aB rfl,eY,uP,aW (l:=dF n.E b) (by unfold dN;omega)]
 |succ d ih=>
  intro j fuel hj V;obtain⟨f,rfl⟩:∃f,fuel=f+1:=⟨fuel-1,by omega⟩;have z:j<dN n.E b:=by omega
  have y:eY n.E b+j<own.length:=by rw[ho];rw[eY] at J;omega
  have hc:=hm _ (iI y);have h:=Z.1 _ y;unfold fE at h;rw[aB hK,oP n.E own z W] at h;have G:(own.take (eY n.E b+j)).length=eY n.E b+j:=by rw[aI];omega
  obtain⟨e1,e2,e3⟩:=SS (c:=uq (dF n.E b) j) (by rw[lq];omega) (VV (CA hD b) j) (if j+1<dN n.E b then ((own.getD (eY n.E b+(j+1)) 0:Nat):Int) else 0);have MN:X.getD (1080+8*own.getD (eY n.E b+j) 0) 0=if j+1<dN n.E b then ((own.getD (eY n.E b+(j+1)) 0:Nat):Int) else 0:=by
   have :=jt X (1080+8*own.getD (eY n.E b+j) 0) 0 (by omega);rw[<-h] at this;exact this.symm
  rw[aB z,km,aA (by omega),G,aA (by omega),aJ];have U:EO X (own.getD (eY n.E b+j) 0):=by
   unfold EO;rw[<-h];exact e2
  have hE:tS X (own.getD (eY n.E b+j) 0)=uq (dF n.E b) j:=by
   unfold tS;rw[<-h];exact e3
  rw[aB U,hE,MN,Lz y,ba,VW];exact ih (j+1) f (by omega) (by omega)
theorem Ja (E:List (ByteArray×Int)):∀b,(uP E b).length<=3*eY E b
 |0=>by simp[uP]
 |b+1=>by
  have :=Ja E b;rw[uP,eY,aD,dN];omega
theorem Zw (E:List (ByteArray×Int)):eY E 4*3<=(uP E 4).length+8:=by
 simp only[uP,eY,dN,aD,bT];omega
theorem Jb:∀E:List (ByteArray×Int),E.Perm (uP E 4)
 | []=>by simp[uP,dF]
 |p::E=>by
  have z:=Jb E;have G:=KT p;simp only[uP,bT] at z ⊢;have y:∀b,dF (p::E) b=if F5 p=b then p::dF E b else dF E b:=λb=>by
   unfold dF;rw[List.filter_cons];simp
  rw[y 0,y 1,y 2,y 3];generalize dF E 0=A at *;generalize dF E 1=B at *;generalize dF E 2=C at *;generalize dF E 3=D at *;refine(List.Perm.cons p z).trans ?_;rcases (show F5 p=0\/F5 p=1\/F5 p=2\/F5 p=3 by omega) with h|h|h|h
  ·simp[h]
  ·simp only[h]
   simp only[ba,Nat.one_ne_zero,Nat.reduceEqDiff,↓reduceIte];exact List.perm_middle.symm
  ·simp only[h]
   simp only[ba,Nat.reduceEqDiff,↓reduceIte];have :=(List.perm_middle (a:=p) (l₁:=A++B) (l₂:=C++D)).symm;simpa using this
  ·simp only[h]
   simp only[ba,Nat.reduceEqDiff,↓reduceIte];have :=(List.perm_middle (a:=p) (l₁:=A++B++C) (l₂:=D)).symm;simpa using this
theorem zU {X:List Int}{n:bN}{own:List Nat}(y:n.K=2)(J:mz n)(V:own.length=eY n.E 4)(U:own.length<=24)(z:∀c∈own,c≠0/\c<256)(G:mQ X (lJ n own) n own):
  ∀b,b<=4->pH X (lJ n own) b=some (own.take (eY n.E b),uP n.E b)
 |0,_=>by simp[pH,eY,uP]
 |b+1,hb=>by
  have h:=qH n.E (show b+1<=4 by omega);rw[eY] at h;rw[pH,zU y J V U z G b (by omega)];show km X (25-(own.take (eY n.E b)).length) ((lJ n own).getD (2+b) 0) (own.take (eY n.E b)) (uP n.E b)=_;have :=LA y J V U z G (show b<4 by omega) (dN n.E b) 0 (25-eY n.E b) (by omega) (by omega);rw[dP,Nat.mul_zero,eI,bq] at this;rw[(R7 y (show b<4 by omega)).1,aI,cA (by omega)];exact this
theorem VX (y:bR n)(h:R.getD 0 0=mA n)(z:R.getD 1 0=n.S):gX R=⟨n.F,n.K,n.L,n.S,List.replicate 13 0,[]⟩:=by
 rw[<-I0 y [] 0];unfold gX;rw[h,z];rfl
theorem adO{A:List Int}(h:A.length=5)(x:Int):(A++[x]).getD 5 0=x/\(A++[x]).take 5=A:=by
 constructor
 ·rw[aj,aT (by omega),h]
  rfl
 ·rw[fJ (by omega),aW (by omega)]
theorem CB (a b:Int)(l:List Int):(a::b::l).drop 2=l/\(a::b::l).getD 7 0=l.getD 5 0:=⟨rfl,rfl⟩
theorem wj (hB:n.B.length=13)(af:tP i n)(G:own.length=dS n)(hm:∀c∈own,c≠0/\c<256)(U:mQ X (fe X i) n own):xI X i n own:=by
 obtain⟨hi,hF,hR⟩:=af;refine⟨hi,?_,hF,hR,G,U⟩;have V:=U.2;rw[<-V] at U ⊢;have Lf:=VX hR (yQ n own).1 (yQ n own).2;rcases hR.2.2 with ⟨Z,hf⟩|⟨Z,J⟩
 ·left
  rw[Lf];refine⟨Z,n.B,?_,?_⟩
  ·have hr:lJ n own=kP n own:=aA (by omega)
   have W:fE n own=jd n:=aA (by omega);have ak:(eO n.B).length<=13:=kf n.B 13;have qh:∀k,k<13->0<=n.B.getD k 0/\n.B.getD k 0<256:=λk hk=>(hf.2.2.2 k hk).1
   rw[oQ hf] at G;by_cases h6:(eO n.B).length<=6
   ·left
    have ye:kP n own=mA n::n.S::(eO n.B++List.replicate (6-(eO n.B).length) 0):=aB h6;rw[aA (by omega)] at G;rw[hr,ye];refine⟨?_,bc G,?_⟩
    ·rw[(CB _ _ _).2,aj]
     by_cases h5:5<(eO n.B).length
     ·rw[bg h5,aF h5]
      exact(AW (bA h5)).2
     ·rw[aT (by omega),bb]
      split<;>simp
    ·rw[(CB _ _ _).1]
     have :=Cw hB qh (6-(eO n.B).length);rwa[show(eO n.B).length+(6-(eO n.B).length)=6 by omega] at this
   ·right
    have ye:kP n own=mA n::n.S::((eO n.B).take 5++[9223372036854775808+((own.getD 0 0:Nat):Int)]):=aA h6;have aa:jd n=[(eO n.B).drop 5++List.replicate (13-(eO n.B).length) 0]:=aA h6;rw[aB (by omega)] at G;obtain⟨c,rfl⟩:=List.length_eq_one_iff.1 G;have hc:=hm c (by simp);have y:=U.1 0 (by simp);rw[W,aa] at y;have y:(eO n.B).drop 5++List.replicate (13-(eO n.B).length) 0=dz X (1080+8*c):=y;have ae:((eO n.B).take 5).length=5:=by rw[aI];omega
    rw[hr,ye];have hg:[c].getD 0 0=c:=rfl;rw[hg];obtain⟨a1,a2⟩:=adO ae (9223372036854775808+((c:Nat):Int));obtain⟨d1,d2⟩:=CB (mA n) n.S ((eO n.B).take 5++[9223372036854775808+((c:Nat):Int)]);refine⟨c,?_,by omega,hc.2,rfl,?_⟩
    ·rw[d2,a1]
    ·rw[d1,a2,<-y,<-ba,ey]
     have :=Cw hB qh (13-(eO n.B).length);rwa[show(eO n.B).length+(13-(eO n.B).length)=13 by omega] at this
  ·have hE:n.E=[]:=bc hf.2.1
   cases n;simp at hE;subst hE;rfl
 ·right
  rw[Lf];have z:=G;rw[qO J] at z;have hp:=Jb n.E;have ar:=hp.length_eq;have ai:=Zw n.E;have Kc:=J.1;have au:=Ja n.E 4;have hs:=zU Z J z (by omega) hm U 4 (aG _);rw[<-z,gY] at hs;refine⟨Z,uP n.E 4,n.E,hs,⟨by omega,λc hc=> ?_,by omega,λp ac=> ?_⟩,hp,λi j ag hj=> ?_,?_⟩
  ·have :=hm c hc
   omega
  ·have ah:=hp.mem_iff.2 ac
   obtain⟨k,hk,rfl⟩:=bU ah;rw[Gm _ k hk];have :=(mX (J.2.2.2 k hk).1).2;rw[kF] at this;exact this
  ·have Uq:=cU.1 (wi J) i j (by omega) hj ag
   rw[Gm _ i (by omega),Gm _ j hj] at Uq;cases h:Op.bytesLess (dZ n.E j).toList (dZ n.E i).toList
   ·rfl
   ·have :=lZ _ _ _ Uq h
    rw[mo] at this;cases this
  ·have W:=J.2.2.1
   cases n;simp at W;subst W;rfl
theorem Jc (h:xI X i n own):own.Nodup:=by
 obtain⟨hi,hs,hF,hR,ho,hL⟩:=h;rcases hR.2.2 with ⟨hK,hf⟩|⟨hK,hD⟩
 ·rw[oQ hf] at ho
  have :own.length<=1:=by rw[ho];split<;>omega
  match own,this with
  | [],_=>exact List.nodup_nil
  | [c],_=>simp
  |_::_::_,h=>simp at h
 ·rw[qO hD] at ho
  have tJ:∀m,m<own.length->∃b j,b<4/\3*j<(dF n.E b).length/\m=eY n.E b+j/\X.getD (1080+8*own.getD m 0+1) 0=((jq (bl (dZ (dF n.E b) (3*j))):Nat):Int):=λm MS=>by
   obtain⟨b,j,hb,J,rfl⟩:=qI n.E (ho▸MS);have h3:3*j<(dF n.E b).length:=by unfold dN at J;omega
   refine⟨b,j,hb,h3,rfl,?_⟩;have z:=hL.1 _ MS;unfold fE at z;rw[aB hK,oP n.E own J hb] at z;have Z:=jt X (1080+8*own.getD (eY n.E b+j) 0) 1 (by omega);rw[<-z,RV,ml,IQ _ _ _ (by omega),aB ⟨by omega,by omega⟩,aB rfl] at Z;exact Z.symm
  rw[List.nodup_iff_pairwise_ne,cU];intro i1 i2 Z h2 ag he;obtain⟨b,j,hb,J,e1,w1⟩:=tJ i1 Z;obtain⟨b',W,ah,G,e2,w2⟩:=tJ i2 h2;have af:own.getD i1 0=own.getD i2 0:=by simp[Z,h2,he]
  rw[af,w2] at w1;have hw:jq (bl (dZ (dF n.E b') (3*W)))=jq (bl (dZ (dF n.E b) (3*j))):=by omega
  have g1:=(CA hD b _ J).1;have g2:=(CA hD b' _ G).1;unfold jq at hw;rw[aB g1,aB g2] at hw;have U:=l9 g1 (xg _);rw[<-hw,l9 g2 (xg _)] at U;have aa:bl (dZ (dF n.E b') (3*W))=bl (dZ (dF n.E b) (3*j)):=Option.some.inj U;have V:∀q k,k<(dF n.E q).length->oG (bl (dZ (dF n.E q) k))=q:=λq k hk=>by
   have :=(List.mem_filter.1 (Rh hk)).2;exact beq_iff_eq.1 this
  have ae:b=b':=by rw[<-V b _ J,<-V b' _ G,aa]
  subst ae;have UE:dZ (dF n.E b) (3*W)=dZ (dF n.E b) (3*j):=by rw[<-AJ (dZ (dF n.E b) (3*W)),aa,AJ]
  have Uq:(dF n.E b).Pairwise (λx y=>Op.bytesLess x.1.toList y.1.toList=true):=(wi hD).filter _;have ac:=cU.1 Uq (3*j) (3*W) J G (by omega);rw[Gm _ _ J,Gm _ _ G,UE,mo] at ac;cases ac
def dO (X:List Int) (i:Int):Prop:=fe X i=List.replicate 8 0
instance (X:List Int) (i:Int):Decidable (dO X i):=by unfold dO;infer_instance
def dK (n:bN):Nat:=if n.F=2 then dS n else ez n
structure eP (X:List Int) (i:Int) (n:bN) (own:List Nat):Prop where
 rng:0<=i/\i<32
 len:n.B.length=13
 right:bR n
 mem:∀c∈own,c≠0/\c<256
 nodup:own.Nodup
 laid:(n.F=1/\own.length=ez n/\Cm X (824+8*i.toNat) n own)\/(n.F=2/\own.length=dS n/\mQ X (fe X i) n own)
theorem eP.ownLen(h:eP X i n own):own.length=dK n:=by
 unfold dK;rcases h.laid with ⟨z,y,-⟩|⟨z,y,-⟩
 ·rw[aA (by omega),y]
 ·rw[aB z,y]
theorem Jd (y:bR n):ez n<=7:=by
 have h:=iZ y;have :=rM n;omega
theorem CD (h:bR n):dK n<=32:=by
 have z:=Jd h;have y:=Cj h;unfold dK;split<;>omega
theorem eP.tag(h:eP X i n own):(fe X i).getD 0 0=mA n:=by
 rcases h.laid with ⟨-,-,y⟩|⟨-,-,y⟩
 ·unfold fe
  rw[y.row];rfl
 ·rw[<-y.2]
  exact(yQ n own).1
theorem Je (h:bR n):mA n%256=n.F/\0<mA n:=by
 obtain⟨hF,G,y⟩:=h;have z:n.K=1\/n.K=2:=y.imp (·.1) (·.1);unfold mA;omega
theorem eP.format(h:eP X i n own):(fe X i).getD 0 0%256=n.F:=by
 rw[h.tag];exact(Je h.right).1
theorem eP.notFree(h:eP X i n own):¬dO X i:=λz=>by
 have y:=h.tag;have G:=(Je h.right).2;rw[z] at y;simp at y;omega
theorem eP.uniq{Z:bN}{cH:List Nat}(h:eP X i n own)(y:eP X i Z cH):Z=n/\cH=own:=by
 have hf:=h.format;have aa:=y.format;rcases h.laid with ⟨W,V,U⟩|⟨W,V,U⟩
 ·rcases y.laid with ⟨z,J,G⟩|⟨z,J,G⟩
  ·obtain⟨-,c1,c2⟩:=yT h.len h.right W V h.mem U
   obtain⟨-,d1,d2⟩:=yT y.len y.right z J y.mem G;exact⟨by rw[<-d1,c1],by rw[<-d2,c2]⟩
  ·omega
 ·rcases y.laid with ⟨z,J,G⟩|⟨z,J,G⟩
  ·omega
  ·have r1:=wj h.len ⟨h.rng,W,h.right⟩ V h.mem U
   have r2:=wj y.len ⟨y.rng,z,y.right⟩ J y.mem G;exact r1.2.1.uniq r2.2.1 y.right
theorem O5 (y:In64 X)(z:0<=i/\i<32)(h:kJ X (fe X i)):eP X i (lQ X (fe X i)) (Aw X (fe X i)):=by
 obtain⟨U,G,J,h4,W,V,Z⟩:=OQ y (q:=824+8*i.toNat) h;exact⟨z,J,U,W,V,.inl ⟨G,h4,Z⟩⟩
theorem O6 (y:n.B.length=13)(J:∀c∈own,0<c/\c<256)(h:xI X i n own):eP X i n own:=by
 have W:=Jc h;obtain⟨G,h2,z,h4,Z,V⟩:=h;exact⟨G,y,h4,λc U=>by have :=J c U;omega,W,.inr ⟨z,Z,V⟩⟩
theorem Gn (h:eP X i n own)(hF:n.F=1):kJ X (fe X i)/\lQ X (fe X i)=n/\Aw X (fe X i)=own:=by
 rcases h.laid with ⟨y,G,z⟩|⟨y,G,z⟩
 ·exact yT h.len h.right y G h.mem z
 ·omega
theorem Gp (h:eP X i n own)(hF:n.F=2):xI X i n own:=by
 rcases h.laid with ⟨y,G,z⟩|⟨y,G,z⟩
 ·omega
 ·exact wj h.len ⟨h.rng,y,h.right⟩ G h.mem z
theorem y8{p:Nat}(h:∀j,j<8->Y.getD (p+j) 0=X.getD (p+j) 0):dz Y p=dz X p:=by
 unfold dz;apply dL;intro j y;exact h j (bP.1 y)
theorem eP.same(h:eP X i n own)(Z:∀j,j<8->Y.getD (824+8*i.toNat+j) 0=X.getD (824+8*i.toNat+j) 0)
  (W:∀c∈own,∀j,j<8->Y.getD (1080+8*c+j) 0=X.getD (1080+8*c+j) 0):eP Y i n own:=by
 have V:dz Y (824+8*i.toNat)=dz X (824+8*i.toNat):=y8 Z;have U:∀m,m<own.length->dz Y (1080+8*own.getD m 0)=dz X (1080+8*own.getD m 0):=λm y=>y8 (W _ (iI y))
 refine⟨h.rng,h.len,h.right,h.mem,h.nodup,?_⟩;rcases h.laid with ⟨J,G,z⟩|⟨J,G,z⟩
 ·exact .inl ⟨J,G,by rw[V];exact z.row,λm y=>by rw[U m y];exact z.own m y⟩
 ·refine .inr ⟨J,G,λm y=>by rw[U m y];exact z.1 m y,?_⟩
  unfold fe;rw[V];exact z.2
theorem dO.same(h:dO X i)(y:∀j,j<8->Y.getD (824+8*i.toNat+j) 0=X.getD (824+8*i.toNat+j) 0):dO Y i:=by
 unfold dO fe at *;rw[y8 y];exact h
def cB (X:List Int):List Nat->List (Int×Int)
 | []=>[]
 |b::l=>dR X b false++cB (az X (dR X b false)) l
theorem Jf (l:List Nat)(b:Nat):∀X:List Int,cB X (l++[b])=cB X l++dR (az X (cB X l)) b false:=by
 induction l with
 |nil=>intro X;show dR X b false++[]=_;rw[bq];rfl
 |cons c l ih=>
  intro X;show dR X c false++cB _ (l++[b])=(dR X c false++cB _ l)++dR (az X (dR X c false++cB _ l)) b false;rw[ih,bJ,ba]
theorem SU (X:List Int)(b:Nat)(u:Bool):(dR X b u).length<=1:=by
 unfold dR;split<;>simp
theorem wm (l:List Nat):∀X:List Int,(cB X l).length<=l.length:=by
 induction l with
 |nil=>intro X;exact aG _
 |cons b l ih=>
  intro X;show(dR X b false++cB _ l).length<=_;have y:=SU X b false;have h:=ih (az X (dR X b false));rw[aD,bF];omega
theorem ko (l:List Nat):∀X:List Int,In64 X->X.length=3128->
  In64 (az X (cB X l))/\(∀c,c<256->c≠0->dx (az X (cB X l)) c=(dx X c && !decide (c∈l)))/\(∀k,820<=k->(az X (cB X l)).getD k 0=X.getD k 0):=by
 induction l with
 |nil=>intro X h U;exact⟨h,λc _ _=>by simp[cB,az],λk _=>rfl⟩
 |cons b l ih=>
  intro X h U;have h1:In64 (az X (dR X b false)):=h.put (Hy h b false);have V:(az X (dR X b false)).length=3128:=by rw[bY,U]
  obtain⟨Z,k2,k3⟩:=ih _ h1 V;have e:az X (cB X (b::l))=az (az X (dR X b false)) (cB (az X (dR X b false)) l):=bJ _ _ _;rw[e];refine⟨Z,λc hc J=> ?_,λk hk=> ?_⟩
  ·rw[k2 c hc J]
   by_cases W:b=0\/256<=b
   ·have :dR X b false=[]:=aB W
    rw[this];have G:¬c=b:=by omega
    simp[az,G]
   ·rw[yw h U b (by omega) (by omega)]
    by_cases y:c=b
    ·simp[y]
    ·simp[y]
  ·rw[k3 k hk]
   refine iy _ _ _ λp z=> ?_
   unfold dR at z;split at z
   ·simp at z
   ·rw[au] at z
    subst z;show((816+b/64:Nat):Int).toNat≠k;omega
theorem ES (Z:∀c∈own,c≠0/\c<256)(hn:own.Nodup)(V:∀c∈own,dx X c=true)(h:∀c,c<256->c≠0->dx Y c=(dx X c && !decide (c∈own))):
  (bp Y).length=(bp X).length+own.length:=by
 have hp:(bp Y).Perm (bp X++own):=by
  apply(List.perm_ext_iff_of_nodup (oD Y 256) ?_).2
  ·intro c
   rw[aR];unfold bp;rw[ka,ka];constructor
   ·rintro⟨y,z,G⟩
    rw[h c y z] at G;by_cases U:c∈own
    ·exact .inr U
    ·simp[U] at G
     exact .inl ⟨y,z,G⟩
   ·rintro (⟨y,z,G⟩|y)
    ·exact⟨y,z,by rw[h c y z,G];rfl⟩
    ·have :=Z c y
     exact⟨this.2,this.1,by rw[h c this.2 this.1];simp[y]⟩
  ·refine List.nodup_append.2 ⟨oD X 256,hn,λa ha b W J=> ?_⟩
   subst J;have :=(ka.1 ha).2.2;rw[V a W] at this;cases this
 rw[hp.length_eq,aD]
theorem O7 (h:∀k,k<820->Y.getD k 0=X.getD k 0):(∀c,c<256->dx Y c=dx X c)/\bp Y=bp X:=by
 have z:∀c,c<256->dx Y c=dx X c:=λc y=>by
  unfold dx bw;rw[h _ (by omega)]
 refine⟨z,?_⟩;unfold bp fG;apply gF;intro c y;rw[z c (bP.1 y)]
def DR (X:List Int) (i:Nat) (n:bN) (own:List Nat):List (Int×Int):=if n.F=2 then kI X i n own else mP X i n own
structure y9 (X:List Int) (i:Int) (n:bN) (own:List Nat) (X':List Int) (cH:List Nat):Prop where
 st:eP X' i n cH
 w64:In64 X'
 len:X'.length=3128
 used:∀c,c<256->c≠0->dx X' c=((dx X c && !decide (c∈own))||decide (c∈cH))
 free:∀c∈cH,(dx X c && !decide (c∈own))=false
 other:∀k,820<=k->¬(824+8*i.toNat<=k/\k<824+8*i.toNat+8)->¬(1080<=k/\(k-1080)/8∈cH)->X'.getD k 0=X.getD k 0
 count:(bp X').length+dK n=(bp (az X (cB X own))).length
theorem CE (h:In64 X)(G:X.length=3128){own:List Nat}(J:∀c∈own,c≠0/\c<256){qs:List (Int×Int)}(U:∀p∈qs,820<=p.1.toNat):
  (∀c,c<256->dx (az X (dE X own++qs)) c=(dx X c||decide (c∈own)))/\bp (az X (dE X own++qs))=bp (az X (dE X own)):=by
 rw[bJ];obtain⟨V,z⟩:=O7 (X:=az X (dE X own)) (Y:=az (az X (dE X own)) qs) λk Z=>iy _ _ _ λp W=>by have :=U p W;omega
 exact⟨λc y=>by rw[V c y,(mD own X h G J).2.2 c y],z⟩
theorem VY (y:In64 X)(J:X.length=3128){i:Int}{n:bN}(hB:n.B.length=13)(hi:0<=i/\i<32)(Z:bR n)(hn:dK n<=(bp X).length):
  y9 X i n [] (az X (DR X i.toNat n ((bp X).take (dK n)))) ((bp X).take (dK n)):=by
 have z:=rP hn;have W:∀c∈(bp X).take (dK n),c≠0/\c<256:=rO;have G:((bp X).take (dK n)).Nodup:=yV;have ye:∀c∈(bp X).take (dK n),(dx X c && !decide (c∈([]:List Nat)))=false:=λc U=>by
  rw[(ka.1 (bQ U)).2.2];rfl
 obtain⟨-,-,ac⟩:=KA y J (dK n);have Gq:∀Y,bp Y=bp (az X (dE X ((bp X).take (dK n))))->(bp Y).length+dK n=(bp (az X (cB X []))).length:=λY hY=>by
  rw[hY,ac,bu];show _=(bp X).length;omega
 have hF:n.F=1\/n.F=2:=Z.1;have XE:∀c,c<256->∀b:Bool,(dx X c||b)=((dx X c && !decide (c∈([]:List Nat)))||b):=λc _ b=>by simp
 rcases hF with hF|hF
 ·have qL:dK n=ez n:=aA (by omega)
  have Zx:∀own,DR X i.toNat n own=mP X i.toNat n own:=λown=>aA (by omega)
  rw[qL] at hn z W G ye Gq ⊢;rw[Zx];obtain⟨a1,a2,a3⟩:=SC y J hB ⟨hi,hF,Z⟩ hn;have af:=iZ Z;have ae:=rM n;have aa:aY n.E.length<=((bp X).take (ez n)).length:=by omega
  obtain⟨u1,u2⟩:=CE y J W (qs:=rJ i.toNat n ((bp X).take (ez n))) λp V=>by
   rcases pC aa V with ⟨h,-⟩|⟨h,-⟩<;>omega
  exact⟨⟨hi,hB,Z,W,G,.inl ⟨hF,z,a1⟩⟩,a2,by rw[bY,J],λc U _=>by rw[<-XE c U];exact u1 c U,ye,a3,by rw[qL];exact Gq _ u2⟩
 ·have qL:dK n=dS n:=aB hF
  have Zx:∀own,DR X i.toNat n own=kI X i.toNat n own:=λown=>aB hF
  rw[qL] at hn z W G ye Gq ⊢;rw[Zx];obtain⟨a1,a2,a3⟩:=OT y J ⟨hi,hF,Z⟩ hn;obtain⟨u1,u2⟩:=CE y J W (qs:=qb (fE n ((bp X).take (dS n))) ((bp X).take (dS n)) ((bp X).take (dS n)).length++jz (824+8*i.toNat) (lJ n ((bp X).take (dS n))) 8) λp V=>by
   rcases aR.1 V with V|V
   ·obtain⟨m,j,-,-,h,-⟩:=qQ V
    omega
   ·obtain⟨j,-,h,-⟩:=lu V
    omega
  exact⟨⟨hi,hB,Z,W,G,.inr ⟨hF,z,a1⟩⟩,a2,by rw[bY,J],λc U _=>by rw[<-XE c U];exact u1 c U,ye,a3,by rw[qL];exact Gq _ u2⟩
def j0 (X:List Int) (i:Nat) (n:bN) (own:List Nat):List (Int×Int):=
 cB X own++DR (az X (cB X own)) i n ((bp (az X (cB X own))).take (dK n))
theorem VZ (G:In64 X)(V:X.length=3128){i:Int}{n:bN}{own:List Nat}(hB:n.B.length=13)(hi:0<=i/\i<32)(hR:bR n)(hn:dK n<=(bp (az X (cB X own))).length):
  y9 X i n own (az X (j0 X i.toNat n own)) ((bp (az X (cB X own))).take (dK n)):=by
 obtain⟨g1,J,g3⟩:=ko own X G V;have gl:(az X (cB X own)).length=3128:=by rw[bY,V]
 have h:=VY g1 gl hB hi hR hn;have W:∀c∈(bp (az X (cB X own))).take (dK n),c≠0/\c<256:=rO;unfold j0;rw[bJ];obtain⟨Y,U⟩:∃Y,Y=az X (cB X own):=⟨_,rfl⟩;rw[<-U] at g1 J g3 gl h W ⊢;refine⟨h.st,h.w64,h.len,λc y Z=> ?_,λc y=> ?_,λk hk h1 h2=> ?_,?_⟩
 ·rw[h.used c y Z,J c y Z]
  simp
 ·have :=h.free c y
  have z:=W c y;rw[J c z.2 z.1] at this;simpa using this
 ·rw[h.other k hk h1 h2,g3 k hk]
 ·rw[<-U]
  exact h.count
theorem y9.keeps{Z:List Int}{m:bN}{y:List Nat}(h:y9 X i n own Z W)(V:eP X j m y)(aa:i≠j)(hu:∀c∈y,dx X c=true)(hd:∀c∈y,c∉own):eP Z j m y:=by
 have hi:=h.st.rng;have ac:=V.rng;have J:∀c∈y,c∉W:=λc z U=>by
  have :=h.free c U;rw[hu c z] at this;simp[hd c z] at this
 refine V.same (λk hk=>h.other _ (by omega) (by omega) (λG=>by omega)) λc z k hk=>h.other _ (by omega) (by omega) λG=> ?_
 have :(1080+8*c+k-1080)/8=c:=by omega
 rw[this] at G;exact J c z G.2
theorem y9.free_keeps{y:List Int}{J:List Nat}(h:y9 X i n own y J)(z:dO X j)(U:0<=j/\j<32)(G:i≠j):dO y j:=by
 have V:=h.st.rng;exact z.same λk Z=>h.other _ (by omega) (by omega) (λW=>by omega)
theorem SV (K4:eT w b gp B ps)(Ay:yY (az B ps))(i:Int):
  Calls prog 173 #[.pointer (some ⟨b,0,none⟩),.int .i64 i] w (oV w (az B ps) i):=by
 have ah:=bf.new w (aU cX (.slice none 0 0)) 111;obtain⟨W0,ac⟩:∃W0,W0=w.alloc (.cells (aU cX (.slice none 0 0)) 111):=⟨_,rfl⟩;rw[<-ac] at ah;have eo:ay [] w W0:=by
  rw[ac];exact(ay.refl _ _).alloc _
 have bl:W0.heap.size=w.heap.size+1:=by rw[ac];simp
 have bp:=fu;have YD:=jx;have HI:=ar (ju i);have Z:Hid (∀wz,ay [] W0 wz->(∀W V,¬xI (az B ps) i W V)->∃w',(storeVar 111 ⟨w.heap.size,0,none⟩ (.agg (aU cX (.slice none 0 0)))).run prog wz= .ok () w'/\(loadVar 111 ⟨w.heap.size,0,none⟩).run prog w'= .ok (.agg (aU cX (.slice none 0 0))) w'/\oV w (az B ps) i (.returned (.tuple #[.agg (aU cX (.slice none 0 0)),.slice none 0 0,.bool false])) w'):=λwz J hn=>by
  obtain⟨w',q1,q2,q3⟩:=bo (P:= prog) (ty:= 111) (cs:=mr cX (.slice none 0 0)) iH (ah.keep J (by simp)) rfl (jD rfl);exact⟨w',q1,cC q2 rfl,cX,_,w.heap.size,[],_,w.heap.size,false,rfl,rfl,br.nil _ _,aG _,kb.nil _ _,aG _,(eo.trans' J).trans q3 (by intro x hx;rw[au] at hx;omega),λh=>(by cases h),λ_=>⟨rfl,rfl,hn⟩⟩
 have nX:=ar ac;have gH:=ar eo;have vv:=ar ah;have yc:=ar K4;have O0:=ar Ay;clear ah eo ac K4 Ay;generalize XA:az B ps=X at *;have MW:=ar XA;clear XA;generalize aI:aU cX (.slice none 0 0)=Z0 at *;have AY:=ar aI;clear aI;have O4:Z0.size=18:=by rw[<-AY.out];rfl
 by_cases hi:0<=i/\i<32
 ·have af:fA i=((824+8*i.toNat:Nat):Int):=by rw[fA,aA (by omega)];omega
  rw[af] at HI;have bn:¬((824+8*i.toNat:Nat):Int)<0:=by omega
  have kH:=ar (mL (yc.out.keep gH.out (by simp) (by simp)) (824+8*i.toNat) (by omega));rw[MW.out] at kH;have sQ:=iB X (824+8*i.toNat);obtain⟨r,hr⟩:∃r,r=dz X (824+8*i.toNat):=⟨_,rfl⟩;have aN:fe X i=r:=by rw[hr];rfl
  have uM:Hid (yY r):=by rw[hr];exact yY.row O0.out _
  rw[<-hr] at kH sQ;have aa:=ar aN;clear hr aN af;generalize aY:((824+8*i.toNat:Nat):Int)=pi at *;clear aY;generalize sP:(aO (List.replicate 8 0)).toArray=Z8 at *;have yb:=ar sP;clear sP;go_enter func173,ntmps173;go_wp2_with fail;refine(HI.out _).mono ?_;rintro e wy ⟨rfl,rfl⟩;go_wp2_with fail;refine(HI.out _).mono ?_;rintro e wy ⟨rfl,rfl⟩;go_wp2_with fail;rw[<-nX.out];refine kH.out.mono ?_;rintro e w1 ⟨rfl,aj⟩;obtain⟨w2,aC,G5,aK⟩:=bo (P:= prog) (ty:= 195) (cs:=aO r) (by rw[aZ,sQ];exact il) (bf.new w1 Z8 195) (by rw[<-yb.out];simp[aZ,sQ]) (eF _);have bc:=aj.size;have fF:Hid (ay [] W0 w2):=(aj.alloc (.cells Z8 195)).trans aK (by intro x hx;rw[au] at hx;omega);have KQ:=ar G5;have Av:=ar aC;have QD:Hid (∀G,ay [] w2 G->(loadVar 195 ⟨w1.heap.size,0,none⟩).run prog G= .ok (.agg (aO r).toArray) G):=λG J=>dX (KQ.out.keep J (by simp)) sQ
  have I9:=ar (gH.out.trans' fF.out);have Kf:=Lx (yc.out.keep I9.out (by simp) (by simp)) (by rw[MW.out];exact O0.out) sQ uM.out;rw[MW.out] at Kf;have aF:=ar Kf;clear aC G5 aK aj bc kH Kf;generalize QC:w1.heap.size=g7 at *;have bb:=ar (QD.out w2 (ay.refl _ _));go_wp2_with(first|(with_reducible refine gS 195 Av.out ?_)|(with_reducible refine gL 195 bb.out ?_));refine aF.out.mono ?_;rintro e w3 ⟨n,v,g,own,vo,go,ok,rfl,rR,hE,hg,hO,ax,ak,h1,h2⟩;obtain⟨w4,aH,VF,ai⟩:=bo (P:= prog) (ty:= 111) (cs:=mr n v) (by rw[fT,rR];exact iH) (bf.new w3 Z0 111) (by rw[O4,fT,rR]) (jD (by obtain⟨a,c,rfl,-⟩:=hE;rfl));have aP:=ak.size;have oN:Hid (ay [] w2 w4):=(ak.alloc (.cells Z0 111)).trans ai (by intro x hx;rw[au] at hx;omega);have Zy:bf w4 w3.heap.size (aU n v) 111 :=VF;have cF:w4.cell? ⟨w3.heap.size,0,none⟩=some (.int .i64 n.F):=by rw[Zy.cell];exact(jL _ rR).f0
  have AV:Hid (∀G,ay [] w4 G->(loadVar 111 ⟨w3.heap.size,0,none⟩).run prog G= .ok (.agg (aU n v)) G):=λG J=>cC (Zy.keep J (by simp)) rR
  have DN:ay [w3.heap.size] w3 w4:=((ay.refl [w3.heap.size] w3).alloc (.cells Z0 111)).trans' ai;have QJ:br w4 v g n.E:=hE.keep DN (λh0=>by
   have :=hE.apart (l:=[w3.heap.size]) (λx hx=>by rw[au] at hx;omega) h0;exact this)
  have MZ:∃ae,kb w4 vo ae own/\w2.heap.size<=ae:=hO.away ax DN (λx hx=>by rw[au] at hx;omega);obtain⟨ae,MZ,aJ⟩:=MZ;have Sd:=ar QJ;have V2:=ar MZ;have wQ:Hid ((storeVar 111 ⟨w3.heap.size,0,none⟩ (.agg (aU n v))).run prog (w3.alloc (.cells Z0 111))= .ok () w4):=aH;have H1:=ar h1;have H2:=ar h2;have Am:=ar rR;have HG:=ar hg;have aS:=ar aJ;have bg:=ar aP;clear aH VF Zy ai DN QJ MZ hE hO hg ax aJ ak h1 h2 rR aP aF;generalize Iv:w3.heap.size=g8 at *;have ag:Hid (ok=true->∀W V,xI X i W V->W=n/\V=own):=λba W V h=>by
   have :=h.2.1;rw[aa.out] at this;exact(H1.out ba).1.uniq this h.2.2.2.1
  cases ok with
  |false=>
   obtain⟨w9,U,z,y⟩:=Z.out w4 (fF.out.trans' oN.out) (λW V h=>by have :=h.2.1;rw[aa.out] at this;exact H2.out rfl W V this);have AL:=ar U;have oO:=ar z;have O8:=ar y;clear U z y Z H1 H2;go_wp2_with(first|(with_reducible refine gS 111 wQ.out ?_)|(with_reducible refine gS 111 AL.out ?_));exact aL (bB results173 rfl oO.out rfl rfl) rfl O8.out
  |true=>
   by_cases hF:n.F=2
   ·rw[hF] at cF
    have QH:=ar hF;clear hF;have VI:Hid (∀k,k<n.E.length->(dZ n.E k).size<=9223372036854775807):=λk J=>by have :=(H1.out rfl).2.2.2.2 k J;omega
    have vt:Hid (∀G,ay [] w4 G->Calls prog 96 #[.agg (aU n v)] G λe w'=>e= .returned (.bool (decide (bR n)))/\ay [] G w'):=λG J=>lO n v g Am.out G (Sd.out.keep J (by simp)) VI.out
    have Xb:Hid (∀G,ay [] w4 G->Calls prog 199 #[.agg (aU n v)] G λe w'=>e= .returned (.int .i64 ((if bR n then dS n else 0:Nat):Int))/\ay [] G w'):=λG J=>BQ n v g Am.out G (Sd.out.keep J (by simp)) (by have :=(H1.out rfl).2.2.2.1;omega) VI.out
    have aX:Hid (bR n->own.length=dS n->∀G,ay [] w4 G->Calls prog 200 #[.pointer (some ⟨b,0,none⟩),.agg (aO r).toArray,.agg (aU n v),vo] G λe w'=>∃t:Bool,e= .returned (.bool t)/\(t=true↔mQ X r n own)/\ay [] G w'):=λhR hN G J=>by
     have h:=OC (R:=r) (((yc.out.keep I9.out (by simp) (by simp)).keep oN.out (by simp) (by simp)).keep J (by simp) (by simp)) n v g Am.out hR (Sd.out.keep J (by simp)) vo ae own (V2.out.keep J (by simp)).reads hN (λc hc=>((H1.out rfl).2.2.1 c hc).2) sQ;rw[MW.out] at h;exact h
    have bk:Hid (∀G,ay [] w4 G->(loadVar 111 ⟨g8,0,none⟩).run prog G= .ok (.agg (aU n v)) G):=AV.out;have aT:Hid (v.oneCell'=true):=by obtain⟨a,c,rfl,-⟩:=Sd.out;rfl
    have XF:Hid (∀wz,ay [] w4 wz->xI X i n own->∃w',(storeVar 111 ⟨w.heap.size,0,none⟩ (.agg (aU n v))).run prog wz= .ok () w'/\(loadVar 111 ⟨w.heap.size,0,none⟩).run prog w'= .ok (.agg (aU n v)) w'/\oV w X i (.returned (.tuple #[.agg (aU n v),vo,.bool true])) w'):=λwz J aV=>by
     obtain⟨w',q1,q2,q3⟩:=bo (P:= prog) (ty:= 111) (cs:=mr n v) (by rw[fT,Am.out];exact iH) (((vv.out.keep fF.out (by simp)).keep oN.out (by simp)).keep J (by simp)) (by rw[O4,fT,Am.out]) (jD aT.out);have bt:=I9.out.size;have hg:=HG.out;have ax:=aS.out;have bu:=fF.out.size;refine⟨w',q1,cC q2 Am.out,n,v,g,own,vo,ae,true,rfl,Am.out,(Sd.out.keep J (by simp)).keep q3 (λ_=>by rw[au];omega),by omega,(V2.out.keep J (by simp)).keep q3 (by rw[au];omega),by omega,(I9.out.trans' (oN.out.trans' J)).trans q3 (by intro x hx;rw[au] at hx;omega),λ_=>⟨aV,(H1.out rfl).2⟩,λh=>by cases h⟩
    have aR:Hid (∀G,ay [] w4 G->(loadVar 195 ⟨g7,0,none⟩).run prog G= .ok (.agg (aO r).toArray) G):=λG J=>QD.out G (oN.out.trans' J)
    obtain⟨av,cv,aQ,-,-,-⟩:=pq V2.out.reads;subst aQ;generalize Oa:aU n v=ZN at *;clear Oa;go_wp2_with(first|(with_reducible refine gS 111 wQ.out ?_)|((with_reducible show wpList _ _ _ (⟨_,.load 111 (.tmp 8),_,_,_,_⟩::_) _ _);refine dC rfl 111 (.tmp 8) rfl _ rfl _ (AV.out _ (ay.refl _ _)) ?_));refine(vt.out _ (ay.refl _ _)).mono ?_;rintro e w5 ⟨rfl,kr⟩;have pk:=ar kr;clear kr;by_cases hR:bR n
    ·rw[bh hR]
     have aD:=ar hR;go_wp2_with(first|((with_reducible show wpList _ _ _ (⟨_,.load 111 (.tmp 8),_,_,_,_⟩::_) _ _);refine dC rfl 111 (.tmp 8) rfl _ rfl _ (AV.out _ pk.out) ?_));refine(Xb.out _ pk.out).mono ?_;rintro e w6 ⟨rfl,jZ⟩;rw[aB hR];have nM:=ar (pk.out.trans' jZ);clear jZ hR;by_cases hN:own.length=dS n
     ·have XG:=ar hN
      rw[<-hN];clear hN;go_wp2_with(first|((with_reducible show wpList _ _ _ (⟨_,.load 111 (.tmp 8),_,_,_,_⟩::_) _ _);refine dC rfl 111 (.tmp 8) rfl _ rfl _ (AV.out _ nM.out) ?_)|((with_reducible show wpList _ _ _ (⟨_,.load 195 (.tmp 7),_,_,_,_⟩::_) _ _);refine dC rfl 195 (.tmp 7) rfl _ rfl _ (aR.out _ nM.out) ?_));refine(aX.out aD.out XG.out _ nM.out).mono ?_;rintro e w7 ⟨t,rfl,ht,Df⟩;have Ha:=ar (nM.out.trans' Df);have HT:=ar ht;clear Df ht;cases t with
      |false=>
       obtain⟨w9,U,z,y⟩:=Z.out w7 ((fF.out.trans' oN.out).trans' Ha.out) (λW V h=>by
        obtain⟨rfl,rfl⟩:=ag.out (by trivial) W V h;have h1:=h.2.2.2.2.2;rw[aa.out] at h1;have :=HT.out.2 h1;cases this)
       have AL:=ar U;have oO:=ar z;have O8:=ar y;clear U z y Z H1 H2 HT;go_wp2_with(first|(with_reducible refine gS 111 AL.out ?_));exact aL (bB results173 rfl oO.out rfl rfl) rfl O8.out
      |true=>
       obtain⟨w9,U,z,y⟩:=XF.out w7 Ha.out ⟨hi,by rw[aa.out];exact(H1.out (by trivial)).1,QH.out,aD.out,XG.out,by rw[aa.out];exact HT.out.1 rfl⟩;have AL:=ar U;have oO:=ar z;have O8:=ar y;have aW:=ar (AV.out _ Ha.out);clear U z y Z H1 H2 HT XF;go_wp2_with(first|(with_reducible refine gL 111 aW.out ?_)|(with_reducible refine gS 111 AL.out ?_));exact aL (bB results173 rfl oO.out rfl rfl) rfl O8.out
     ·have bj:((own.length:Int)==((dS n:Nat):Int))=false:=by simp;omega
      obtain⟨w9,U,z,y⟩:=Z.out w6 ((fF.out.trans' oN.out).trans' nM.out) (λW V h=>by obtain⟨rfl,rfl⟩:=ag.out (by trivial) W V h;exact hN h.2.2.2.2.1);have AL:=ar U;have oO:=ar z;have O8:=ar y;clear U z y Z H1 H2;go_wp2_with(first|(with_reducible refine gS 111 AL.out ?_));exact aL (bB results173 rfl oO.out rfl rfl) rfl O8.out
    ·rw[aM hR]
     obtain⟨w9,U,z,y⟩:=Z.out w5 ((fF.out.trans' oN.out).trans' pk.out) (λW V h=>by obtain⟨rfl,rfl⟩:=ag.out (by trivial) W V h;exact hR h.2.2.2.1);have AL:=ar U;have oO:=ar z;have O8:=ar y;clear U z y Z H1 H2;go_wp2_with(first|(with_reducible refine gS 111 AL.out ?_));exact aL (bB results173 rfl oO.out rfl rfl) rfl O8.out
   ·have bq:(n.F==2)=false:=by simpa using hF
    obtain⟨w9,U,z,y⟩:=Z.out w4 (fF.out.trans' oN.out) (λW V h=>by obtain⟨rfl,rfl⟩:=ag.out (by trivial) W V h;exact hF h.2.2.1);have AL:=ar U;have oO:=ar z;have O8:=ar y;clear U z y Z H1 H2;go_wp2_with(first|(with_reducible refine gS 111 wQ.out ?_)|(with_reducible refine gS 111 AL.out ?_));exact aL (bB results173 rfl oO.out rfl rfl) rfl O8.out
 ·have af:fA i= -1:=by rw[fA,aB (by omega)]
  rw[af] at HI;obtain⟨w9,U,z,y⟩:=Z.out W0 (ay.refl _ _) (λW V h=>hi h.1);rw[nX.out] at U;have AL:=ar U;have oO:=ar z;have O8:=ar y;clear U z y Z;go_enter func173,ntmps173;go_wp2_with fail;refine(HI.out _).mono ?_;rintro e wy ⟨rfl,rfl⟩;go_wp2_with(first|(with_reducible refine gS 111 AL.out ?_));exact aL (bB results173 rfl oO.out rfl rfl) rfl O8.out
theorem wq (i:Int)(w:World):Calls prog 95 #[.int .i64 i] w λe w'=>e= .returned (.bool (decide (0<=i/\i<32)))/\w=w':=by
 have y:=ar (ju i);by_cases h:0<=i/\i<32
 ·rw[bh h]
  have z:0<=fA i:=by unfold fA;rw[aA (by omega)];omega
  clear h;go_enter func95,ntmps95;go_wp2_with fail;refine(y.out _).mono ?_;rintro e w' ⟨rfl,rfl⟩;go_wp2_with fail;go_ret;exact⟨rfl,rfl⟩
 ·rw[aM h]
  have z:¬0<=fA i:=by unfold fA;rw[aB (by omega)];omega
  clear h;go_enter func95,ntmps95;go_wp2_with fail;refine(y.out _).mono ?_;rintro e w' ⟨rfl,rfl⟩;go_wp2_with fail;go_ret;refine⟨?_,rfl⟩;show Ending.returned (.bool (decide (0<=fA i)))=_;rw[aM (by omega)]
theorem M0:(prog.info? 148).map (·.size)=some 2:=by kernel_rfl
theorem V3{b:Value}(h:bf w g #[a,b] 148):(loadVar 148 ⟨g,0,none⟩).run prog w= .ok (.agg #[a,b]) w:=by
 have :=bE (P:= prog) (w:=w) g 0 [a,b] underlying148 rfl M0 λj y=>by
  rw[aV,h.cell,<-cE]
 simpa using this
theorem CF{b c d:Value}(y:bf w g #[c,d] 148)(G:a.oneCell'=true)(z:b.oneCell'=true):
  ∃w',(storeVar 148 ⟨g,0,none⟩ (.agg #[a,b])).run prog w= .ok () w'/\bf w' g #[a,b] 148/\ay [g] w w':=
 bo (P:= prog) (ty:= 148) (cs:=[a,b]) M0 y rfl (by intro v h;simp at h;rcases h with rfl|rfl<;>assumption)
def LC (w:World) (k:Int) (e:Ending) (w':World):Prop:=
 ay [] w w'/\∃a b,a.oneCell'=true/\b.oneCell'=true/\e= .returned (.tuple #[.agg #[a,b],.bool (decide (k=1\/k=2))])/\
  (k=1->a=(.func (.func 143) #[] #[])/\b=(.func (.func 144) #[] #[]))/\(k=2->a=(.func (.func 145) #[] #[])/\b=(.func (.func 146) #[] #[]))
theorem zV (k:Int)(w:World):Calls prog 100 #[.int .i64 k] w (LC w k):=by
 have aa:=bf.new w #[.nilFunc,.nilFunc] 148;have eo:ay [] w (w.alloc (.cells #[.nilFunc,.nilFunc] 148)):=(ay.refl _ _).alloc _;have z:Hid (∀a b:Value,a.oneCell'=true->b.oneCell'=true->∃w',(storeVar 148 ⟨w.heap.size,0,none⟩ (.agg #[a,b])).run prog (w.alloc (.cells #[.nilFunc,.nilFunc] 148))= .ok () w'/\(loadVar 148 ⟨w.heap.size,0,none⟩).run prog w'= .ok (.agg #[a,b]) w'/\ay [] w w'):=λa b U V=>by
  obtain⟨w',q1,q2,q3⟩:=CF aa U V;exact⟨w',q1,V3 q2,eo.trans q3 (by simp)⟩
 clear aa eo;by_cases U:k=1
 ·subst U
  obtain⟨w1,y,G,J⟩:=z.out (.func (.func 143) #[] #[]) (.func (.func 144) #[] #[]) rfl rfl;have HS:=ar y;have W:=ar G;have Z:=ar J;clear y G J z;go_enter func100,ntmps100;go_wp2_with(with_reducible refine gS 148 HS.out ?_);refine aL (dc results100 rfl W.out rfl) rfl ?_;exact⟨Z.out,_,_,rfl,rfl,rfl,λ_=>⟨rfl,rfl⟩,λh=>by omega⟩
 ·by_cases V:k=2
  ·subst V
   obtain⟨w1,y,G,J⟩:=z.out (.func (.func 145) #[] #[]) (.func (.func 146) #[] #[]) rfl rfl;have HS:=ar y;have W:=ar G;have Z:=ar J;clear y G J z U;go_enter func100,ntmps100;go_wp2_with(with_reducible refine gS 148 HS.out ?_);refine aL (dc results100 rfl W.out rfl) rfl ?_;exact⟨Z.out,_,_,rfl,rfl,rfl,λh=>by omega,λ_=>⟨rfl,rfl⟩⟩
  ·obtain⟨w1,y,G,J⟩:=z.out .nilFunc .nilFunc rfl rfl
   have HS:=ar y;have W:=ar G;have Z:=ar J;have e1:(k==1)=false:=by simpa using U
   have e2:(k==2)=false:=by simpa using V
   have HD:Hid (decide (k=1\/k=2)=false):=aM (by omega);have H1:=ar U;have H2:=ar V;clear y G J z U V;go_enter func100,ntmps100;go_wp2_with(with_reducible refine gS 148 HS.out ?_);refine aL (dc results100 rfl W.out rfl) rfl ?_;refine⟨Z.out,.nilFunc,.nilFunc,rfl,rfl,?_,λh=>absurd h H1.out,λh=>absurd h H2.out⟩;rw[HD.out];rfl
def pI (b:Nat) (i:Int):Value:= .agg #[.pointer (some ⟨b,0,none⟩),.int .i64 i]
def Gr (w:World) (b:Nat) (i:Int):World:=(w.alloc (.cells #[.pointer (some ⟨b,0,none⟩),.int .i64 i] 152)).alloc (.cells (aU cX (.slice none 0 0)) 111)
theorem xJ (w:World)(b:Nat)(i:Int):ay [] w (Gr w b i)/\bf (Gr w b i) (w.heap.size+1) (aU cX (.slice none 0 0)) 111 :=by
 refine⟨((ay.refl _ _).alloc _).alloc _,?_⟩;have :=bf.new (w.alloc (.cells #[.pointer (some ⟨b,0,none⟩),.int .i64 i] 152)) (aU cX (.slice none 0 0)) 111;rwa[show(w.alloc (.cells #[.pointer (some ⟨b,0,none⟩),.int .i64 i] 152)).heap.size=w.heap.size+1 by simp] at this
theorem CG{z y:World}{h:Nat}(W:bf z h (aU cX (.slice none 0 0)) 111)(hw:w.heap.size<=h)(V:ay [] w z)(J:ay [] z y){n:bN}{v:Value}(G:n.B.length=13)(Z:v.oneCell'=true):
  ∃w',(storeVar 111 ⟨h,0,none⟩ (.agg (aU n v))).run prog y= .ok () w'/\(loadVar 111 ⟨h,0,none⟩).run prog w'= .ok (.agg (aU n v)) w'/\ay [h] y w'/\ay [] w w':=by
 obtain⟨w',q1,q2,q3⟩:=uA (W.keep J (by simp)) rfl G Z;exact⟨w',q1,cC q2 G,q3,(V.trans' J).trans q3 (by intro x U;rw[au] at U;omega)⟩
theorem LD (h:eT w b gp B ps)(J:In64 (az B ps))(i:Int):
  Calls prog 143 #[pI b i] w (jv w (az B ps) i):=by
 obtain⟨eo,W⟩:=xJ w b i;have HR:=ar (VC (h.keep eo (by simp) (by simp)) J i);have nW:=ar W;have xB:=fu;have gH:=ar eo;clear h J eo W;unfold pI;generalize G:Gr w b i=W0 at *;have V:(w.alloc (.cells #[.pointer (some ⟨b,0,none⟩),.int .i64 i] 152)).alloc (.cells (aU cX (.slice none 0 0)) 111)=W0:=G;have nX:=ar V;clear G V;go_enter func143,ntmps143;go_wp2_with fail;rw[nX.out];refine HR.out.mono ?_;rintro e w2 ⟨n,v,g,own,va,ga,ok,rfl,hB,hE,hg,hO,sG,IU,DG,hk⟩;obtain⟨w3,U,oa,y,z⟩:=CG nW.out (by omega) gH.out hk hB (qP hE);have HS:=ar U;have HL:=ar oa;have HP:Hid (jv w (az B ps) i (.returned (.tuple #[.agg (aU n v),va,.bool ok])) w3):=by
  have hz:=gH.out.size;refine⟨n,v,g,own,va,ga,ok,rfl,hB,hE.keep y (λh0=> ?_),by omega,hO.keep y ?_,by omega,IU,DG,z⟩
  ·have :=nW.out.lt
   simp;omega
  ·have :=nW.out.lt
   simp;omega
 clear U oa y z hE hO IU DG hk HR gH nW;generalize aU n v=Z at *;go_wp2_with(with_reducible refine gS 111 HS.out ?_);exact aL (bB results143 rfl HL.out rfl rfl) rfl HP.out
theorem LF (h:eT w b gp B ps)(J:yY (az B ps))(i:Int):
  Calls prog 145 #[pI b i] w (oV w (az B ps) i):=by
 obtain⟨eo,W⟩:=xJ w b i;have HR:=ar (SV (h.keep eo (by simp) (by simp)) J i);have nW:=ar W;have xB:=fu;have gH:=ar eo;clear h J eo W;unfold pI;generalize G:Gr w b i=W0 at *;have V:(w.alloc (.cells #[.pointer (some ⟨b,0,none⟩),.int .i64 i] 152)).alloc (.cells (aU cX (.slice none 0 0)) 111)=W0:=G;have nX:=ar V;clear G V;go_enter func145,ntmps145;go_wp2_with fail;rw[nX.out];refine HR.out.mono ?_;rintro e w2 ⟨n,v,g,own,va,ga,ok,rfl,hB,hE,hg,hO,sG,hk,IU,DG⟩;obtain⟨w3,U,oa,y,z⟩:=CG nW.out (by omega) gH.out hk hB (qP hE);have HS:=ar U;have HL:=ar oa;have HP:Hid (oV w (az B ps) i (.returned (.tuple #[.agg (aU n v),va,.bool ok])) w3):=by
  have hz:=gH.out.size;refine⟨n,v,g,own,va,ga,ok,rfl,hB,hE.keep y (λh0=> ?_),by omega,hO.keep y ?_,by omega,z,IU,DG⟩
  ·have :=nW.out.lt
   simp;omega
  ·have :=nW.out.lt
   simp;omega
 clear U oa y z hE hO IU DG hk HR gH nW;generalize aU n v=Z at *;go_wp2_with(with_reducible refine gS 111 HS.out ?_);exact aL (bB results145 rfl HL.out rfl rfl) rfl HP.out
end Go.Proofs.YtepbpdipenedhaaGreatDoor
