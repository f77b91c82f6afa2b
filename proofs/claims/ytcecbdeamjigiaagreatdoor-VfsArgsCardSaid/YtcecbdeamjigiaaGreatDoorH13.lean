/- Lemmas. -/
import Derived.Test.YtcecbdeamjigiaaGreatDoorH12
set_option maxHeartbeats 8000000
set_option maxRecDepth 100000
namespace Go.Proofs.YtcecbdeamjigiaaGreatDoor
open Go.RowKit
variable{own:List Nat}{B L R X Y:List Int}{w:World}{b g gp:Nat}{ps:List (Int×Int)}{n n':bM}{i j:Int}{a:Value}
def tH (X L:List Int) (n:bM) (own:List Nat):Prop:=
 ((gq L).K=1/\∃l,oV X L l own/\n={ gq L with B:=l })\/
 ((gq L).K=2/\∃E h,S7 X L=some (own,E)/\pH own E/\h.Perm E/\(∀i j,i<j->j<h.length->Op.bytesLess (eh h j).toList (eh h i).toList=false)/\n={ gq L with E:=h })
def zG (w:World) (X L:List Int) (e:Ending) (w':World):Prop:=
 ∃n v g own y h ok,e= .returned (.tuple #[.agg (aU n v),y,.bool ok])/\n.B.length=13/\bz w' v g n.E/\w.heap.size<=g/\jL w' y h own/\w.heap.size<=h/\ay [] w w'/\
  (ok=true->tH X L n own/\own.length<=24/\(∀c,c∈own->0<c/\c<256)/\n.E.length<=72/\∀k,k<n.E.length->(eh n.E k).size<=7)/\(ok=false->∀n' z,¬tH X L n' z)
theorem O5{E y:List (ByteArray×Int)}(h:pH own E)(z:y.Perm E):y.length<=72/\∀k,k<y.length->(eh y k).size<=7:=by
 refine⟨by have :=z.length_eq;have :=h.ents;have :=h.len;omega,λk G=> ?_⟩;exact h.size _ (z.mem_iff.1 (Ru G))
theorem EI{l:List Int}(h:oV X L l own):own.length<=24/\∀c,c∈own->0<c/\c<256:=by
 rcases h with ⟨-,rfl,-⟩|⟨b,-,G,z,rfl,-⟩
 ·exact⟨by simp,λc y=>by simp at y⟩
 ·exact⟨by simp,λc y=>by rw[au] at y;omega⟩
theorem Lr (K1:eF w b gp B ps)(Ao:yB (az B ps)){L:List Int}(hL:L.length=8)(uz:yB L):
  Calls Tryz.prog 195 #[.pointer (some ⟨b,0,none⟩),.agg (aR L).toArray] w (zG w (az B ps) L):=by
 obtain⟨W0,Z⟩:∃W0,W0=(w.alloc (.cells (aR L).toArray 188)).alloc (.cells (aU cB (.slice none 0 0)) 110):=⟨_,rfl⟩;have ag:bm W0 w.heap.size (aR L).toArray 188 :=by
  rw[Z];exact(bm.new w _ _).alloc _
 have rW:bm W0 (w.heap.size+1) (aU cB (.slice none 0 0)) 110 :=by
  have :=bm.new (w.alloc (.cells (aR L).toArray 188)) (aU cB (.slice none 0 0)) 110;have e:(w.alloc (.cells (aR L).toArray 188)).heap.size=w.heap.size+1:=by simp
  rw[e] at this;rw[Z];exact this
 have ez:ay [] w W0:=by
  rw[Z];exact((ay.refl _ _).alloc _).alloc _
 have p8:=eV;have BD:=ar (ea ag hL);have UE:=ar (yt L hL (uz 0) (uz 1) W0);have nv:=ar Z;have fS:=ar ez;have qb:=ar ag;have KW:=ar rW;have aM:Hid (∀wx,ay [] w wx->Calls Tryz.prog 210 #[.pointer (some ⟨b,0,none⟩),.agg (aR L).toArray] wx (mH wx (az B ps) L)):=λwx hk=>by
  have h7:=uz 7;by_cases h:L.getD 7 0<9223372036854775808
  ·exact DA hL uz h
  ·by_cases hb:L.getD 7 0-9223372036854775808=0\/256<=L.getD 7 0-9223372036854775808
   ·exact F7 hL (bi:=L.getD 7 0-9223372036854775808) (by omega) (by omega) hb h7.2
   ·exact DB (K1.keep hk (by simp) (by simp)) Ao hL uz (c:=(L.getD 7 0-9223372036854775808).toNat) (by omega) (by omega) (by omega)
 have aH:Hid (∀wx,ay [] w wx->Calls Tryz.prog 211 #[.pointer (some ⟨b,0,none⟩),.agg (aR L).toArray] wx (ui wx (az B ps) L)):=λwx hk=>Lq (K1.keep hk (by simp) (by simp)) Ao hL uz
 have HL:=ar hL;have aO:W0.heap.size=w.heap.size+1+1:=by rw[Z];simp
 have rC:(gq L).B.length=13:=by simp[gq]
 have yj:Hid ((gq L).E=[]/\(gq L).B=List.replicate 13 0):=⟨rfl,rfl⟩;clear ag rW ez Z K1 Ao hL uz;generalize az B ps=X at *;generalize av:(aR L).toArray=ZL at *;have RN:=ar av;clear av;obtain⟨G,ak⟩:∃G,G=gq L:=⟨_,rfl⟩;rw[<-ak] at UE rC yj;have Sv:=ar ak;clear ak;generalize aC:aU cB (.slice none 0 0)=Z0 at *;have AO:=ar aC;clear aC;have O6:Z0.size=18:=by rw[<-AO.out];rfl
 go_enter Tryz.func195,Tryz.ntmps195;go_wp2_with((with_reducible show wpList _ _ _ (⟨_,.load 188 (.tmp 3),_,_,_,_⟩::_) _ _);rw[<-nv.out];refine eU rfl 188 (.tmp 3) rfl _ rfl _ BD.out ?_);refine UE.out.mono ?_;rintro e w1 ⟨rfl,dc⟩;obtain⟨w2,aB,GM,aA⟩:=br (P:= Tryz.prog) (ty:= 110) (cs:=lL G (.slice none 0 0)) (by rw[fC,rC];exact gZ) (bm.new w1 Z0 110) (by rw[O6,fC,rC]) (jg rfl);have aq:=dc.size;have ah:bm w2 w1.heap.size (aU G (.slice none 0 0)) 110 :=GM;have cK:w2.cell? ⟨w1.heap.size,1,none⟩=some (.int .i64 G.K):=by rw[ah.cell];exact(jo _ rC).f1
 have fj:Hid (ay [] W0 w2):=(dc.alloc (.cells Z0 110)).trans aA (by intro x hx;rw[au] at hx;omega);have lX:Hid (∀wz n v g own vo go ok,ay [w1.heap.size] w2 wz->bm wz w1.heap.size (aU n v) 110->n.B.length=13->bz wz v g n.E->w.heap.size<=g->(n.E.length≠0->g≠w.heap.size+1)->jL wz vo go own->w.heap.size<=go->go≠w.heap.size+1->
   (ok=true->tH X L n own/\own.length<=24/\(∀c,c∈own->0<c/\c<256)/\n.E.length<=72/\∀k,k<n.E.length->(eh n.E k).size<=7)->(ok=false->∀n' cD,¬tH X L n' cD)->
   (loadVar 110 ⟨w1.heap.size,0,none⟩).run Tryz.prog wz= .ok (.agg (aU n v)) wz/\∃w',(storeVar 110 ⟨w.heap.size+1,0,none⟩ (.agg (aU n v))).run Tryz.prog wz= .ok () w'/\(loadVar 110 ⟨w.heap.size+1,0,none⟩).run Tryz.prog w'= .ok (.agg (aU n v)) w'/\zG w X L (.returned (.tuple #[.agg (aU n v),vo,.bool ok])) w'):=by
  intro wz n v g own vo go ok hk hb hn hE hg aL hO ac aI h1 h2;have Z3:v.oneCell'=true:=by
   obtain⟨a,c,rfl,-⟩:=hE;rfl
  obtain⟨w',q1,q2,q3⟩:=br (P:= Tryz.prog) (ty:= 110) (cs:=lL n v) (by rw[fC,hn];exact gZ) ((KW.out.keep fj.out (by simp)).keep hk (by rw[au];omega)) (by rw[O6,fC,hn]) (jg Z3);refine⟨cH hb hn,w',q1,cH q2 hn,n,v,g,own,vo,go,ok,rfl,hn,hE.keep q3 (λh0=>by rw[au];exact aL h0),hg,hO.keep q3 (by rw[au];exact aI),ac,?_,h1,h2⟩;exact((fS.out.trans' fj.out).trans hk (by intro x hx;rw[au] at hx;omega)).trans q3 (by intro x hx;rw[au] at hx;omega)
 have Ak:=ar aB;have KN:=ar ah;have zC:Hid ((loadVar 188 ⟨w.heap.size,0,none⟩).run Tryz.prog w2= .ok (.agg ZL) w2):=by
  have :=qb.out.keep fj.out (by simp);rw[<-RN.out] at this ⊢;exact ea this HL.out
 have aP:=ar aq;have I1:=ar (fS.out.trans' fj.out);clear aB GM ah aA dc aq UE BD;generalize QF:w1.heap.size=g7 at *;by_cases MH:G.K=1
 ·rw[MH] at cK
  go_wp2_with(first|(with_reducible refine gS 110 Ak.out ?_)|(with_reducible refine gL 188 zC.out ?_));refine(aM.out _ I1.out).mono ?_;rintro e w3 ⟨l,vo,go,own,ok,rfl,oT,af,ac,aD,y,h1,h2⟩;obtain⟨w4,ax,J,z⟩:=MP (KN.out.keep y (by simp)) rC oT;have aJ:w.heap.size+1<w2.heap.size:=by have :=fj.out.size;omega
  obtain⟨ny,w5,Tb,Tc,Td⟩:=lX.out w4 { G with B:=l } (.slice none 0 0) w.heap.size own vo go ok ((y.mono (by simp)).trans' z) J oT (by
   show bz w4 _ _ G.E;rw[yj.out.1];exact bz.nil _ _) (aG _) (by
   show G.E.length≠0->_;rw[yj.out.1];intro h;exact absurd rfl h) (af.keep z (by have :=KN.out.lt;rw[au];omega)) (by have :=I1.out.size;omega) (by omega) (λgW=>by
    have V:=h1 gW;refine⟨.inl ⟨by rw[<-Sv.out];exact MH,l,V,by rw[<-Sv.out]⟩,(EI V).1,(EI V).2,?_,?_⟩
    ·show G.E.length<=72
     rw[yj.out.1];simp
    ·show ∀k,k<G.E.length->_
     rw[yj.out.1];intro k hk;simp at hk) (λgW n' cD V=>by
    rcases V with ⟨-,l',V,-⟩|⟨W,-⟩
    ·exact h2 gW l' cD V
    ·rw[<-Sv.out] at W;omega)
  have wj:=ar ax;have nJ:=ar ny;have zz:=ar Tb;have Ey:=ar Tc;have U:=ar Td;clear ax J z ny Tb Tc Td af ac aD y h1 h2;generalize aU { G with B:=l } (.slice none 0 0)=ZN at *;go_wp2_with(first|(with_reducible refine gS 108 wj.out ?_)|(with_reducible refine gL 110 nJ.out ?_)|(with_reducible refine gS 110 zz.out ?_));exact aK (bE Tryz.results195 rfl Ey.out rfl rfl) rfl U.out
 ·by_cases W:G.K=2
  ·rw[W] at cK
   have aJ:w.heap.size+1<w2.heap.size:=by have :=fj.out.size;omega
   go_wp2_with(first|(with_reducible refine gS 110 Ak.out ?_)|(with_reducible refine gL 188 zC.out ?_));refine(aH.out _ I1.out).mono ?_;rintro e w3 (⟨own,E,E',ve,ge,vo,go,rfl,aa,UI,aj,ap,ai,Ac,af,ac,y⟩|⟨rfl,aa,y⟩)
   ·have BJ:=KN.out.keep y (by simp)
    have J:=F0 (u:=ve) (E:=E') BJ rC;have z:ay [g7] w3 (w3.setCell ⟨g7,17,none⟩ ve):=(ay.refl _ _).setCell (.inl (by simp)) _;have pn:=O5 UI aj;have aS:=KN.out.lt;obtain⟨ny,w5,Tb,Tc,Td⟩:=lX.out (w3.setCell ⟨g7,17,none⟩ ve) { G with E:=E' } ve ge own vo go true ((y.mono (by simp)).trans' z) J rC (ai.keep z (λ_=>by rw[au];omega)) (by omega) (λ_=>by omega) (af.keep z (by rw[au];omega)) (by omega) (by omega) (λ_=>⟨.inr ⟨by rw[<-Sv.out];exact W,E,E',aa,UI,aj,ap,by rw[<-Sv.out]⟩,UI.len,UI.num,pn.1,pn.2⟩) (λh=>by cases h);have aN:w3.cell? ⟨g7,17,none⟩=some (.slice none 0 0):=by rw[BJ.cell];exact vk _ rC
    have aF:w3.frozen? ⟨g7,17,none⟩=false:=BJ.frozen 17;obtain⟨ae,ce,rfl,-,-,-⟩:=ai.open;have nJ:=ar ny;have zz:=ar Tb;have Ey:=ar Tc;have U:=ar Td;clear BJ J z pn ny Tb Tc Td aa UI aj ap ai Ac af ac y;generalize aU { G with E:=E' } (.slice ae E'.length ce)=ZN at *;go_wp2_with(first|(with_reducible refine gL 110 nJ.out ?_)|(with_reducible refine gS 110 zz.out ?_));exact aK (bE Tryz.results195 rfl Ey.out rfl rfl) rfl U.out
   ·have BJ:=KN.out.keep y (by simp)
    have J:=F0 (u:= .slice none 0 0) (E:=[]) BJ rC;have z:ay [g7] w3 (w3.setCell ⟨g7,17,none⟩ (.slice none 0 0)):=(ay.refl _ _).setCell (.inl (by simp)) _;obtain⟨ny,w5,Tb,Tc,Td⟩:=lX.out (w3.setCell ⟨g7,17,none⟩ (.slice none 0 0)) { G with E:=[] } (.slice none 0 0) w.heap.size [] (.slice none 0 0) w.heap.size false ((y.mono (by simp)).trans' z) J rC (bz.nil _ _) (aG _) (λh=>absurd rfl h) (jL.nil _ _) (aG _) (by omega) (λh=>by cases h) (λ_ n' cD V=>by
     rcases V with ⟨aw,-⟩|⟨-,E,E',V,-⟩
     ·rw[<-Sv.out] at aw;omega
     ·rw[aa] at V;cases V)
    have aN:w3.cell? ⟨g7,17,none⟩=some (.slice none 0 0):=by rw[BJ.cell];exact vk _ rC
    have aF:w3.frozen? ⟨g7,17,none⟩=false:=BJ.frozen 17;have nJ:=ar ny;have zz:=ar Tb;have Ey:=ar Tc;have U:=ar Td;clear BJ J z ny Tb Tc Td aa y;generalize aU { G with E:=[] } (.slice none 0 0)=ZN at *;go_wp2_with(first|(with_reducible refine gL 110 nJ.out ?_)|(with_reducible refine gS 110 zz.out ?_));exact aK (bE Tryz.results195 rfl Ey.out rfl rfl) rfl U.out
  ·have aw:(G.K==1)=false:=by simpa using MH
   have aQ:(G.K==2)=false:=by simpa using W
   obtain⟨ny,w5,Tb,Tc,Td⟩:=lX.out w2 G (.slice none 0 0) w.heap.size [] (.slice none 0 0) w.heap.size false (ay.refl _ _) KN.out rC (by rw[yj.out.1];exact bz.nil _ _) (aG _) (by rw[yj.out.1];intro h;exact absurd rfl h) (jL.nil _ _) (aG _) (by omega) (λh=>by cases h) (λ_ n' cD V=>by
    rcases V with ⟨h1,-⟩|⟨h1,-⟩
    ·rw[<-Sv.out] at h1;exact MH h1
    ·rw[<-Sv.out] at h1;exact W h1)
   have nJ:=ar ny;have zz:=ar Tb;have Ey:=ar Tc;have U:=ar Td;clear ny Tb Tc Td;generalize G.K=K at *;go_wp2_with(first|(with_reducible refine gS 110 Ak.out ?_)|(with_reducible refine gL 110 nJ.out ?_)|(with_reducible refine gS 110 zz.out ?_));exact aK (bE Tryz.results195 rfl Ey.out rfl rfl) rfl U.out
def xm (X:List Int) (i:Int) (n:bM) (own:List Nat):Prop:=
 (0<=i/\i<32)/\tH X (eO X i) n own/\n.F=2/\bP n/\own.length=dU n/\ma X (eO X i) n own
def oh (w:World) (X:List Int) (i:Int) (e:Ending) (w':World):Prop:=
 ∃n v g own y h ok,e= .returned (.tuple #[.agg (aU n v),y,.bool ok])/\n.B.length=13/\bz w' v g n.E/\w.heap.size<=g/\jL w' y h own/\w.heap.size<=h/\ay [] w w'/\
  (ok=true->xm X i n own/\own.length<=24/\(∀c,c∈own->0<c/\c<256)/\n.E.length<=72/\∀k,k<n.E.length->(eh n.E k).size<=7)/\(ok=false->n=cB/\own=[]/\∀n' z,¬xm X i n' z)
theorem EJ {lt:ByteArray×Int->ByteArray×Int->Bool}:∀(l2 y:List (ByteArray×Int)),y.Perm l2->y.Pairwise (λa b=>lt b a=false)->l2.Pairwise (λa b=>lt a b=true)->y=l2
 | [],y,hp,_,_=>hp.eq_nil
 |b::t2,[],hp,_,_=>by have :=hp.length_eq;simp at this
 |b::t2,a::t1,hp,h1,h2=>by
  rw[List.pairwise_cons] at h1 h2;by_cases e:a=b
  ·subst e
   rw[EJ t2 t1 (List.Perm.cons_inv hp) h1.2 h2.2]
  ·exfalso
   have G:a∈t2:=by
    rcases aS.1 (hp.mem_iff.1 (iv ..)) with h|h
    ·exact absurd h e
    ·exact h
   have J:b∈t1:=by
    rcases aS.1 (hp.mem_iff.2 (iv ..)) with h|h
    ·exact absurd h.symm e
    ·exact h
   have U:=h2.1 a G;have z:=h1.1 b J;rw[U] at z;cases z
theorem Ga (E:List (ByteArray×Int))(i:Nat)(h:i<E.length):E[i]=(eh E i,gT E i):=by
 simp[eh,gT,h]
theorem vJ (h:lM n):n.E.Pairwise (λa b=>Op.bytesLess a.1.toList b.1.toList=true):=by
 have z:∀k,k+1<n.E.length->Op.bytesLess (eh n.E k).toList (eh n.E (k+1)).toList=true:=λk U=>by
  have J:=(h.2.2.2 (k+1) U).2.2 (by omega);rw[fw,RD,Bool.or_eq_false_iff] at J;exact oO _ _ J.1 (λe=>by have :=J.2;rw[e] at this;simp at this)
 have y:∀d i,i+1+d<n.E.length->Op.bytesLess (eh n.E i).toList (eh n.E (i+1+d)).toList=true:=by
  intro d;induction d with
  |zero=>exact λi G=>z i G
  |succ d ih=>exact λi G=>lh _ _ _ (ih i (by omega)) (z (i+1+d) G)
 rw[cz];intro i j G V W;rw[Ga _ i G,Ga _ j V];have :=y (j-i-1) i (by omega);rwa[show i+1+(j-i-1)=j by omega] at this
theorem tH.uniq{V:List Nat}(h:tH X L n own)(U:tH X L n' V)(hR:bP n'):n'=n/\V=own:=by
 rcases h with ⟨h1,l,G,rfl⟩|⟨h1,E,W,G,-,h3,h4,rfl⟩
 ·rcases U with ⟨z,l',y,rfl⟩|⟨z,-⟩
  ·obtain⟨rfl,rfl⟩:=G.inj y
   exact⟨rfl,rfl⟩
  ·omega
 ·rcases U with ⟨z,-⟩|⟨z,F,J,y,-,g3,g4,rfl⟩
  ·omega
  ·rw[G] at y
   cases y;have hd:lM { gq L with E:=J }:=(hR.2.2.resolve_left (λh=>by have :(gq L).K=1:=h.1;omega)).2;have e:W=J:=by
    refine EJ (lt:=λa b=>Op.bytesLess a.1.toList b.1.toList) J W (h3.trans g3.symm) ?_ (vJ hd);rw[cz];intro i j hi Z OT;rw[Ga _ i hi,Ga _ j Z];exact h4 i j OT Z
   subst e;exact⟨rfl,rfl⟩
def MZ (E:List (ByteArray×Int)):Prop:=∀k,k<E.length->fN (bl (eh E k))=true/\0<=gT E k/\gT E k<=31
theorem Te{c:List (ByteArray×Int)}(h3:c.length<=3)(U:MZ c)(x:Int):lj (ux (dR c) x)=c.length/\mM (iK (ux (dR c) x)) (lj (ux (dR c) x))/\jq (iK (ux (dR c) x)) (lj (ux (dR c) x))=c:=by
 have z:lj (ux (dR c) x)=c.length:=by
  refine EF h3 (λj hj=> ?_) ?_
  ·rw[lF,Nat.mul_comm,(rh c j hj).1]
   have :=IQ (U j hj).1;omega
  ·rcases (show c.length=3\/c.length<3 by omega) with h|h
   ·exact .inl h
   ·right
    rw[lF,aj,aO (by rw[iZ];omega)];rfl
 have W:∀i,i<2*c.length->(iK (ux (dR c) x)).getD i 0=(dR c).getD i 0:=λi hi=>by
  rw[<-lF (dR c) x i,iK,z,aj,bN,aB hi,bX,aj,Nat.add_comm]
 have Z:∀k,k<c.length->(iK (ux (dR c) x)).getD (k*2) 0=((iY (bl (eh c k)):Nat):Int)/\(iK (ux (dR c) x)).getD (k*2+1) 0=gT c k/\iL (iY (bl (eh c k)))=some (bl (eh c k)):=λk y=>by
  rw[W _ (by omega),W _ (by omega)];obtain⟨J,G⟩:=rh c k y;refine⟨J,G,?_⟩;unfold iY;rw[aB (U k y).1];exact lq (U k y).1 (wO _)
 refine⟨z,λk y=> ?_,?_⟩
 ·rw[z] at y
  obtain⟨J,G,V⟩:=Z k y;rw[J,G,aH,V];have :=(U k y).2;exact⟨rfl,by omega⟩
 ·refine Rv (by rw[gU,z]) λk y=> ?_
  rw[gU,z] at y;obtain⟨J,G,V⟩:=Z k y;obtain⟨g1,g2⟩:=yh (iK (ux (dR c) x)) (lj (ux (dR c) x)) k (by rw[z];exact y);rw[g1,g2,J,G,aH,V];exact⟨Az _,rfl⟩
theorem Cl (h:lM n)(b:Nat):MZ (dA n.E b):=λk J=>by
 obtain⟨j,y,G,z⟩:=AH J;rw[G,z];exact⟨(h.2.2.2 j y).1,(h.2.2.2 j y).2.1⟩
theorem Wk{l:List (ByteArray×Int)}(h:MZ l)(x:Nat):MZ (tZ l x):=λk J=>by
 obtain⟨z,G,y⟩:=AG l x k J;rw[G,y];exact h _ z
def uA (E:List (ByteArray×Int)):Nat->List (ByteArray×Int)
 |0=>[]
 |b+1=>uA E b++dA E b
theorem Wl (l:List (ByteArray×Int))(j:Nat):l.take (3*j)++tZ l j=l.take (3*(j+1)):=by
 unfold tZ;rw[show 3*(j+1)=3*j+3 by omega,List.take_add]
theorem Lt{l:List Nat}{j:Nat}(h:j<l.length):l.take j++[l.getD j 0]=l.take (j+1):=by
 rw[bt h];simp[h]
theorem Lu (hK:n.K=2)(hD:lM n)(ho:own.length=eL n.E 4)(Ka:own.length<=24)(hm:∀c∈own,c≠0/\c<256)(V:ma X R n own){b:Nat}(U:b<4):
  ∀d j fuel,j+d=dN n.E b->d<fuel->jO X fuel (if j<dN n.E b then ((own.getD (eL n.E b+j) 0:Nat):Int) else 0) (own.take (eL n.E b+j)) (uA n.E b++(dA n.E b).take (3*j))=some (own.take (eL n.E (b+1)),uA n.E (b+1)):=by
 have J:=qg n.E (show b+1<=4 by omega);intro d;induction d with
 |zero=>
  intro j fuel hj hf;obtain⟨f,rfl⟩:∃f,fuel=f+1:=⟨fuel-1,by omega⟩;obtain rfl:j=dN n.E b:=by omega
  rw[aA (Nat.lt_irrefl _),jO,aB rfl,eL,uA,aQ (l:=dA n.E b) (by unfold dN;omega)]
 |succ d ih=>
  intro j fuel hj hf;obtain⟨f,rfl⟩:∃f,fuel=f+1:=⟨fuel-1,by omega⟩;have G:j<dN n.E b:=by omega
  have y:eL n.E b+j<own.length:=by rw[ho];rw[eL] at J;omega
  have hc:=hm _ (ia y);have h:=V.1 _ y;unfold fh at h;rw[aB hK,oa n.E own G U] at h;have z:(own.take (eL n.E b+j)).length=eL n.E b+j:=by rw[aI];omega
  obtain⟨e1,e2,e3⟩:=Te (c:=tZ (dA n.E b) j) (by rw[kF];omega) (Wk (Cl hD b) j) (if j+1<dN n.E b then ((own.getD (eL n.E b+(j+1)) 0:Nat):Int) else 0);have W:X.getD (1080+8*own.getD (eL n.E b+j) 0) 0=if j+1<dN n.E b then ((own.getD (eL n.E b+(j+1)) 0:Nat):Int) else 0:=by
   have :=iJ X (1080+8*own.getD (eL n.E b+j) 0) 0 (by omega);rw[<-h] at this;exact this.symm
  rw[aB G,jO,aA (by omega),z,aA (by omega),aH];have Z:EH X (own.getD (eL n.E b+j) 0):=by
   unfold EH;rw[<-h];exact e2
  have hE:tG X (own.getD (eL n.E b+j) 0)=tZ (dA n.E b) j:=by
   unfold tG;rw[<-h];exact e3
  rw[aB Z,hE,W,Lt y,bf,Wl];exact ih (j+1) f (by omega) (by omega)
theorem I2 (E:List (ByteArray×Int)):∀b,(uA E b).length<=3*eL E b
 |0=>by simp[uA]
 |b+1=>by
  have :=I2 E b;rw[uA,eL,aF,dN];omega
theorem aal (E:List (ByteArray×Int)):eL E 4*3<=(uA E 4).length+8:=by
 simp only[uA,eL,dN,aF,bW];omega
theorem I3:∀E:List (ByteArray×Int),E.Perm (uA E 4)
 | []=>by simp[uA,dA]
 |p::E=>by
  have z:=I3 E;have G:=KQ p;simp only[uA,bW] at z ⊢;have y:∀b,dA (p::E) b=if FQ p=b then p::dA E b else dA E b:=λb=>by
   unfold dA;rw[ft];simp
  rw[y 0,y 1,y 2,y 3];generalize dA E 0=A at *;generalize dA E 1=B at *;generalize dA E 2=C at *;generalize dA E 3=D at *;refine(List.Perm.cons p z).trans ?_;rcases (show FQ p=0\/FQ p=1\/FQ p=2\/FQ p=3 by omega) with h|h|h|h
  ·simp[h]
  ·simp only[h]
   simp only[bf,Nat.one_ne_zero,Nat.reduceEqDiff,↓reduceIte];exact List.perm_middle.symm
  ·simp only[h]
   simp only[bf,Nat.reduceEqDiff,↓reduceIte];have :=(List.perm_middle (a:=p) (l₁:=A++B) (l₂:=C++D)).symm;simpa using this
  ·simp only[h]
   simp only[bf,Nat.reduceEqDiff,↓reduceIte];have :=(List.perm_middle (a:=p) (l₁:=A++B++C) (l₂:=D)).symm;simpa using this
theorem zH {X:List Int}{n:bM}{own:List Nat}(y:n.K=2)(J:lM n)(V:own.length=eL n.E 4)(z:own.length<=24)(U:∀c∈own,c≠0/\c<256)(G:ma X (kR n own) n own):
  ∀b,b<=4->oW X (kR n own) b=some (own.take (eL n.E b),uA n.E b)
 |0,_=>by simp[oW,eL,uA]
 |b+1,hb=>by
  have h:=qg n.E (show b+1<=4 by omega);rw[eL] at h;rw[oW,zH y J V z U G b (by omega)];show jO X (25-(own.take (eL n.E b)).length) ((kR n own).getD (2+b) 0) (own.take (eL n.E b)) (uA n.E b)=_;have :=Lu y J V z U G (show b<4 by omega) (dN n.E b) 0 (25-eL n.E b) (by omega) (by omega);rw[dH,Nat.mul_zero,eX,bq] at this;rw[(Sm y (show b<4 by omega)).1,aI,cy (by omega)];exact this
theorem Wm (y:bP n)(h:R.getD 0 0=lN n)(z:R.getD 1 0=n.S):gq R=⟨n.F,n.K,n.L,n.S,List.replicate 13 0,[]⟩:=by
 rw[<-IL y [] 0];unfold gq;rw[h,z];rfl
theorem aef{A:List Int}(h:A.length=5)(x:Int):(A++[x]).getD 5 0=x/\(A++[x]).take 5=A:=by
 constructor
 ·rw[aj,aM (by omega),h]
  rfl
 ·rw[fp (by omega),aQ (by omega)]
theorem Cm (a b:Int)(l:List Int):(a::b::l).drop 2=l/\(a::b::l).getD 7 0=l.getD 5 0:=⟨rfl,rfl⟩
theorem vK (hB:n.B.length=13)(gW:tE i n)(z:own.length=dU n)(hm:∀c∈own,c≠0/\c<256)(J:ma X (eO X i) n own):xm X i n own:=by
 obtain⟨hi,hF,hR⟩:=gW;refine⟨hi,?_,hF,hR,z,J⟩;have U:=J.2;rw[<-U] at J ⊢;have Ld:=Wm hR (yw n own).1 (yw n own).2;rcases hR.2.2 with ⟨Z,hf⟩|⟨Z,G⟩
 ·left
  rw[Ld];refine⟨Z,n.B,?_,?_⟩
  ·have hr:kR n own=ke n own:=aA (by omega)
   have W:fh n own=iF n:=aA (by omega);have af:(eB n.B).length<=13:=jM n.B 13;have pG:∀k,k<13->0<=n.B.getD k 0/\n.B.getD k 0<256:=λk V=>(hf.2.2.2 k V).1
   rw[od hf] at z;by_cases h6:(eB n.B).length<=6
   ·left
    have uP:ke n own=lN n::n.S::(eB n.B++List.replicate (6-(eB n.B).length) 0):=aB h6;rw[aA (by omega)] at z;rw[hr,uP];refine⟨?_,bg z,?_⟩
    ·rw[(Cm _ _ _).2,aj]
     by_cases h5:5<(eB n.B).length
     ·rw[aW h5,aD h5]
      exact(AK (bp h5)).2
     ·rw[aM (by omega),aY]
      split<;>simp
    ·rw[(Cm _ _ _).1]
     have :=Ch hB pG (6-(eB n.B).length);rwa[show(eB n.B).length+(6-(eB n.B).length)=6 by omega] at this
   ·right
    have uP:ke n own=lN n::n.S::((eB n.B).take 5++[9223372036854775808+((own.getD 0 0:Nat):Int)]):=aA h6;have ae:iF n=[(eB n.B).drop 5++List.replicate (13-(eB n.B).length) 0]:=aA h6;rw[aB (by omega)] at z;obtain⟨c,rfl⟩:=List.length_eq_one_iff.1 z;have hc:=hm c (by simp);have y:=J.1 0 (by simp);rw[W,ae] at y;have y:(eB n.B).drop 5++List.replicate (13-(eB n.B).length) 0=dy X (1080+8*c):=y;have aa:((eB n.B).take 5).length=5:=by rw[aI];omega
    rw[hr,uP];have hg:[c].getD 0 0=c:=rfl;rw[hg];obtain⟨a1,a2⟩:=aef aa (9223372036854775808+((c:Nat):Int));obtain⟨d1,d2⟩:=Cm (lN n) n.S ((eB n.B).take 5++[9223372036854775808+((c:Nat):Int)]);refine⟨c,?_,by omega,hc.2,rfl,?_⟩
    ·rw[d2,a1]
    ·rw[d1,a2,<-y,<-bf,dM]
     have :=Ch hB pG (13-(eB n.B).length);rwa[show(eB n.B).length+(13-(eB n.B).length)=13 by omega] at this
  ·have hE:n.E=[]:=bg hf.2.1
   cases n;simp at hE;subst hE;rfl
 ·right
  rw[Ld];have QH:=z;rw[qq G] at QH;have hp:=I3 n.E;have ag:=hp.length_eq;have xS:=aal n.E;have Ka:=G.1;have MD:=I2 n.E 4;have hs:=zH Z G QH (by omega) hm J 4 (aG _);rw[<-QH,fz] at hs;refine⟨Z,uA n.E 4,n.E,hs,⟨by omega,λc hc=> ?_,by omega,λp Wn=> ?_⟩,hp,λi j OT hj=> ?_,?_⟩
  ·have :=hm c hc
   omega
  ·have ac:=hp.mem_iff.2 Wn
   obtain⟨k,V,rfl⟩:=bR ac;rw[Ga _ k V];have :=(ml (G.2.2.2 k V).1).2;rw[jZ] at this;exact this
  ·have UI:=cz.1 (vJ G) i j (by omega) hj OT
   rw[Ga _ i (by omega),Ga _ j hj] at UI;cases h:Op.bytesLess (eh n.E j).toList (eh n.E i).toList
   ·rfl
   ·have :=lh _ _ _ UI h
    rw[lH] at this;cases this
  ·have W:=G.2.2.1
   cases n;simp at W;subst W;rfl
theorem I4 (h:xm X i n own):own.Nodup:=by
 obtain⟨hi,hs,hF,hR,ho,hL⟩:=h;rcases hR.2.2 with ⟨hK,hf⟩|⟨hK,hD⟩
 ·rw[od hf] at ho
  have :own.length<=1:=by rw[ho];split<;>omega
  match own,this with
  | [],_=>exact List.nodup_nil
  | [c],_=>simp
  |_::_::_,h=>simp at h
 ·rw[qq hD] at ho
  have tv:∀m,m<own.length->∃b j,b<4/\3*j<(dA n.E b).length/\m=eL n.E b+j/\X.getD (1080+8*own.getD m 0+1) 0=((iY (bl (eh (dA n.E b) (3*j))):Nat):Int):=λm IJ=>by
   obtain⟨b,j,hb,J,rfl⟩:=qh n.E (ho▸IJ);have h3:3*j<(dA n.E b).length:=by unfold dN at J;omega
   refine⟨b,j,hb,h3,rfl,?_⟩;have z:=hL.1 _ IJ;unfold fh at z;rw[aB hK,oa n.E own J hb] at z;have h1:=iJ X (1080+8*own.getD (eL n.E b+j) 0) 1 (by omega);rw[<-z,Sd,lF,IB _ _ _ (by omega),aB ⟨by omega,by omega⟩,aB rfl] at h1;exact h1.symm
  rw[List.nodup_iff_pairwise_ne,cz];intro i1 i2 h1 h2 ae he;obtain⟨b,j,hb,J,e1,w1⟩:=tv i1 h1;obtain⟨U,Z,af,G,e2,w2⟩:=tv i2 h2;have Ac:own.getD i1 0=own.getD i2 0:=by simp[h1,h2,he]
  rw[Ac,w2] at w1;have hw:iY (bl (eh (dA n.E U) (3*Z)))=iY (bl (eh (dA n.E b) (3*j))):=by omega
  have g1:=(Cl hD b _ J).1;have g2:=(Cl hD U _ G).1;unfold iY at hw;rw[aB g1,aB g2] at hw;have W:=lq g1 (wO _);rw[<-hw,lq g2 (wO _)] at W;have aa:bl (eh (dA n.E U) (3*Z))=bl (eh (dA n.E b) (3*j)):=Option.some.inj W;have V9:∀q k,k<(dA n.E q).length->nS (bl (eh (dA n.E q) k))=q:=λq k hk=>by
   have :=(List.mem_filter.1 (Ru hk)).2;exact beq_iff_eq.1 this
  have ac:b=U:=by rw[<-V9 b _ J,<-V9 U _ G,aa]
  subst ac;have UX:eh (dA n.E b) (3*Z)=eh (dA n.E b) (3*j):=by rw[<-Az (eh (dA n.E b) (3*Z)),aa,Az]
  have UI:(dA n.E b).Pairwise (λx y=>Op.bytesLess x.1.toList y.1.toList=true):=(vJ hD).filter _;have V:=cz.1 UI (3*j) (3*Z) J G (by omega);rw[Ga _ _ J,Ga _ _ G,UX,lH] at V;cases V
def dI (X:List Int) (i:Int):Prop:=eO X i=List.replicate 8 0
instance (X:List Int) (i:Int):Decidable (dI X i):=by unfold dI;infer_instance
def cN (n:bM):Nat:=if n.F=2 then dU n else dX n
structure dT (X:List Int) (i:Int) (n:bM) (own:List Nat):Prop where
 rng:0<=i/\i<32
 len:n.B.length=13
 right:bP n
 mem:∀c∈own,c≠0/\c<256
 nodup:own.Nodup
 laid:(n.F=1/\own.length=dX n/\B7 X (824+8*i.toNat) n own)\/(n.F=2/\own.length=dU n/\ma X (eO X i) n own)
theorem dT.ownLen(h:dT X i n own):own.length=cN n:=by
 unfold cN;rcases h.laid with ⟨z,y,-⟩|⟨z,y,-⟩
 ·rw[aA (by omega),y]
 ·rw[aB z,y]
theorem I5 (y:bP n):dX n<=7:=by
 have h:=iA y;have :=ry n;omega
theorem Cn (h:bP n):cN n<=32:=by
 have z:=I5 h;have y:=B3 h;unfold cN;split<;>omega
theorem dT.tag(h:dT X i n own):(eO X i).getD 0 0=lN n:=by
 rcases h.laid with ⟨-,-,y⟩|⟨-,-,y⟩
 ·unfold eO
  rw[y.row];rfl
 ·rw[<-y.2]
  exact(yw n own).1
theorem I6 (h:bP n):lN n%256=n.F/\0<lN n:=by
 obtain⟨hF,G,y⟩:=h;have z:n.K=1\/n.K=2:=y.imp (·.1) (·.1);unfold lN;omega
theorem dT.format(h:dT X i n own):(eO X i).getD 0 0%256=n.F:=by
 rw[h.tag];exact(I6 h.right).1
theorem dT.notFree(h:dT X i n own):¬dI X i:=λz=>by
 have y:=h.tag;have G:=(I6 h.right).2;rw[z] at y;simp at y;omega
theorem dT.uniq{Z:List Nat}(h:dT X i n own)(y:dT X i n' Z):n'=n/\Z=own:=by
 have hf:=h.format;have aa:=y.format;rcases h.laid with ⟨U,V,W⟩|⟨U,V,W⟩
 ·rcases y.laid with ⟨G,z,J⟩|⟨G,z,J⟩
  ·obtain⟨-,c1,c2⟩:=yy h.len h.right U V h.mem W
   obtain⟨-,d1,d2⟩:=yy y.len y.right G z y.mem J;exact⟨by rw[<-d1,c1],by rw[<-d2,c2]⟩
  ·omega
 ·rcases y.laid with ⟨G,z,J⟩|⟨G,z,J⟩
  ·omega
  ·have r1:=vK h.len ⟨h.rng,U,h.right⟩ V h.mem W
   have r2:=vK y.len ⟨y.rng,G,y.right⟩ z y.mem J;exact r1.2.1.uniq r2.2.1 y.right
theorem O7 (eT:dD X)(V:0<=i/\i<32)(h:j5 X (eO X i)):dT X i (kW X (eO X i)) (Al X (eO X i)):=by
 obtain⟨J,G,Z,W,y,U,z⟩:=OQ eT (q:=824+8*i.toNat) h;exact⟨V,Z,J,y,U,.inl ⟨G,W,z⟩⟩
theorem O8 (U:n.B.length=13)(Z:∀c∈own,0<c/\c<256)(h:xm X i n own):dT X i n own:=by
 have z:=I4 h;obtain⟨G,h2,h3,V,y,J⟩:=h;exact⟨G,U,V,λc W=>by have :=Z c W;omega,z,.inr ⟨h3,y,J⟩⟩
theorem Gb (h:dT X i n own)(hF:n.F=1):j5 X (eO X i)/\kW X (eO X i)=n/\Al X (eO X i)=own:=by
 rcases h.laid with ⟨y,G,z⟩|⟨y,G,z⟩
 ·exact yy h.len h.right y G h.mem z
 ·omega
theorem Gc (h:dT X i n own)(hF:n.F=2):xm X i n own:=by
 rcases h.laid with ⟨y,G,z⟩|⟨y,G,z⟩
 ·omega
 ·exact vK h.len ⟨h.rng,y,h.right⟩ G h.mem z
theorem yD{p:Nat}(h:∀j,j<8->Y.getD (p+j) 0=X.getD (p+j) 0):dy Y p=dy X p:=by
 unfold dy;apply dQ;intro j y;exact h j (bS.1 y)
theorem dT.same(h:dT X i n own)(Z:∀j,j<8->Y.getD (824+8*i.toNat+j) 0=X.getD (824+8*i.toNat+j) 0)
  (W:∀c∈own,∀j,j<8->Y.getD (1080+8*c+j) 0=X.getD (1080+8*c+j) 0):dT Y i n own:=by
 have U:dy Y (824+8*i.toNat)=dy X (824+8*i.toNat):=yD Z;have V:∀m,m<own.length->dy Y (1080+8*own.getD m 0)=dy X (1080+8*own.getD m 0):=λm y=>yD (W _ (ia y))
 refine⟨h.rng,h.len,h.right,h.mem,h.nodup,?_⟩;rcases h.laid with ⟨G,J,z⟩|⟨G,J,z⟩
 ·exact .inl ⟨G,J,by rw[U];exact z.row,λm y=>by rw[V m y];exact z.own m y⟩
 ·refine .inr ⟨G,J,λm y=>by rw[V m y];exact z.1 m y,?_⟩
  unfold eO;rw[U];exact z.2
theorem dI.same(h:dI X i)(y:∀j,j<8->Y.getD (824+8*i.toNat+j) 0=X.getD (824+8*i.toNat+j) 0):dI Y i:=by
 unfold dI eO at *;rw[yD y];exact h
def bQ (X:List Int):List Nat->List (Int×Int)
 | []=>[]
 |b::l=>dG X b false++bQ (az X (dG X b false)) l
theorem I7 (l:List Nat)(b:Nat):∀X:List Int,bQ X (l++[b])=bQ X l++dG (az X (bQ X l)) b false:=by
 induction l with
 |nil=>intro X;show dG X b false++[]=_;rw[bq];rfl
 |cons c l ih=>
  intro X;show dG X c false++bQ _ (l++[b])=(dG X c false++bQ _ l)++dG (az X (dG X c false++bQ _ l)) b false;rw[ih,bo,bf]
theorem Tf (X:List Int)(b:Nat)(u:Bool):(dG X b u).length<=1:=by
 unfold dG;split<;>simp
theorem vL (l:List Nat):∀X:List Int,(bQ X l).length<=l.length:=by
 induction l with
 |nil=>intro X;exact aG _
 |cons b l ih=>
  intro X;show(dG X b false++bQ _ l).length<=_;have y:=Tf X b false;have h:=ih (az X (dG X b false));rw[aF,bH];omega
theorem iu (l:List Nat):∀X:List Int,dD X->X.length=3128->
  dD (az X (bQ X l))/\(∀c,c<256->c≠0->cT (az X (bQ X l)) c=(cT X c && !decide (c∈l)))/\(∀k,820<=k->(az X (bQ X l)).getD k 0=X.getD k 0):=by
 induction l with
 |nil=>intro X h J;exact⟨h,λc _ _=>by simp[bQ,az],λk _=>rfl⟩
 |cons b l ih=>
  intro X h J;have h1:dD (az X (dG X b false)):=h.put (Hi h b false);have Z:(az X (dG X b false)).length=3128:=by rw[bO,J]
  obtain⟨k1,k2,V⟩:=ih _ h1 Z;have e:az X (bQ X (b::l))=az (az X (dG X b false)) (bQ (az X (dG X b false)) l):=bo _ _ _;rw[e];refine⟨k1,λc hc U=> ?_,λk hk=> ?_⟩
  ·rw[k2 c hc U]
   by_cases W:b=0\/256<=b
   ·have :dG X b false=[]:=aB W
    rw[this];have G:¬c=b:=by omega
    simp[az,G]
   ·rw[xY h J b (by omega) (by omega)]
    by_cases y:c=b
    ·simp[y]
    ·simp[y]
  ·rw[V k hk]
   refine eo _ _ _ λp z=> ?_
   unfold dG at z;split at z
   ·simp at z
   ·rw[au] at z
    subst z;show((816+b/64:Nat):Int).toNat≠k;omega
theorem qz (hm:∀c∈own,c≠0/\c<256)(Z:own.Nodup)(hu:∀c∈own,cT X c=true)(h:∀c,c<256->c≠0->cT Y c=(cT X c && !decide (c∈own))):
  (bb Y).length=(bb X).length+own.length:=by
 have hp:(bb Y).Perm (bb X++own):=by
  apply(List.perm_ext_iff_of_nodup (nQ Y 256) ?_).2
  ·intro c
   rw[aP];unfold bb;rw[iX,iX];constructor
   ·rintro⟨y,z,G⟩
    rw[h c y z] at G;by_cases U:c∈own
    ·exact .inr U
    ·simp[U] at G
     exact .inl ⟨y,z,G⟩
   ·rintro (⟨y,z,G⟩|y)
    ·exact⟨y,z,by rw[h c y z,G];rfl⟩
    ·have :=hm c y
     exact⟨this.2,this.1,by rw[h c this.2 this.1];simp[y]⟩
  ·refine List.nodup_append.2 ⟨nQ X 256,Z,λa V b W J=> ?_⟩
   subst J;have :=(iX.1 V).2.2;rw[hu a W] at this;cases this
 rw[hp.length_eq,aF]
theorem yE (h:∀k,k<820->Y.getD k 0=X.getD k 0):(∀c,c<256->cT Y c=cT X c)/\bb Y=bb X:=by
 have z:∀c,c<256->cT Y c=cT X c:=λc y=>by
  unfold cT bw;rw[h _ (by omega)]
 refine⟨z,?_⟩;unfold bb fk;apply fR;intro c y;rw[z c (bS.1 y)]
def DD (X:List Int) (i:Nat) (n:bM) (own:List Nat):List (Int×Int):=if n.F=2 then j4 X i n own else l9 X i n own
structure yF (X:List Int) (i:Int) (n:bM) (own:List Nat) (X':List Int) (cD:List Nat):Prop where
 st:dT X' i n cD
 w64:dD X'
 len:X'.length=3128
 used:∀c,c<256->c≠0->cT X' c=((cT X c && !decide (c∈own))||decide (c∈cD))
 free:∀c∈cD,(cT X c && !decide (c∈own))=false
 other:∀k,820<=k->¬(824+8*i.toNat<=k/\k<824+8*i.toNat+8)->¬(1080<=k/\(k-1080)/8∈cD)->X'.getD k 0=X.getD k 0
 count:(bb X').length+cN n=(bb (az X (bQ X own))).length
theorem Co (W:dD X)(y:X.length=3128){own:List Nat}(U:∀c∈own,c≠0/\c<256){qs:List (Int×Int)}(V:∀p∈qs,820<=p.1.toNat):
  (∀c,c<256->cT (az X (cL X own++qs)) c=(cT X c||decide (c∈own)))/\bb (az X (cL X own++qs))=bb (az X (cL X own)):=by
 rw[bo];obtain⟨G,z⟩:=yE (X:=az X (cL X own)) (Y:=az (az X (cL X own)) qs) λk Z=>eo _ _ _ λp J=>by have :=V p J;omega
 exact⟨λc h=>by rw[G c h,(kA own X W y U).2.2 c h],z⟩
theorem Wo (eT:dD X)(G:X.length=3128){i:Int}{n:bM}(hB:n.B.length=13)(hi:0<=i/\i<32)(U:bP n)(W:cN n<=(bb X).length):
  yF X i n [] (az X (DD X i.toNat n ((bb X).take (cN n)))) ((bb X).take (cN n)):=by
 have nM:=rA W;have V:∀c∈(bb X).take (cN n),c≠0/\c<256:=oP;have EA:((bb X).take (cN n)).Nodup:=qu;have uP:∀c∈(bb X).take (cN n),(cT X c && !decide (c∈([]:List Nat)))=false:=λc y=>by
  rw[(iX.1 (bA y)).2.2];rfl
 obtain⟨-,-,aa⟩:=Bk eT G (cN n);have Gd:∀Y,bb Y=bb (az X (cL X ((bb X).take (cN n))))->(bb Y).length+cN n=(bb (az X (bQ X []))).length:=λY hY=>by
  rw[hY,aa,bu];show _=(bb X).length;omega
 have hF:n.F=1\/n.F=2:=U.1;have I8:∀c,c<256->∀b:Bool,(cT X c||b)=((cT X c && !decide (c∈([]:List Nat)))||b):=λc _ b=>by simp
 rcases hF with hF|hF
 ·have qm:cN n=dX n:=aA (by omega)
  have J:∀own,DD X i.toNat n own=l9 X i.toNat n own:=λown=>aA (by omega)
  rw[qm] at W nM V EA uP Gd ⊢;rw[J];obtain⟨a1,a2,a3⟩:=SS eT G hB ⟨hi,hF,U⟩ W;have ac:=iA U;have MM:=ry n;have Z:aZ n.E.length<=((bb X).take (dX n)).length:=by omega
  obtain⟨u1,u2⟩:=Co eT G V (qs:=rr i.toNat n ((bb X).take (dX n))) λp z=>by
   rcases oN Z z with ⟨h,-⟩|⟨h,-⟩<;>omega
  exact⟨⟨hi,hB,U,V,EA,.inl ⟨hF,nM,a1⟩⟩,a2,by rw[bO,G],λc y _=>by rw[<-I8 c y];exact u1 c y,uP,a3,by rw[qm];exact Gd _ u2⟩
 ·have qm:cN n=dU n:=aB hF
  have J:∀own,DD X i.toNat n own=j4 X i.toNat n own:=λown=>aB hF
  rw[qm] at W nM V EA uP Gd ⊢;rw[J];obtain⟨a1,a2,a3⟩:=OV eT G ⟨hi,hF,U⟩ W;obtain⟨u1,u2⟩:=Co eT G V (qs:=pz (fh n ((bb X).take (dU n))) ((bb X).take (dU n)) ((bb X).take (dU n)).length++ir (824+8*i.toNat) (kR n ((bb X).take (dU n))) 8) λp z=>by
   rcases aP.1 z with z|z
   ·obtain⟨m,j,-,-,h,-⟩:=qx z
    omega
   ·obtain⟨j,-,h,-⟩:=jD z
    omega
  exact⟨⟨hi,hB,U,V,EA,.inr ⟨hF,nM,a1⟩⟩,a2,by rw[bO,G],λc y _=>by rw[<-I8 c y];exact u1 c y,uP,a3,by rw[qm];exact Gd _ u2⟩
def jI (X:List Int) (i:Nat) (n:bM) (own:List Nat):List (Int×Int):=
 bQ X own++DD (az X (bQ X own)) i n ((bb (az X (bQ X own))).take (cN n))
theorem Wp (eT:dD X)(J:X.length=3128){i:Int}{n:bM}{own:List Nat}(hB:n.B.length=13)(hi:0<=i/\i<32)(hR:bP n)(hn:cN n<=(bb (az X (bQ X own))).length):
  yF X i n own (az X (jI X i.toNat n own)) ((bb (az X (bQ X own))).take (cN n)):=by
 obtain⟨U,G,g3⟩:=iu own X eT J;have gl:(az X (bQ X own)).length=3128:=by rw[bO,J]
 have h:=Wo U gl hB hi hR hn;have hm:∀c∈(bb (az X (bQ X own))).take (cN n),c≠0/\c<256:=oP;unfold jI;rw[bo];obtain⟨Y,W⟩:∃Y,Y=az X (bQ X own):=⟨_,rfl⟩;rw[<-W] at U G g3 gl h hm ⊢;refine⟨h.st,h.w64,h.len,λc z V=> ?_,λc z=> ?_,λk Z h1 h2=> ?_,?_⟩
 ·rw[h.used c z V,G c z V]
  simp
 ·have :=h.free c z
  have y:=hm c z;rw[G c y.2 y.1] at this;simpa using this
 ·rw[h.other k Z h1 h2,g3 k Z]
 ·rw[<-W]
  exact h.count
theorem yF.keeps{V:List Int}{m:bM}{W y:List Nat}(h:yF X i n own V W)(Z:dT X j m y)(OT:i≠j)(hu:∀c∈y,cT X c=true)(hd:∀c∈y,c∉own):dT V j m y:=by
 have hi:=h.st.rng;have aa:=Z.rng;have J:∀c∈y,c∉W:=λc z G=>by
  have :=h.free c G;rw[hu c z] at this;simp[hd c z] at this
 refine Z.same (λk hk=>h.other _ (by omega) (by omega) (λU=>by omega)) λc z k hk=>h.other _ (by omega) (by omega) λU=> ?_
 have :(1080+8*c+k-1080)/8=c:=by omega
 rw[this] at U;exact J c z U.2
theorem yF.free_keeps{y:List Int}{G:List Nat}(h:yF X i n own y G)(J:dI X j)(z:0<=j/\j<32)(U:i≠j):dI y j:=by
 have V:=h.st.rng;exact J.same λk W=>h.other _ (by omega) (by omega) (λZ=>by omega)
theorem Tg (K1:eF w b gp B ps)(Ao:yB (az B ps))(i:Int):
  Calls Tryz.prog 170 #[.pointer (some ⟨b,0,none⟩),.int .i64 i] w (oh w (az B ps) i):=by
 have ag:=bm.new w (aU cB (.slice none 0 0)) 110;obtain⟨W0,ac⟩:∃W0,W0=w.alloc (.cells (aU cB (.slice none 0 0)) 110):=⟨_,rfl⟩;rw[<-ac] at ag;have ez:ay [] w W0:=by
  rw[ac];exact(ay.refl _ _).alloc _
 have aY:W0.heap.size=w.heap.size+1:=by rw[ac];simp
 have p8:=eV;have Y9:=jd;have HI:=ar (ja i);have mI:Hid (∀wz,ay [] W0 wz->(∀n' V,¬xm (az B ps) i n' V)->∃w',(storeVar 110 ⟨w.heap.size,0,none⟩ (.agg (aU cB (.slice none 0 0)))).run Tryz.prog wz= .ok () w'/\(loadVar 110 ⟨w.heap.size,0,none⟩).run Tryz.prog w'= .ok (.agg (aU cB (.slice none 0 0))) w'/\oh w (az B ps) i (.returned (.tuple #[.agg (aU cB (.slice none 0 0)),.slice none 0 0,.bool false])) w'):=λwz z hn=>by
  obtain⟨w',q1,q2,q3⟩:=br (P:= Tryz.prog) (ty:= 110) (cs:=lL cB (.slice none 0 0)) gZ (ag.keep z (by simp)) rfl (jg rfl);exact⟨w',q1,cH q2 rfl,cB,_,w.heap.size,[],_,w.heap.size,false,rfl,rfl,bz.nil _ _,aG _,jL.nil _ _,aG _,(ez.trans' z).trans q3 (by intro x hx;rw[au] at hx;omega),λh=>(by cases h),λ_=>⟨rfl,rfl,hn⟩⟩
 have nv:=ar ac;have fS:=ar ez;have xe:=ar ag;have xI:=ar K1;have O4:=ar Ao;clear ag ez ac K1 Ao;generalize X5:az B ps=X at *;have MX:=ar X5;clear X5;generalize aJ:aU cB (.slice none 0 0)=Z0 at *;have AO:=ar aJ;clear aJ;have O6:Z0.size=18:=by rw[<-AO.out];rfl
 by_cases hi:0<=i/\i<32
 ·have k6:eZ i=((824+8*i.toNat:Nat):Int):=by rw[eZ,aA (by omega)];omega
  rw[k6] at HI;have MS:¬((824+8*i.toNat:Nat):Int)<0:=by omega
  have j1:=ar (l6 (xI.out.keep fS.out (by simp) (by simp)) (824+8*i.toNat) (by omega));rw[MX.out] at j1;have sI:=fQ X (824+8*i.toNat);obtain⟨r,hr⟩:∃r,r=dy X (824+8*i.toNat):=⟨_,rfl⟩;have aF:eO X i=r:=by rw[hr];rfl
  have uw:Hid (yB r):=by rw[hr];exact yB.row O4.out _
  rw[<-hr] at j1 sI;have aa:=ar aF;clear hr aF k6;generalize X4:((824+8*i.toNat:Nat):Int)=pi at *;clear X4;generalize sG:(aR (List.replicate 8 0)).toArray=Z8 at *;have xH:=ar sG;clear sG;go_enter Tryz.func170,Tryz.ntmps170;go_wp2_with fail;refine(HI.out _).mono ?_;rintro e wy ⟨rfl,rfl⟩;go_wp2_with fail;refine(HI.out _).mono ?_;rintro e wy ⟨rfl,rfl⟩;go_wp2_with fail;rw[<-nv.out];refine j1.out.mono ?_;rintro e w1 ⟨rfl,dc⟩;obtain⟨w2,aH,GM,aD⟩:=br (P:= Tryz.prog) (ty:= 188) (cs:=aR r) (by rw[bc,sI];exact gH) (bm.new w1 Z8 188) (by rw[<-xH.out];simp[bc,sI]) (eu _);have aO:=dc.size;have fj:Hid (ay [] W0 w2):=(dc.alloc (.cells Z8 188)).trans aD (by intro x hx;rw[au] at hx;omega);have KN:=ar GM;have Ak:=ar aH;have QG:Hid (∀y,ay [] w2 y->(loadVar 188 ⟨w1.heap.size,0,none⟩).run Tryz.prog y= .ok (.agg (aR r).toArray) y):=λy z=>ea (KN.out.keep z (by simp)) sI
  have I1:=ar (fS.out.trans' fj.out);have Kc:=Lr (xI.out.keep I1.out (by simp) (by simp)) (by rw[MX.out];exact O4.out) sI uw.out;rw[MX.out] at Kc;have aL:=ar Kc;clear aH GM aD dc aO j1 Kc;generalize QF:w1.heap.size=g7 at *;have aQ:=ar (QG.out w2 (ay.refl _ _));go_wp2_with(first|(with_reducible refine gS 188 Ak.out ?_)|(with_reducible refine gL 188 aQ.out ?_));refine aL.out.mono ?_;rintro e w3 ⟨n,v,g,own,vo,go,ok,rfl,rC,hE,hg,hO,ak,ah,h1,h2⟩;obtain⟨w4,aC,V0,aj⟩:=br (P:= Tryz.prog) (ty:= 110) (cs:=lL n v) (by rw[fC,rC];exact gZ) (bm.new w3 Z0 110) (by rw[O6,fC,rC]) (jg (by obtain⟨a,c,rfl,-⟩:=hE;rfl));have aq:=ah.size;have nK:Hid (ay [] w2 w4):=(ah.alloc (.cells Z0 110)).trans aj (by intro x hx;rw[au] at hx;omega);have ai:bm w4 w3.heap.size (aU n v) 110 :=V0;have cF:w4.cell? ⟨w3.heap.size,0,none⟩=some (.int .i64 n.F):=by rw[ai.cell];exact(jo _ rC).f0
  have xK:Hid (∀y,ay [] w4 y->(loadVar 110 ⟨w3.heap.size,0,none⟩).run Tryz.prog y= .ok (.agg (aU n v)) y):=λy z=>cH (ai.keep z (by simp)) rC
  have DC:ay [w3.heap.size] w3 w4:=((ay.refl [w3.heap.size] w3).alloc (.cells Z0 110)).trans' aj;have QO:bz w4 v g n.E:=hE.keep DC (λh0=>by
   have :=hE.apart (l:=[w3.heap.size]) (λx hx=>by rw[au] at hx;omega) h0;exact this)
  have M0:∃ae,jL w4 vo ae own/\w2.heap.size<=ae:=hO.away ak DC (λx hx=>by rw[au] at hx;omega);obtain⟨ae,M0,aI⟩:=M0;have Su:=ar QO;have ap:=ar M0;have wj:Hid ((storeVar 110 ⟨w3.heap.size,0,none⟩ (.agg (aU n v))).run Tryz.prog (w3.alloc (.cells Z0 110))= .ok () w4):=aC;have H1:=ar h1;have H2:=ar h2;have Af:=ar rC;have HG:=ar hg;have aX:=ar aI;have a6:=ar aq;clear aC V0 ai aj DC QO M0 hE hO hg ak aI ah h1 h2 rC aq aL;generalize Ic:w3.heap.size=g8 at *;have af:Hid (ok=true->∀n' V,xm X i n' V->n'=n/\V=own):=λgW n' V h=>by
   have :=h.2.1;rw[aa.out] at this;exact(H1.out gW).1.uniq this h.2.2.2.1
  cases ok with
  |false=>
   obtain⟨w9,G,J,U⟩:=mI.out w4 (fj.out.trans' nK.out) (λn' V h=>by have :=h.2.1;rw[aa.out] at this;exact H2.out rfl n' V this);have W:=ar G;have Z:=ar J;have O9:=ar U;clear G J U mI H1 H2;go_wp2_with(first|(with_reducible refine gS 110 wj.out ?_)|(with_reducible refine gS 110 W.out ?_));exact aK (bE Tryz.results170 rfl Z.out rfl rfl) rfl O9.out
  |true=>
   by_cases hF:n.F=2
   ·rw[hF] at cF
    have V6:=ar hF;clear hF;have V4:Hid (∀k,k<n.E.length->(eh n.E k).size<=9223372036854775807):=λk z=>by have :=(H1.out rfl).2.2.2.2 k z;omega
    have uM:Hid (∀y,ay [] w4 y->Calls Tryz.prog 94 #[.agg (aU n v)] y λe w'=>e= .returned (.bool (decide (bP n)))/\ay [] y w'):=λy z=>kV n v g Af.out y (Su.out.keep z (by simp)) V4.out
    have XA:Hid (∀y,ay [] w4 y->Calls Tryz.prog 196 #[.agg (aU n v)] y λe w'=>e= .returned (.int .i64 ((if bP n then dU n else 0:Nat):Int))/\ay [] y w'):=λy z=>BK n v g Af.out y (Su.out.keep z (by simp)) (by have :=(H1.out rfl).2.2.2.1;omega) V4.out
    have aS:Hid (bP n->own.length=dU n->∀y,ay [] w4 y->Calls Tryz.prog 197 #[.pointer (some ⟨b,0,none⟩),.agg (aR r).toArray,.agg (aU n v),vo] y λe w'=>∃t:Bool,e= .returned (.bool t)/\(t=true↔ma X r n own)/\ay [] y w'):=λhR hN y z=>by
     have h:=OB (R:=r) (((xI.out.keep I1.out (by simp) (by simp)).keep nK.out (by simp) (by simp)).keep z (by simp) (by simp)) n v g Af.out hR (Su.out.keep z (by simp)) vo ae own (ap.out.keep z (by simp)).reads hN (λc hc=>((H1.out rfl).2.2.1 c hc).2) sI;rw[MX.out] at h;exact h
    have a8:Hid (∀y,ay [] w4 y->(loadVar 110 ⟨g8,0,none⟩).run Tryz.prog y= .ok (.agg (aU n v)) y):=xK.out;have aP:Hid (v.oneCell'=true):=by obtain⟨a,c,rfl,-⟩:=Su.out;rfl
    have X9:Hid (∀wz,ay [] w4 wz->xm X i n own->∃w',(storeVar 110 ⟨w.heap.size,0,none⟩ (.agg (aU n v))).run Tryz.prog wz= .ok () w'/\(loadVar 110 ⟨w.heap.size,0,none⟩).run Tryz.prog w'= .ok (.agg (aU n v)) w'/\oh w X i (.returned (.tuple #[.agg (aU n v),vo,.bool true])) w'):=λwz z aV=>by
     obtain⟨w',q1,q2,q3⟩:=br (P:= Tryz.prog) (ty:= 110) (cs:=lL n v) (by rw[fC,Af.out];exact gZ) (((xe.out.keep fj.out (by simp)).keep nK.out (by simp)).keep z (by simp)) (by rw[O6,fC,Af.out]) (jg aP.out);have ba:=I1.out.size;have hg:=HG.out;have ak:=aX.out;have a7:=fj.out.size;refine⟨w',q1,cH q2 Af.out,n,v,g,own,vo,ae,true,rfl,Af.out,(Su.out.keep z (by simp)).keep q3 (λ_=>by rw[au];omega),by omega,(ap.out.keep z (by simp)).keep q3 (by rw[au];omega),by omega,(I1.out.trans' (nK.out.trans' z)).trans q3 (by intro x hx;rw[au] at hx;omega),λ_=>⟨aV,(H1.out rfl).2⟩,λh=>by cases h⟩
    have aM:Hid (∀y,ay [] w4 y->(loadVar 188 ⟨g7,0,none⟩).run Tryz.prog y= .ok (.agg (aR r).toArray) y):=λy z=>QG.out y (nK.out.trans' z)
    obtain⟨av,cv,aN,-,-,-⟩:=oJ ap.out.reads;subst aN;generalize N9:aU n v=ZN at *;clear N9;go_wp2_with(first|(with_reducible refine gS 110 wj.out ?_)|((with_reducible show wpList _ _ _ (⟨_,.load 110 (.tmp 8),_,_,_,_⟩::_) _ _);refine dC rfl 110 (.tmp 8) rfl _ rfl _ (xK.out _ (ay.refl _ _)) ?_));refine(uM.out _ (ay.refl _ _)).mono ?_;rintro e w5 ⟨rfl,jG⟩;have oH:=ar jG;clear jG;by_cases hR:bP n
    ·rw[bj hR]
     have aw:=ar hR;go_wp2_with(first|((with_reducible show wpList _ _ _ (⟨_,.load 110 (.tmp 8),_,_,_,_⟩::_) _ _);refine dC rfl 110 (.tmp 8) rfl _ rfl _ (xK.out _ oH.out) ?_));refine(XA.out _ oH.out).mono ?_;rintro e w6 ⟨rfl,jz⟩;rw[aB hR];have mX:=ar (oH.out.trans' jz);clear jz hR;by_cases hN:own.length=dU n
     ·have ax:=ar hN
      rw[<-hN];clear hN;go_wp2_with(first|((with_reducible show wpList _ _ _ (⟨_,.load 110 (.tmp 8),_,_,_,_⟩::_) _ _);refine dC rfl 110 (.tmp 8) rfl _ rfl _ (xK.out _ mX.out) ?_)|((with_reducible show wpList _ _ _ (⟨_,.load 188 (.tmp 7),_,_,_,_⟩::_) _ _);refine dC rfl 188 (.tmp 7) rfl _ rfl _ (aM.out _ mX.out) ?_));refine(aS.out aw.out ax.out _ mX.out).mono ?_;rintro e w7 ⟨t,rfl,ht,AJ⟩;have GU:=ar (mX.out.trans' AJ);have HT:=ar ht;clear AJ ht;cases t with
      |false=>
       obtain⟨w9,G,J,U⟩:=mI.out w7 ((fj.out.trans' nK.out).trans' GU.out) (λn' V h=>by
        obtain⟨rfl,rfl⟩:=af.out (by trivial) n' V h;have h1:=h.2.2.2.2.2;rw[aa.out] at h1;have :=HT.out.2 h1;cases this)
       have W:=ar G;have Z:=ar J;have O9:=ar U;clear G J U mI H1 H2 HT;go_wp2_with(first|(with_reducible refine gS 110 W.out ?_));exact aK (bE Tryz.results170 rfl Z.out rfl rfl) rfl O9.out
      |true=>
       obtain⟨w9,G,J,U⟩:=X9.out w7 GU.out ⟨hi,by rw[aa.out];exact(H1.out (by trivial)).1,V6.out,aw.out,ax.out,by rw[aa.out];exact HT.out.1 rfl⟩;have W:=ar G;have Z:=ar J;have O9:=ar U;have aW:=ar (xK.out _ GU.out);clear G J U mI H1 H2 HT X9;go_wp2_with(first|(with_reducible refine gL 110 aW.out ?_)|(with_reducible refine gS 110 W.out ?_));exact aK (bE Tryz.results170 rfl Z.out rfl rfl) rfl O9.out
     ·have QP:((own.length:Int)==((dU n:Nat):Int))=false:=by simp;omega
      obtain⟨w9,G,J,U⟩:=mI.out w6 ((fj.out.trans' nK.out).trans' mX.out) (λn' V h=>by obtain⟨rfl,rfl⟩:=af.out (by trivial) n' V h;exact hN h.2.2.2.2.1);have W:=ar G;have Z:=ar J;have O9:=ar U;clear G J U mI H1 H2;go_wp2_with(first|(with_reducible refine gS 110 W.out ?_));exact aK (bE Tryz.results170 rfl Z.out rfl rfl) rfl O9.out
    ·rw[aT hR]
     obtain⟨w9,G,J,U⟩:=mI.out w5 ((fj.out.trans' nK.out).trans' oH.out) (λn' V h=>by obtain⟨rfl,rfl⟩:=af.out (by trivial) n' V h;exact hR h.2.2.2.1);have W:=ar G;have Z:=ar J;have O9:=ar U;clear G J U mI H1 H2;go_wp2_with(first|(with_reducible refine gS 110 W.out ?_));exact aK (bE Tryz.results170 rfl Z.out rfl rfl) rfl O9.out
   ·have aZ:(n.F==2)=false:=by simpa using hF
    obtain⟨w9,G,J,U⟩:=mI.out w4 (fj.out.trans' nK.out) (λn' V h=>by obtain⟨rfl,rfl⟩:=af.out (by trivial) n' V h;exact hF h.2.2.1);have W:=ar G;have Z:=ar J;have O9:=ar U;clear G J U mI H1 H2;go_wp2_with(first|(with_reducible refine gS 110 wj.out ?_)|(with_reducible refine gS 110 W.out ?_));exact aK (bE Tryz.results170 rfl Z.out rfl rfl) rfl O9.out
 ·have k6:eZ i= -1:=by rw[eZ,aB (by omega)]
  rw[k6] at HI;obtain⟨w9,G,J,U⟩:=mI.out W0 (ay.refl _ _) (λn' V h=>hi h.1);rw[nv.out] at G;have W:=ar G;have Z:=ar J;have O9:=ar U;clear G J U mI;go_enter Tryz.func170,Tryz.ntmps170;go_wp2_with fail;refine(HI.out _).mono ?_;rintro e wy ⟨rfl,rfl⟩;go_wp2_with(first|(with_reducible refine gS 110 W.out ?_));exact aK (bE Tryz.results170 rfl Z.out rfl rfl) rfl O9.out
theorem vM (i:Int)(w:World):Calls Tryz.prog 93 #[.int .i64 i] w λe w'=>e= .returned (.bool (decide (0<=i/\i<32)))/\w=w':=by
 have y:=ar (ja i);by_cases h:0<=i/\i<32
 ·rw[bj h]
  have z:0<=eZ i:=by unfold eZ;rw[aA (by omega)];omega
  clear h;go_enter Tryz.func93,Tryz.ntmps93;go_wp2_with fail;refine(y.out _).mono ?_;rintro e w' ⟨rfl,rfl⟩;go_wp2_with fail;go_ret;exact⟨rfl,rfl⟩
 ·rw[aT h]
  have z:¬0<=eZ i:=by unfold eZ;rw[aB (by omega)];omega
  clear h;go_enter Tryz.func93,Tryz.ntmps93;go_wp2_with fail;refine(y.out _).mono ?_;rintro e w' ⟨rfl,rfl⟩;go_wp2_with fail;go_ret;refine⟨?_,rfl⟩;show Ending.returned (.bool (decide (0<=eZ i)))=_;rw[aT (by omega)]
theorem M3:(Tryz.prog.info? 141).map (·.size)=some 2:=by kernel_rfl
theorem Wq{b:Value}(h:bm w g #[a,b] 141):(loadVar 141 ⟨g,0,none⟩).run Tryz.prog w= .ok (.agg #[a,b]) w:=by
 have :=bT (P:= Tryz.prog) (w:=w) g 0 [a,b] Tryz.underlying141 rfl M3 λj y=>by
  rw[aX,h.cell,<-dz]
 simpa using this
theorem Cp{b c d:Value}(y:bm w g #[c,d] 141)(G:a.oneCell'=true)(z:b.oneCell'=true):
  ∃w',(storeVar 141 ⟨g,0,none⟩ (.agg #[a,b])).run Tryz.prog w= .ok () w'/\bm w' g #[a,b] 141/\ay [g] w w':=
 br (P:= Tryz.prog) (ty:= 141) (cs:=[a,b]) M3 y rfl (by intro v h;simp at h;rcases h with rfl|rfl<;>assumption)
def Lv (w:World) (k:Int) (e:Ending) (w':World):Prop:=
 ay [] w w'/\∃a b,a.oneCell'=true/\b.oneCell'=true/\e= .returned (.tuple #[.agg #[a,b],.bool (decide (k=1\/k=2))])/\
  (k=1->a=(.func (.func 140) #[] #[])/\b=(.func (.func 141) #[] #[]))/\(k=2->a=(.func (.func 142) #[] #[])/\b=(.func (.func 143) #[] #[]))
theorem zI (k:Int)(w:World):Calls Tryz.prog 98 #[.int .i64 k] w (Lv w k):=by
 have aa:=bm.new w #[.nilFunc,.nilFunc] 141;have ez:ay [] w (w.alloc (.cells #[.nilFunc,.nilFunc] 141)):=(ay.refl _ _).alloc _;have z:Hid (∀a b:Value,a.oneCell'=true->b.oneCell'=true->∃w',(storeVar 141 ⟨w.heap.size,0,none⟩ (.agg #[a,b])).run Tryz.prog (w.alloc (.cells #[.nilFunc,.nilFunc] 141))= .ok () w'/\(loadVar 141 ⟨w.heap.size,0,none⟩).run Tryz.prog w'= .ok (.agg #[a,b]) w'/\ay [] w w'):=λa b U V=>by
  obtain⟨w',q1,q2,q3⟩:=Cp aa U V;exact⟨w',q1,Wq q2,ez.trans q3 (by simp)⟩
 clear aa ez;by_cases U:k=1
 ·subst U
  obtain⟨w1,y,G,J⟩:=z.out (.func (.func 140) #[] #[]) (.func (.func 141) #[] #[]) rfl rfl;have W:=ar y;have HL:=ar G;have Z:=ar J;clear y G J z;go_enter Tryz.func98,Tryz.ntmps98;go_wp2_with(with_reducible refine gS 141 W.out ?_);refine aK (dn Tryz.results98 rfl HL.out rfl) rfl ?_;exact⟨Z.out,_,_,rfl,rfl,rfl,λ_=>⟨rfl,rfl⟩,λh=>by omega⟩
 ·by_cases V:k=2
  ·subst V
   obtain⟨w1,y,G,J⟩:=z.out (.func (.func 142) #[] #[]) (.func (.func 143) #[] #[]) rfl rfl;have W:=ar y;have HL:=ar G;have Z:=ar J;clear y G J z U;go_enter Tryz.func98,Tryz.ntmps98;go_wp2_with(with_reducible refine gS 141 W.out ?_);refine aK (dn Tryz.results98 rfl HL.out rfl) rfl ?_;exact⟨Z.out,_,_,rfl,rfl,rfl,λh=>by omega,λ_=>⟨rfl,rfl⟩⟩
  ·obtain⟨w1,y,G,J⟩:=z.out .nilFunc .nilFunc rfl rfl
   have W:=ar y;have HL:=ar G;have Z:=ar J;have e1:(k==1)=false:=by simpa using U
   have e2:(k==2)=false:=by simpa using V
   have HD:Hid (decide (k=1\/k=2)=false):=aT (by omega);have H1:=ar U;have H2:=ar V;clear y G J z U V;go_enter Tryz.func98,Tryz.ntmps98;go_wp2_with(with_reducible refine gS 141 W.out ?_);refine aK (dn Tryz.results98 rfl HL.out rfl) rfl ?_;refine⟨Z.out,.nilFunc,.nilFunc,rfl,rfl,?_,λh=>absurd h H1.out,λh=>absurd h H2.out⟩;rw[HD.out];rfl
def oX (b:Nat) (i:Int):Value:= .agg #[.pointer (some ⟨b,0,none⟩),.int .i64 i]
def Ge (w:World) (b:Nat) (i:Int):World:=(w.alloc (.cells #[.pointer (some ⟨b,0,none⟩),.int .i64 i] 145)).alloc (.cells (aU cB (.slice none 0 0)) 110)
theorem xo (w:World)(b:Nat)(i:Int):ay [] w (Ge w b i)/\bm (Ge w b i) (w.heap.size+1) (aU cB (.slice none 0 0)) 110 :=by
 refine⟨((ay.refl _ _).alloc _).alloc _,?_⟩;have :=bm.new (w.alloc (.cells #[.pointer (some ⟨b,0,none⟩),.int .i64 i] 145)) (aU cB (.slice none 0 0)) 110;rwa[show(w.alloc (.cells #[.pointer (some ⟨b,0,none⟩),.int .i64 i] 145)).heap.size=w.heap.size+1 by simp] at this
theorem Cq{z y:World}{h:Nat}(U:bm z h (aU cB (.slice none 0 0)) 110)(hw:w.heap.size<=h)(Z:ay [] w z)(G:ay [] z y){n:bM}{v:Value}(J:n.B.length=13)(V:v.oneCell'=true):
  ∃w',(storeVar 110 ⟨h,0,none⟩ (.agg (aU n v))).run Tryz.prog y= .ok () w'/\(loadVar 110 ⟨h,0,none⟩).run Tryz.prog w'= .ok (.agg (aU n v)) w'/\ay [h] y w'/\ay [] w w':=by
 obtain⟨w',q1,q2,q3⟩:=ug (U.keep G (by simp)) rfl J V;exact⟨w',q1,cH q2 J,q3,(Z.trans' G).trans q3 (by intro x W;rw[au] at W;omega)⟩
theorem Lx (h:eF w b gp B ps)(eT:dD (az B ps))(i:Int):
  Calls Tryz.prog 140 #[oX b i] w (jb w (az B ps) i):=by
 obtain⟨ez,J⟩:=xo w b i;have HR:=ar (VX (h.keep ez (by simp) (by simp)) eT i);have U:=ar J;have xf:=eV;have V:=ar ez;clear h eT ez J;unfold oX;generalize QQ:Ge w b i=W0 at *;have G:(w.alloc (.cells #[.pointer (some ⟨b,0,none⟩),.int .i64 i] 145)).alloc (.cells (aU cB (.slice none 0 0)) 110)=W0:=QQ;have nv:=ar G;clear QQ G;go_enter Tryz.func140,Tryz.ntmps140;go_wp2_with fail;rw[nv.out];refine HR.out.mono ?_;rintro e w2 ⟨n,v,g,own,va,ga,ok,rfl,hB,W,hg,hO,sk,IC,Dx,hk⟩;obtain⟨w3,z,ny,y,xJ⟩:=Cq U.out (by omega) V.out hk hB (qw W);have HS:=ar z;have HL:=ar ny;have HP:Hid (jb w (az B ps) i (.returned (.tuple #[.agg (aU n v),va,.bool ok])) w3):=by
  have hz:=V.out.size;refine⟨n,v,g,own,va,ga,ok,rfl,hB,W.keep y (λh0=> ?_),by omega,hO.keep y ?_,by omega,IC,Dx,xJ⟩
  ·have :=U.out.lt
   simp;omega
  ·have :=U.out.lt
   simp;omega
 clear z ny y xJ W hO IC Dx hk HR V U;generalize aU n v=Z at *;go_wp2_with(with_reducible refine gS 110 HS.out ?_);exact aK (bE Tryz.results140 rfl HL.out rfl rfl) rfl HP.out
theorem Lz (h:eF w b gp B ps)(eT:yB (az B ps))(i:Int):
  Calls Tryz.prog 142 #[oX b i] w (oh w (az B ps) i):=by
 obtain⟨ez,J⟩:=xo w b i;have HR:=ar (Tg (h.keep ez (by simp) (by simp)) eT i);have U:=ar J;have xf:=eV;have V:=ar ez;clear h eT ez J;unfold oX;generalize QQ:Ge w b i=W0 at *;have G:(w.alloc (.cells #[.pointer (some ⟨b,0,none⟩),.int .i64 i] 145)).alloc (.cells (aU cB (.slice none 0 0)) 110)=W0:=QQ;have nv:=ar G;clear QQ G;go_enter Tryz.func142,Tryz.ntmps142;go_wp2_with fail;rw[nv.out];refine HR.out.mono ?_;rintro e w2 ⟨n,v,g,own,va,ga,ok,rfl,hB,W,hg,hO,sk,hk,IC,Dx⟩;obtain⟨w3,z,ny,y,xJ⟩:=Cq U.out (by omega) V.out hk hB (qw W);have HS:=ar z;have HL:=ar ny;have HP:Hid (oh w (az B ps) i (.returned (.tuple #[.agg (aU n v),va,.bool ok])) w3):=by
  have hz:=V.out.size;refine⟨n,v,g,own,va,ga,ok,rfl,hB,W.keep y (λh0=> ?_),by omega,hO.keep y ?_,by omega,xJ,IC,Dx⟩
  ·have :=U.out.lt
   simp;omega
  ·have :=U.out.lt
   simp;omega
 clear z ny y xJ W hO IC Dx hk HR V U;generalize aU n v=Z at *;go_wp2_with(with_reducible refine gS 110 HS.out ?_);exact aK (bE Tryz.results142 rfl HL.out rfl rfl) rfl HP.out
end Go.Proofs.YtcecbdeamjigiaaGreatDoor
