/- Lemmas. -/
import Derived.Test.YtimcfdnbpkiniaaGreatDoorM21
set_option maxHeartbeats 4000000
set_option maxRecDepth 100000
namespace Go.Proofs.YtimcfdnbpkiniaaGreatDoor
open Go.Proofs.Tryz
open Go.RowKit
variable{B X Y c:List Int}{T:List (bS×Value)}{own:Nat->List Nat}{ex l z:List Nat}{M:Nat->Nd}{i k m:Nat}{n n':bS}
def qX (X:List Int) (T:List (bS×Value)) (r:Int) (qs:List (Int×Int)):Prop:=
 (X.getD 2 0=32/\r=0/\qs=[])\/∃c:Nat,X.getD 2 0=(c:Int)/\c<32/\
  ((¬(¬dR X (c:Int)/\(nT T c).F≠X.getD 1 0)/\r=0/\qs=[(2,(c:Int)+1)])\/
  ((¬dR X (c:Int)/\(nT T c).F≠X.getD 1 0)/\∃z h,nK X (c:Int) { nT T c with F:=X.getD 1 0 } z h/\((z≠0/\r=z/\qs=h)\/(z=0/\r=0/\qs=h++[(2,(c:Int)+1)]))))
theorem acv{w:World}{b J:Nat}{ps:List (Int×Int)}(h:tH w b J B ps T own)(hA:wK (az B ps) T)(hT:∀wx,ay [b,J] w wx->ku wx)(aF:ps.length<=600000):
  Calls prog 130 #[b] w (cQ w b J B ps 701 (qX (az B ps) T)):=by
 obtain⟨HD,au⟩:=hh2 (Te h) (C7 h 2 (by omega));have aD:=h.sup.2.2.1;have aH:0<=(az B ps).getD 2 0:=(h.st.w64 2).1;by_cases hc:(az B ps).getD 2 0=32
 ·have HF:Hid (cQ w b J B ps 701 (qX (az B ps) T) (.returned (0:Int)) w):=cQ.none h.st.sh (ay.refl _ _) (.inl ⟨hc,rfl,rfl⟩)
  rw[bq hc] at HD;clear h hA hT aF au aD aH hc;generalize qX (az B ps) T=R at *;go_in;go_wp2_with fail;refine C' HD.out ?_;go_wp2;go_ret;exact HF.out
 ·rw[aP hc] at HD
  obtain⟨c,aa⟩:∃c:Nat,(az B ps).getD 2 0=(c:Int):=⟨((az B ps).getD 2 0).toNat,by omega⟩;have He:c<32:=by omega
  have HU:=ar (OB h);have aO:Hid (∀z bs bt,ay [] w z->bc z bs #[b] 49->bc z bt #[((az B ps).getD 1 0:Int)] 3->Calls prog 202 #[(c:Int),(bs:Nat),(bt:Nat)] z (dz z (¬dR (az B ps) (c:Int)/\(nT T c).F≠(az B ps).getD 1 0))):=λz bs bt hk h1 h2=>
   LH (h.st.keep0 hk) h1 h2 He
  have aA:Hid ((¬dR (az B ps) (c:Int)/\(nT T c).F≠(az B ps).getD 1 0)->∀wx,ay [] w wx->Calls prog 167 #[b,(c:Int)] wx (cQ wx b J B ps 700 (nK (az B ps) (c:Int) { nT T c with F:=(az B ps).getD 1 0 }))):=λV wx hk=>
   acu (h.keep0 hk) (λwy hy=>hT wy ((hk.mono).trans' hy)) (by omega) He (by
    rcases hA c He with h1|h1
    ·exact absurd h1 V.1
    ·exact h1)
  have CW:Hid (∀z kQ qs,qs.length<=700->eN z b kQ B (ps++qs)->Calls prog 47 #[b,(2:Int),.int .u64 ((c:Int)+1)] z (jN z b kQ B (ps++(qs++[(2,(c:Int)+1)])))):=λz kQ qs hq hs=>by
   have :=o7 hs (by rw[aC];omega) 2 ((c:Int)+1);rwa[show z6 (ps++qs) 2 ((c:Int)+1)=ps++(qs++[(2,(c:Int)+1)]) by show(ps++qs)++[(2,(c:Int)+1)]=_;rw[aV]] at this
  have vP:Hid (∀wx,ay [] w wx->eN wx b J B (ps++[])):=λwx hk=>by rw[bz];exact h.st.sh.keep hk
  have ax:Hid (¬(¬dR (az B ps) (c:Int)/\(nT T c).F≠(az B ps).getD 1 0)->qX (az B ps) T 0 ([]++[(2,(c:Int)+1)])):=λV=> .inr ⟨c,aa,He,.inl ⟨V,rfl,rfl⟩⟩
  have aj:Hid ((¬dR (az B ps) (c:Int)/\(nT T c).F≠(az B ps).getD 1 0)->∀r qs,nK (az B ps) (c:Int) { nT T c with F:=(az B ps).getD 1 0 } r qs->r≠0->qX (az B ps) T r qs):=λV r qs h1 h2=> .inr ⟨c,aa,He,.inr ⟨V,r,qs,h1,.inl ⟨h2,rfl,rfl⟩⟩⟩
  have ah:Hid ((¬dR (az B ps) (c:Int)/\(nT T c).F≠(az B ps).getD 1 0)->∀qs,nK (az B ps) (c:Int) { nT T c with F:=(az B ps).getD 1 0 } 0 qs->qX (az B ps) T 0 (qs++[(2,(c:Int)+1)])):=λV qs h1=> .inr ⟨c,aa,He,.inr ⟨V,0,qs,h1,.inr ⟨rfl,rfl,rfl⟩⟩⟩
  have aJ:=h.st.lt;have DI:=ar aJ;have mi:Hid (∀G U W qs,ay [b,J] w G->(W=J\/(w.heap.size<=W/\W<G.heap.size))->qs.length<=700->qX (az B ps) T 0 (qs++[(2,(c:Int)+1)])->(∃Rk,(Rk=W\/(G.heap.size<=Rk/\Rk<U.heap.size))/\eN U b Rk B (ps++(qs++[(2,(c:Int)+1)]))/\ay [b,W] G U)->cQ w b J B ps 701 (qX (az B ps) T) (.returned (0:Int)) U):=λG U W qs hk hg hq hr ⟨Rk,h1,h2,h3⟩=>by
   have h4:=hk.size;have h5:=h3.size;refine⟨0,_,Rk,rfl,by omega,h2,hk.trans h3 (λx hx=> ?_),by rw[aC];simp;omega,hr⟩;simp only[aM,aK,bC] at hx ⊢;omega
  have Np:Hid (∀z G r,ay [] w z->(∃qs W,(W=J\/(z.heap.size<=W/\W<G.heap.size))/\eN G b W B (ps++qs)/\ay [b,J] z G/\qs.length<=700/\qX (az B ps) T r qs)->cQ w b J B ps 701 (qX (az B ps) T) (.returned (r:Int)) G):=λz G r hk ⟨qs,W,h1,h2,h3,h4,h5⟩=>by
   have h6:=hk.size;exact⟨r,qs,W,rfl,by omega,h2,(hk.mono).trans' h3,by omega,h5⟩
  have aR:IntKind.i64.wrap (c:Int)=(c:Int):=by rw[cB];omega
  rw[aa] at au;have ac:Hid (IntKind.i64.wrap ((c:Int)+1)=(c:Int)+1/\IntKind.u64.wrap ((c:Int)+1)=(c:Int)+1):=⟨by rw[cB];omega,by rw[fW];omega⟩;clear h hA hT aF aD aH hc aa aJ He;generalize qX (az B ps) T=R,nK (az B ps) (c:Int) { nT T c with F:=(az B ps).getD 1 0 }=RP,(¬dR (az B ps) (c:Int)/\(nT T c).F≠(az B ps).getD 1 0)=pP at *;generalize (az B ps).getD 1 0=t,Pw:(c:Int)=ci at *;clear Pw;go_in;go_wp2_with fail;refine C' HD.out ?_;go_wp2_with fail;refine C' au.out ?_;go_wp2_with fail;refine HU.out.mono ?_;rintro e z ⟨bs,bt,rfl,-,-,aN,aG,av⟩;obtain⟨aI,jv⟩:=hh2 (aO.out z bs bt av aN aG) av;clear av aN aG HU aO;go_wp2_with fail;refine aI.out.mono ?_;rintro e G ⟨r,rfl,hr,aL⟩;have fC:=ar (jv.out.trans' aL);clear aL aI jv;cases r with
  |false=>
   obtain⟨HN,HP⟩:=hh2 (ax.out λV=>by have :=hr.2 V;cases this) (CW.out G J [] (by simp) (vP.out G fC.out));have Ow:=ar (λU=>mi.out G U J [] (fC.out.mono) (.inl rfl) (by simp) HN.out);have ai:=ac.out;obtain⟨ai,aQ⟩:=ai;clear hr ax aj ah aA CW mi Np vP HN ac;go_wp2_with fail;refine Rr HP.out λU hx=> ?_;have HF:=ar (Ow.out U hx);clear hx HP Ow;go_wp2;go_ret;exact HF.out
  |true=>
   have V:pP:=hr.1 rfl;obtain⟨W9,HE,Bv⟩:=hh3 (aA.out V G fC.out) (aj.out V) (ah.out V);clear hr ax aj ah aA vP V;go_wp2_with fail;refine W9.out.mono ?_;rintro e U ⟨r,qs,Rk,rfl,ak,ae,af,SJ,ag⟩;by_cases h0:r=0
   ·subst h0
    have HP:=ar (CW.out U Rk qs SJ ae);have hz:=fC.out.size;have aB:ay [b,J] w U:=(fC.out.mono).trans' af;have Ow:=ar (λw4=>mi.out U w4 Rk qs aB (by omega) SJ (Bv.out qs ag));obtain⟨ai,aQ⟩:=ac.out;clear ak ae af SJ ag hz aB HE Bv W9 CW mi Np ac;go_wp2_with fail;refine Rr HP.out λw4 hx=> ?_;have HF:=ar (Ow.out w4 hx);clear hx HP Ow;go_wp2;go_ret;exact HF.out
   ·have HF:Hid (cQ w b J B ps 701 R (.returned (r:Int)) U):=Np.out G U r fC.out ⟨qs,Rk,ak,ae,af,SJ,HE.out r qs ag h0⟩
    have b0:(r==0)=false:=by simpa using h0
    clear ak ae af SJ ag HE Bv W9 CW mi Np ac h0;go_wp2;go_ret;exact HF.out
theorem l6.putOver(h:l6 X T own ex M){i:Nat}(hi:(M i).K≠0){n:bS}(hB:n.B.length=13)(hR:cm n){r:Int}{qs:List (Int×Int)}(hp:nK X (i:Int) n r qs){ex':List Nat}
  (V:∀b,b<256->(dv n).count b+ex'.count b=(dv (nT T i)).count b+ex.count b) (hx:∀c∈ex',c≠0/\c<256) (ht:jS X n) (hM:dB (na M i (sA X n))):
  (r=7/\qs=[]/\(aY X).length+(own i).length<dA n)\/(r=0/\∃cY,l6 (az X qs) (nM T i n) cY ex' (na M i (sA X n))/\oU X (az X qs) (own i)/\(aY (az X qs)).length+dA n=(aY X).length+(own i).length/\(∀k,k<816->(az X qs).getD k 0=X.getD k 0)/\
   (∀p∈qs,(816<=p.1.toNat/\p.1.toNat<820)\/(824+8*i<=p.1.toNat/\p.1.toNat<824+8*i+8)\/(1080<=p.1.toNat/\(p.1.toNat-1080)/8∈cY i))/\(cY i).length=dA n):=by
 have z:=h.tree.rng hi;have U:eJ X (i:Int) (nT T i) (own i):=by
  rcases h.st.each z with ⟨-,J⟩|⟨J,-,-⟩
  ·exact J
  ·exact absurd ((h.free z).1 J) hi
 have aa:(own i).Nodup:=U.nodup;have af:(aY (az X (ct X (own i)))).length=(aY X).length+(own i).length:=
  sx U.mem aa (λc V=>h.st.used z (bT _ V)) λc V ac=>(iq (own i) X h.st.w64 h.st.len).2.1 c V ac
 rcases hp.over U with ⟨-,J,-⟩|⟨J,-,h2,h3⟩|⟨J,-,h2,h3⟩
 ·exact absurd hR J
 ·exact .inl ⟨J,h3,by omega⟩
 ·right
  rw[aF] at h3;subst h3;obtain⟨p1,p2,p3,p4⟩:=h.st.put z hB hR h2 V hx ht;refine⟨J,_,⟨p1,λj=> ?_,hM⟩,p2,p3,p4,λp hp=> ?_,?_⟩
  ·have hn:sA (az X (lW X i n (own i))) n=sA X n:=by
    have ae:∀c∈dv n,c≠0/\c<256/\dn X c=true/\c∉own i:=λc G=>by
     have W:=qu hB hR c G;have h5:=V c W.2;have h6:0<(dv n).count c:=List.count_pos_iff.2 G;rcases eo (ex.count c) with h7|h7
     ·have h8:c∈dv (nT T i):=List.count_pos_iff.1 (by omega)
      exact⟨W.1,W.2,h.st.used z (bW _ h8),λh9=>h.st.inner z h9 h8⟩
     ·have h8:c∈ex:=List.count_pos_iff.1 h7
      exact⟨W.1,W.2,h.st.usedEx h8,λh9=>h.st.apartEx z (bT _ h9) h8⟩
    exact BF hB (λhK=>(tG hR hK).2) λc G k hk=>by
     have :=ae c G;exact p2 c this.2.1 this.1 this.2.2.1 this.2.2.2 k hk
   have :=h.st.nodesUp h.abs p2 z (λj _=>h.st.filesOwn z j) n j;rw[hn] at this;exact this
  ·have :=yX z hR (own:=own i) rfl h2 hp
   rw[IZ,aB rfl];exact this
  ·rw[IZ,aB rfl]
   exact uo h2
theorem Zx (X:List Int)(n:bS)(f:Int):sA X { n with F:=f }=sA X n:=rfl
theorem Zy{n:Nd}(h:n=M i):na M i n=M:=by
 funext j
 unfold na;split
 ·next e=>rw[e,h]
 ·rfl
theorem l6.heads{G:List Nat}(h:l6 X T own G M){qs:List (Int×Int)}(V:∀p∈qs,p.1=1\/p.1=2)(z:In64 (az X qs))(U:kX (az X qs)):
  l6 (az X qs) T own G M/\aY (az X qs)=aY X:=by
 obtain⟨J,h2,W⟩:=h.st.heads V z U;exact⟨⟨J,λj=>by rw[h.abs,h.st.nodes h2 (by simp)],h.tree⟩,W⟩
theorem OC (h:kX X)(U:X.length=3128){f:Int}(J:f=1\/f=2):kX (az X [(1,f),(2,0)]):=by
 have e:az X [(1,f),(2,0)]=(X.set 1 f).set 2 0:=rfl;rw[e];have g:∀k,((X.set 1 f).set 2 0).getD k 0=if 2=k then 0 else if 1=k then f else X.getD k 0:=λk=>by
  rw[jg _ _ _ _ (by rw[dg];omega),jg _ _ _ _ (by omega)]
 refine⟨by rw[g];exact h.1,by rw[g];exact J,by rw[g,aB rfl];omega,λi G z=> ?_,λi G z=> ?_⟩
 ·rw[g,aA,aA];exact h.2.2.2.1 i G z
 ·rw[g,aA,aA];exact h.2.2.2.2 i G z
theorem BI (h:kX X)(U:X.length=3128){c:Int}(J:c<=32):kX (az X [(2,c)]):=by
 have e:az X [(2,c)]=X.set 2 c:=rfl;rw[e];have g:∀k,(X.set 2 c).getD k 0=if 2=k then c else X.getD k 0:=λk=>by rw[jg _ _ _ _ (by omega)]
 refine⟨by rw[g];exact h.1,by rw[g];exact h.2.1,by rw[g];exact J,λi G z=> ?_,λi G z=> ?_⟩
 ·rw[g,aA];exact h.2.2.2.1 i G z
 ·rw[g,aA];exact h.2.2.2.2 i G z
theorem acw{U:List Nat}(h:l6 X T own U M){f r:Int}{qs:List (Int×Int)}(ha:C8 X f r qs):
  (r=1/\¬(f=1\/f=2)/\qs=[])\/(r=0/\(f=1\/f=2)/\l6 (az X qs) T own U M/\aY (az X qs)=aY X/\∀k,3<=k->(az X qs).getD k 0=X.getD k 0):=by
 rcases ha with G|⟨G,J,⟨-,rfl⟩|⟨-,rfl⟩⟩
 ·exact .inl G
 ·exact .inr ⟨G,J,h,rfl,λ_ _=>rfl⟩
 ·right
  have h3:In64 (az X [(1,f),(2,0)]):=h.st.w64.put λp z=>by
   simp only[aM,aK,bC] at z;rcases z with rfl|rfl<;>dsimp only <;>omega
  obtain⟨V,W⟩:=h.heads (qs:=[(1,f),(2,0)]) (by simp) h3 (OC h.st.sup h.st.len J);exact⟨G,J,V,W,λk hk=>dX _ _ _ λp z=>by
   simp only[aM,aK,bC] at z;rcases z with rfl|rfl
   ·show(1:Int).toNat≠k;rw[show(1:Int).toNat=1 from rfl];omega
   ·show(2:Int).toNat≠k;rw[show(2:Int).toNat=2 from rfl];omega⟩
theorem Zz (h:l6 X T own ex M){r:Int}{qs:List (Int×Int)}(hs:qX X T r qs):
  (r=7/\qs=[]/\(aY X).length<32)\/(r=0/\∃T' cY,l6 (az X qs) T' cY ex M/\(∀k,8<=k->k<816->(az X qs).getD k 0=X.getD k 0)/\∃L:List Nat,L.length<=300/\∀k,k<3128->(az X qs).getD k 0≠X.getD k 0->k∈L):=by
 rcases hs with ⟨-,V,rfl⟩|⟨c,hc,He,⟨-,V,rfl⟩|⟨⟨hf,hF⟩,r',J,z,hr⟩⟩
 ·exact .inr ⟨V,T,own,h,λ_ _ _=>rfl,[],by simp,λk _ U=>absurd rfl U⟩
 ·have h3:In64 (az X [(2,(c:Int)+1)]):=h.st.w64.put λp z=>by rw[au] at z;subst z;dsimp only;omega
  obtain⟨h4,h5⟩:=h.heads (qs:=[(2,(c:Int)+1)]) (by simp) h3 (BI h.st.sup h.st.len (by omega));have W:∀k,k≠2->(az X [(2,(c:Int)+1)]).getD k 0=X.getD k 0:=λk U=>dX _ _ _ λp z=>by rw[au] at z;subst z;show(2:Int).toNat≠k;rw[show(2:Int).toNat=2 from rfl];omega
  exact .inr ⟨V,T,own,h4,λk U _=>W k (by omega),[2],by simp,λk _ U=>by
   by_cases e:k=2
   ·rw[e];simp
   ·exact absurd (W k e) U⟩
 ·have af:(M c).K≠0:=λe=>hf ((h.free He).2 e)
  have aa:eJ X (c:Int) (nT T c) (own c):=by
   rcases h.st.each He with ⟨-,V⟩|⟨V,-,-⟩
   ·exact V
   ·exact absurd V hf
  have ht:=h.st.sup.2.1;have hR:cm { nT T c with F:=X.getD 1 0 }:=⟨ht,aa.right.2⟩;have G:sA X { nT T c with F:=X.getD 1 0 }=M c:=by rw[Zx,h.abs]
  have hM:dB (na M c (sA X { nT T c with F:=X.getD 1 0 })):=by rw[Zy G];exact h.tree
  rcases h.putOver af (n:={ nT T c with F:=X.getD 1 0 }) aa.len hR z (ex':=ex) (λb _=>rfl) h.st.exr (h.st.tails c He) hM with ⟨q1,q2,q3⟩|⟨q1,cY,q2,q3,q4,q5,q6,q7⟩
  ·rcases hr with ⟨-,r2,r3⟩|⟨r1,-,-⟩
   ·have :=vr hR
    exact .inl ⟨by omega,by rw[r3,q2],by omega⟩
   ·omega
  ·rcases hr with ⟨r1,-,-⟩|⟨-,r2,r3⟩
   ·exact absurd q1 r1
   ·subst r3
    rw[Zy G] at q2;have h3:In64 (az (az X J) [(2,(c:Int)+1)]):=q2.st.w64.put λp z=>by rw[au] at z;subst z;dsimp only;omega
    obtain⟨h4,h5⟩:=q2.heads (qs:=[(2,(c:Int)+1)]) (by simp) h3 (BI q2.st.sup q2.st.len (by omega));have W:∀k,k≠2->(az (az X J) [(2,(c:Int)+1)]).getD k 0=(az X J).getD k 0:=λk U=>dX _ _ _ λp z=>by rw[au] at z;subst z;show(2:Int).toNat≠k;rw[show(2:Int).toNat=2 from rfl];omega
    rw[br];refine .inr ⟨r2,_,_,h4,λk U ae=>by rw[W k (by omega),q5 k ae],[2,816,817,818,819]++(List.range 8).map (824+8*c+·)++(cY c).flatMap (λb=>(List.range 8).map (1080+8*b+·)),?_,λk U ac=> ?_⟩
    ·have hl:=vr hR
     have ah:∀l:List Nat,(l.flatMap (λb=>(List.range 8).map (1080+8*b+·))).length=8*l.length:=by
      intro l;induction l with
      |nil=>rfl
      |cons b l ih=>rw[List.flatMap_cons,aC,ih];simp;omega
     rw[aC,aC,ah];simp;omega
    ·by_cases e2:k=2
     ·rw[e2];simp
     ·rw[W k e2] at ac
      have ag:∃p∈J,p.1.toNat=k:=by
       by_cases hh:∃p∈J,p.1.toNat=k
       ·exact hh
       ·exact absurd (dX _ _ _ λp z e=>hh ⟨p,z,e⟩) ac
      obtain⟨p,z,e⟩:=ag;simp only[aR,aM,aK,bC,bH,cu,List.mem_flatMap];rcases q6 p z with h6|h6|h6
      ·left;left;omega
      ·left;right;exact⟨k-(824+8*c),by omega,by omega⟩
      ·right;exact⟨(p.1.toNat-1080)/8,h6.2,(p.1.toNat-1080)%8,by omega,by omega⟩
def nS (X Y:List Int) (n:Nat):Prop:=∃L:List Nat,L.length<=n/\∀k,k<3128->Y.getD k 0≠X.getD k 0->k∈L
theorem nS.refl(X:List Int)(n:Nat):nS X X n:=⟨[],by simp,λ_ _ h=>absurd rfl h⟩
theorem nS.trans{Z:List Int}{n:Nat}(h:nS X Y n)(k:nS Y Z m):nS X Z (n+m):=by
 obtain⟨L,V,U⟩:=h;obtain⟨K,W,J⟩:=k;refine⟨L++K,by rw[aC];omega,λi G z=> ?_⟩;rw[aR];by_cases e:Y.getD i 0=X.getD i 0
 ·exact .inr (J i G (by rw[e];exact z))
 ·exact .inl (U i G e)
theorem nS.mono{n:Nat}(h:nS X Y n)(J:n<=m):nS X Y m:=by
 obtain⟨L,G,z⟩:=h;exact⟨L,by omega,z⟩
theorem nS.puts{qs:List (Int×Int)}{L:List Nat}{n:Nat}(U:L.length<=n)(h:∀p∈qs,p.1.toNat∈L):nS X (az X qs) n:=by
 refine⟨L,U,λk _ G=> ?_⟩;by_cases J:∃p∈qs,p.1.toNat=k
 ·obtain⟨p,z,e⟩:=J
  rw[<-e];exact h p z
 ·exact absurd (dX _ _ _ λp z e=>J ⟨p,z,e⟩) G
def uy:List Nat:=[816,817,818,819]
def Eh (l:List Nat):List Nat:=l.flatMap (λb=>(List.range 8).map (1080+8*b+·))
theorem vG:∀l:List Nat,(Eh l).length=8*l.length
 | []=>rfl
 |b::l=>by
  have :=vG l;unfold Eh at this ⊢;rw[List.flatMap_cons,aC,this];simp;omega
theorem sD (h:816<=k/\k<820):k∈uy:=by
 unfold uy;simp;omega
theorem y8 (z:1080<=k)(h:(k-1080)/8∈l):k∈Eh l:=by
 unfold Eh;rw[List.mem_flatMap];refine⟨_,h,?_⟩;rw[bH];exact⟨(k-1080)%8,by simp;omega,by omega⟩
theorem Hf (h:824+8*i<=k/\k<824+8*i+8):k∈(List.range 8).map (824+8*i+·):=by
 rw[bH];exact⟨k-(824+8*i),by simp;omega,by omega⟩
structure nC (X:List Int) (T:List (bS×Value)) (own:Nat->List Nat) (ex:List Nat) (M:Nat->Nd):Prop where
 st:StX X T own ex
 abs:∀i,M i=sA X (nT T i)
theorem l6.nd(h:l6 X T own z M):nC X T own z M:=⟨h.st,h.abs⟩
theorem nC.snd(h:nC X T own z M)(t:dB M):l6 X T own z M:=⟨h.st,h.abs,t⟩
section
variable {X:List Int} {T:List (bS×Value)} {own:Nat->List Nat} {ex:List Nat} {M:Nat->Nd}
theorem nC.free(h:nC X T own ex M){i:Nat}(V:i<32):dR X (i:Int)↔(M i).K=0:=by
 rw[h.abs];show _↔(nT T i).K=0;rcases h.st.each V with ⟨G,z⟩|⟨G,z,-⟩
 ·refine⟨λJ=>absurd J z.notFree,λJ=> ?_⟩
  rcases z.right.2.2 with U|U<;>omega
 ·exact⟨λ_=>by rw[z];rfl,λ_=>G⟩
theorem nC.out(h:nC X T own ex M){i:Nat}(z:32<=i):M i=vQ:=by rw[h.abs,h.st.gots.zero z];rfl
theorem nC.rng(h:nC X T own ex M){i:Nat}(G:(M i).K≠0):i<32:=by
 rcases dF i 32 with z|z
 ·exact z
 ·exact absurd (by rw[h.out z];rfl) G
theorem nC.store(h:nC X T own ex M){i:Nat}(G:(M i).K≠0):eJ X (i:Int) (nT T i) (own i):=by
 rcases h.st.each (h.rng G) with ⟨-,z⟩|⟨z,-,-⟩
 ·exact z
 ·exact absurd ((h.free (h.rng G)).1 z) G
theorem nC.none(h:nC X T own ex M){i:Nat}(G:i<32)(J:(M i).K=0):nT T i=bY/\own i=[]:=by
 rcases h.st.each G with ⟨-,z⟩|⟨-,z⟩
 ·exact absurd ((h.free G).2 J) z.notFree
 ·exact z
theorem nC.kind(h:nC X T own ex M)(i:Nat):(nT T i).K=(M i).K:=by rw[h.abs];rfl
theorem nC.links(h:nC X T own ex M)(i:Nat):(nT T i).L=(M i).L:=by rw[h.abs];rfl
theorem nC.ents(h:nC X T own ex M)(i:Nat):(nT T i).E=(M i).E:=by rw[h.abs];rfl
theorem nC.putAt(h:nC X T own ex M){i:Nat}(J:i<32){n:bS}(hB:n.B.length=13)(hR:cm n)(h2:dA n<=(aY (az X (ct X (own i)))).length){ex':List Nat}
  (hc:∀b,b<256->(dv n).count b+ex'.count b=(dv (nT T i)).count b+ex.count b) (hx:∀c∈ex',c≠0/\c<256) (ht:jS X n):
  ∃cY,nC (az X (lW X i n (own i))) (nM T i n) cY ex' (na M i (sA X n))/\oU X (az X (lW X i n (own i))) (own i)/\(aY (az X (lW X i n (own i)))).length+dA n=(aY X).length+(own i).length/\(∀k,k<816->(az X (lW X i n (own i))).getD k 0=X.getD k 0)/\
   nS X (az X (lW X i n (own i))) (12+8*dA n)/\(cY i).length=dA n/\∀j,j≠i->cY j=own j:=by
 obtain⟨p1,p2,p3,p4⟩:=h.st.put J hB hR h2 hc hx ht;have W:((aY (az X (ct X (own i)))).take (dA n)).length=dA n:=by rw[aJ];omega
 refine⟨_,⟨p1,λj=> ?_⟩,p2,p3,p4,?_,by rw[IZ,aB rfl];exact W,λj hj=>by rw[IZ,aA hj]⟩
 ·have hn:sA (az X (lW X i n (own i))) n=sA X n:=by
   have aa:∀c∈dv n,c≠0/\c<256/\dn X c=true/\c∉own i:=λc z=>by
    have U:=qu hB hR c z;have h5:=hc c U.2;have G:0<(dv n).count c:=List.count_pos_iff.2 z;rcases eo (ex.count c) with h7|h7
    ·have V:c∈dv (nT T i):=List.count_pos_iff.1 (by omega)
     exact⟨U.1,U.2,h.st.used J (bW _ V),λh9=>h.st.inner J h9 V⟩
    ·have V:c∈ex:=List.count_pos_iff.1 h7
     exact⟨U.1,U.2,h.st.usedEx V,λh9=>h.st.apartEx J (bT _ h9) V⟩
   exact BF hB (λhK=>(tG hR hK).2) λc z k hk=>by
    have :=aa c z;exact p2 c this.2.1 this.1 this.2.2.1 this.2.2.2 k hk
  have :=h.st.nodesUp h.abs p2 J (λj _=>h.st.filesOwn J j) n j;rw[hn] at this;exact this
 ·refine nS.puts (L:=uy++((List.range 8).map (824+8*i+·)++Eh ((aY (az X (ct X (own i)))).take (dA n)))) ?_ λp hp=> ?_
  ·rw[aC,aC,vG,W]
   simp[uy];omega
  ·rw[aR,aR]
   rcases yX J hR (own:=own i) rfl h2 hp with G|G|G
   ·exact .inl (sD G)
   ·exact .inr (.inl (Hf G))
   ·exact .inr (.inr (y8 G.1 G.2))
theorem nC.freeGive(h:nC X T own ex M){i:Nat}(U:i<32):(aY (az X (ct X (own i)))).length=(aY X).length+(own i).length:=by
 rcases h.st.each U with ⟨-,z⟩|⟨-,-,e⟩
 ·exact sx z.mem z.nodup (λc G=>h.st.used U (bT _ G)) λc G J=>(iq (own i) X h.st.w64 h.st.len).2.1 c G J
 ·rw[e];rfl
theorem nC.put(h:nC X T own ex M){i:Nat}(W:(M i).K≠0){n:bS}(hB:n.B.length=13)(hR:cm n){r:Int}{qs:List (Int×Int)}(hp:nK X (i:Int) n r qs){ex':List Nat}
  (hc:∀b,b<256->(dv n).count b+ex'.count b=(dv (nT T i)).count b+ex.count b) (hx:∀c∈ex',c≠0/\c<256) (ht:jS X n):
  (r=7/\qs=[]/\(aY X).length+dA (nT T i)<dA n)\/(r=0/\∃U,nC (az X qs) (nM T i n) U ex' (na M i (sA X n))/\oU X (az X qs) (own i)/\(aY (az X qs)).length+dA n=(aY X).length+dA (nT T i)/\(∀k,k<816->(az X qs).getD k 0=X.getD k 0)/\
   nS X (az X qs) (12+8*dA n)):=by
 have jr:=h.rng W;have z:=h.store W;have V:=h.freeGive jr;rw[z.ownLen] at V;rcases hp.over z with ⟨-,G,-⟩|⟨G,-,h2,J⟩|⟨G,-,h2,J⟩
 ·exact absurd hR G
 ·exact .inl ⟨G,J,by omega⟩
 ·right
  rw[aF] at J;subst J;obtain⟨U,p1,p2,p3,p4,p5,-,-⟩:=h.putAt jr hB hR h2 hc hx ht;rw[z.ownLen] at p3;exact⟨G,U,p1,p2,p3,p4,p5⟩
theorem nC.new(h:nC X T own ex M){n:bS}(hB:n.B.length=13)(hR:cm n)(hn:dA n=0)(hf:dv n=[])(ht:jS X n){i r:Int}{qs:List (Int×Int)}(hp:ace X n i r qs):
  (r=7/\qs=[]/\vB M=Option.none)\/(r=0/\∃j:Nat,i=(j:Int)/\vB M=some j/\j<32/\(M j).K=0/\∃U,nC (az X qs) (nM T j n) U ex (na M j (sA X n))/\(aY (az X qs)).length=(aY X).length/\(∀k,k<816->(az X qs).getD k 0=X.getD k 0)/\nS X (az X qs) 12):=by
 rcases hp with ⟨h1,-,z,h3⟩|⟨j,G,ac,aa,h1⟩
 ·refine .inl ⟨h1,h3,?_⟩
  unfold vB;rw[List.find?_eq_none];intro k J;rw[cu] at J;have :=(h.free J).2;simp;exact λe=>z k J (this e)
 ·have Co:=(h.free G).1 ac
  have V:vB M=some j:=by
   unfold vB;rw[List.find?_range_eq_some];refine⟨by simpa using Co,by simpa using G,λk J=> ?_⟩;have :=(h.free (i:=k) (by omega)).2;simp;exact λe=>aa k J (this e)
  obtain⟨e1,e2⟩:=h.none G Co;rcases h1 with ⟨-,-,z,-⟩|⟨-,-,-,z,-⟩|⟨z,h3,-,h4,h5⟩
  ·exact absurd hR z
  ·omega
  ·right
   subst h5;have W:dA n<=(aY (az X (ct X (own j)))).length:=by omega
   obtain⟨U,p1,-,p3,p4,p5,-,-⟩:=h.putAt G hB hR W (ex':=ex) (λb _=>by rw[hf,e1];rfl) h.st.exr ht;rw[e2] at p1 p3 p4 p5;rw[hn] at p3 p5;exact⟨z,j,h3,V,G,Co,U,p1,by simpa using p3,p4,p5⟩
theorem nC.drop(h:nC X T own ex M){i:Nat}(hi:(M i).K≠0){r:Int}{qs:List (Int×Int)}(J:NR X (i:Int) r qs):
  r=0/\∃cY,nC (az X qs) (nM T i bY) cY ex (na M i vQ)/\(aY X).length<=(aY (az X qs)).length/\(∀k,k<816->(az X qs).getD k 0=X.getD k 0)/\nS X (az X qs) 12:=by
 have V:=h.rng hi;have G:=h.store hi;rcases J with ⟨-,z,-⟩|⟨-,-,z,-⟩|⟨-,-,-,z,-⟩|⟨z,n,o,hs,W⟩
 ·exact absurd ⟨by omega,by omega⟩ z
 ·exact absurd z G.notFree
 ·exact absurd G (z _ _)
 ·obtain⟨e1,e2⟩:=G.uniq hs
  subst e1 e2;rw[aF] at W;subst W;obtain⟨p1,p2,p3,p4⟩:=h.st.drop V;refine⟨z,_,⟨p1,λj=> ?_⟩,by omega,p4,?_⟩
  ·exact h.st.nodesUp h.abs p2 V (λj _ c _=>by simp) bY j
  ·refine nS.puts (L:=uy++(List.range 8).map (824+8*i+·)) (by simp[uy]) λp J=> ?_
   rw[aR];rcases aR.1 J with U|U
   ·exact .inl (sD (tF _ _ _ U))
   ·obtain⟨j,hj,h4,-⟩:=lU U
    exact .inr (Hf (by omega))
end
theorem Tg:∀E:List (ByteArray×Int),(eD E 0).length+(eD E 1).length+(eD E 2).length+(eD E 3).length=E.length
 | []=>rfl
 |p::E=>by
  have J:=Tg E;have G:=Qm p;have z:∀b,(eD (p::E) b).length=(eD E b).length+(if KV p=b then 1 else 0):=λb=>by
   unfold eD;rw[fE];by_cases h:KV p=b
   ·simp[h]
   ·simp[h]
  rw[z,z,z,z,cA];rcases (show KV p=0\/KV p=1\/KV p=2\/KV p=3 by omega) with h|h|h|h<;>rw[h]<;>simp<;>omega
theorem nB (n:bS):eQ n=(if 6<(fu n.B).length then 1 else 0)+((eD n.E 0).length+2)/3+((eD n.E 1).length+2)/3+((eD n.E 2).length+2)/3+((eD n.E 3).length+2)/3:=rfl
theorem Rl (z:cm n):n.E.length<=24:=by
 rcases z.2.2 with ⟨-,h⟩|⟨-,h⟩
 ·have :=h.2.1;omega
 ·exact h.1
theorem sF (h:cm n):dA n<=11:=by
 have G:=NK h;have U:=Rl h;have J:=Tg n.E;have z:=nB n;unfold dA;split
 ·rw[z];split<;>omega
 ·omega
theorem VN (hF:n'.F=n.F)(J:n'.B=n.B)(z:∀b,(eD n'.E b).length<=(eD n.E b).length)(hl:n'.E.length<=n.E.length):dA n'<=dA n:=by
 have h0:=z 0;have V:=z 1;have W:=z 2;have h3:=z 3;unfold dA;rw[hF];split
 ·rw[nB,nB,J];omega
 ·unfold eV bj
  rw[J];by_cases G:n.B.drop 5≠List.replicate 8 0
  ·rw[aB (.inr G),aB (.inr G)];omega
  ·by_cases U:5<(n'.E.length+3)/4
   ·rw[aB (.inl U),aB (.inl (by omega))];omega
   ·rw[aA (λh=>h.elim U G)]
    split<;>omega
theorem LJ (A B:List (ByteArray×Int))(b:Nat):eD (A++B) b=eD A b++eD B b:=dZ ..
theorem VO{A M B:List (ByteArray×Int)}(h:n.E=A++(M++B)):dA (kZ n (A++B))<=dA n:=by
 refine VN rfl rfl (λb=> ?_) ?_
 ·show(eD (A++B) b).length<=_
  rw[h,LJ,LJ,LJ,aC,aC,aC];omega
 ·show(A++B).length<=_
  rw[h];simp
theorem BJ {l l':List Int}:∀k,(∀j,j<k->sO l' j->sO l j)->(gy l' k).length<=(gy l k).length
 |0,_=>by simp[gy]
 |k+1,h=>by
  have G:=BJ (l:=l) (l':=l') k λj J=>h j (by omega)
  unfold gy;by_cases z:sO l' k
  ·rw[aB z,aB (h k (by omega) z)]
   simp;omega
  ·rw[aA z]
   split
   ·simp;omega
   ·exact G
theorem VP{c:Nat}(hF:n'.F=n.F)(hE:n'.E=n.E)(V:n'.B.length=13)(G:∀k,n'.B.getD k 0=if k<c then n.B.getD k 0 else 0):dA n'<=dA n:=by
 unfold dA;rw[hF];split
 ·rw[nB,nB,hE]
  have :=BJ (l:=n.B) (l':=n'.B) 13 λj hj hs=>by
   obtain⟨h,h2⟩:=hs;by_cases J:j<c
   ·rw[G,aB J] at h
    refine⟨h,λU=>h2 ?_⟩;obtain⟨a1,a2,a3,a4,a5⟩:=U;unfold lT;rw[G,G,aB J,aB (by omega:j-1<c)];exact⟨a1,a2,a3,a4,a5⟩
   ·rw[G,aA J] at h
    unfold DN at h;omega
  unfold fu;split
  ·next h6=>rw[aB];omega
  ·omega
 ·unfold eV
  rw[hE];by_cases z:n.B.drop 5≠List.replicate 8 0
  ·rw[aB (c:=5<bj n.E.length\/n.B.drop 5≠List.replicate 8 0) (.inr z)]
   split<;>omega
  ·have z:n.B.drop 5=List.replicate 8 0:=by simpa using z
   have W:n'.B.drop 5=List.replicate 8 0:=by
    apply cX
    ·simp[V]
    ·intro k h h2
     have U:=G (5+k);have h4:(n.B.drop 5).getD k 0=0:=by
      rw[z,aj,bB];split<;>rfl
     rw[bV] at h;have h5:n'.B[5+k]'(by omega)=n'.B.getD (5+k) 0:=by simp[show 5+k<n'.B.length by omega]
     have h6:(n.B.drop 5).getD k 0=n.B.getD (5+k) 0:=by simp
     rw[List.getElem_drop,h5,U,List.getElem_replicate];split
     ·omega
     ·rfl
   rw[z,W];exact aI _
theorem Hg (hF:n'.F=n.F)(z:n'.E=n.E)(h:n'.B=n.B):dA n'=dA n:=by
 unfold dA eV;rw[hF,nB,nB,z,h]
theorem VQ{a b:ByteArray}(h:JX a b):leB b a=false:=by
 have G:¬JX b a:=λz=>mo _ (vz h z)
 have z:b≠a:=λe=>by subst e;exact mo _ h
 unfold leB;rw[Bool.or_eq_false_iff];refine⟨?_,?_⟩
 ·cases h3:Op.bytesLess b.toList a.toList
  ·rfl
  ·exact absurd h3 G
 ·cases h3:(b.toList==a.toList)
  ·rfl
  ·exact absurd (JY (by simpa using h3)) z
def I9 (E:List (ByteArray×Int)):Prop:=E.length<=24/\(∀e∈E,ig (bl e.1)=true/\0<=e.2/\e.2<32)/\yc E
theorem Ti{E:List (ByteArray×Int)}(h:I9 E):∀k,k<E.length->Ev E k:=λk z=>by
 have G:eY E k=E[k].1:=by simp[eY,z]
 have V:jq E k=E[k].2:=by simp[jq,z]
 obtain⟨J,h2,W⟩:=h.2.1 E[k] (bM z);refine⟨by rw[G];exact J,by rw[V];omega,λh0=> ?_⟩;have U:eY E (k-1)=(E[k-1]'(by omega)).1:=by simp[eY,show k-1<E.length by omega]
 rw[G,U];exact VQ (dh.1 h.2.2 (k-1) k (by omega) z (by omega))
theorem aeW (V:cm n)(hK:n.K=2):I9 n.E:=by
 rcases V.2.2 with ⟨h,-⟩|⟨-,h⟩
 ·omega
 ·refine⟨h.1,λe J=> ?_,JZ h⟩
  obtain⟨k,z,rfl⟩:=b9 J;have G:=h.2.2.2 k z;have U:eY n.E k=n.E[k].1:=by simp[eY,z]
  have W:jq n.E k=n.E[k].2:=by simp[jq,z]
  rw[Ev,U,W] at G;exact⟨G.1,by omega,by omega⟩
theorem Kg (z:cm n)(U:n.K=2){E:List (ByteArray×Int)}(h:I9 E):cm (kZ n E):=by
 rcases z.2.2 with ⟨G,-⟩|⟨G,J⟩
 ·omega
 ·exact⟨z.1,z.2.1,.inr ⟨G,h.1,rfl,J.2.2.1,Ti h⟩⟩
section
variable {X:List Int} {T:List (bS×Value)} {own:Nat->List Nat} {ex:List Nat} {M:Nat->Nd}
theorem nC.node(h:nC X T own ex M){i:Nat}(z:(M i).K=2):(M i).D=[]:=by
 have e:=h.abs i;have G:=h.kind i;rw[e];show(if (nT T i).K=1 then _ else [])=[];rw[aA]
theorem nC.ed(h:nC X T own ex M){d:Nat}(z:(M d).K=2):I9 (M d).E:=by
 rw[<-h.ents];exact aeW (h.store (by omega)).right (by rw[h.kind];exact z)
def Goes (X:List Int) (qs:List (Int×Int)) (ex:List Nat) (M':Nat->Nd) (n:Nat):Prop:=
 ∃h z,nC (az X qs) h z ex M'/\(∀k,k<816->(az X qs).getD k 0=X.getD k 0)/\nS X (az X qs) n
theorem nC.edit(h:nC X T own ex M){d:Nat}(U:(M d).K=2){E:List (ByteArray×Int)}(hE:I9 E){r:Int}{qs:List (Int×Int)}(hp:nK X (d:Int) (kZ (nT T d) E) r qs):
  (r=7/\qs=[]/\(aY X).length+dA (nT T d)<dA (kZ (nT T d) E))\/(r=0/\Goes X qs ex (ou M d E) 100/\(aY (az X qs)).length+dA (kZ (nT T d) E)=(aY X).length+dA (nT T d)):=by
 have z:=h.store (i:=d) (by omega);have J:(nT T d).K=2:=by rw[h.kind];exact U
 have W:=Kg z.right J hE;have hn:sA X (kZ (nT T d) E)={ M d with E:=E }:=by
  unfold sA;have V:(kZ (nT T d) E).K=(M d).K:=h.kind d;have e2:(kZ (nT T d) E).L=(M d).L:=h.links d;rw[V,e2,aA];show({ K:=(M d).K,L:=(M d).L,D:=[],E:=E }:Nd)={ K:=(M d).K,L:=(M d).L,D:=(M d).D,E:=E };rw[h.node U]
 rcases h.put (i:=d) (by omega) (n:=kZ (nT T d) E) z.len W hp (ex':=ex) (λb _=>rfl) h.st.exr (λG=>by
   have V:(kZ (nT T d) E).K=(M d).K:=h.kind d;omega) with G|⟨G,cY,p1,-,p3,p4,p5⟩
 ·exact .inl G
 ·rw[hn] at p1
  exact .inr ⟨G,⟨_,_,p1,p4,p5.mono (by have :=sF W;omega)⟩,p3⟩
def wP (E:List (ByteArray×Int)) (nm:ByteArray) (i:Int):List (ByteArray×Int):=xw (iX E nm) (nm,i)
theorem VR {E A M B:List (ByteArray×Int)}{nm:ByteArray}(h:iH E A M B nm):iH (iX E nm) A [] B nm:=⟨by rw[tE h];rfl,h.ahead,h.behind,.inl rfl⟩
theorem Aw {E A M B:List (ByteArray×Int)}{nm:ByteArray}(h:iH E A M B nm)(i:Int):wP E nm i=A++([(nm,i)]++B):=Av (VR h) i
theorem ZF {E:List (ByteArray×Int)}(h:I9 E)(nm:ByteArray):I9 (iX E nm):=
 ⟨cL (vC _ _) h.1,λe z=>h.2.1 e (pH z),h.2.2.sublist List.filter_sublist⟩
theorem ZG {E:List (ByteArray×Int)}(h:I9 E){nm:ByteArray}{i:Int}(V:(wP E nm i).length<=24)(W:ig (bl nm)=true)(G:0<=i/\i<32):I9 (wP E nm i):=by
 refine⟨V,λe U=> ?_,?_⟩
 ·rcases G1 U with rfl|J
  ·exact⟨W,G.1,G.2⟩
  ·exact h.2.1 e (pH J)
 ·obtain⟨A,M,B,z⟩:=lA h.2.2 nm
  rw[Aw z];exact z.rises h.2.2 _ (.inr ⟨i,rfl⟩)
def tI (X:List Int) (ex:List Nat) (M:Nat->Nd) (d:Nat) (nm:ByteArray) (i:Int) (r:Int) (qs:List (Int×Int)):Prop:=
 (r=7/\qs=[]/\(24<(wP (M d).E nm i).length\/(aY X).length<11))\/(r=0/\(wP (M d).E nm i).length<=24/\Goes X qs ex (ou M d (wP (M d).E nm i)) 100)
theorem nC.enter(h:nC X T own ex M){d:Nat}(G:(M d).K=2){nm:ByteArray}{i:Int}(hn:ig (bl nm)=true)(hi:0<=i/\i<32)(V:(wP (M d).E nm i).length<=24){r:Int}{qs:List (Int×Int)}(W:nK X (d:Int) (kZ (nT T d) (wP (M d).E nm i)) r qs):tI X ex M d nm i r qs:=by
 have U:=ZG (h.ed G) V hn hi;rcases h.edit G U W with ⟨z,J,h3⟩|⟨z,J,-⟩
 ·refine .inl ⟨z,J,.inr ?_⟩
  have :=sF (Kg (h.store (i:=d) (by omega)).right (by rw[h.kind];exact G) U);omega
 ·exact .inr ⟨z,V,J⟩
def Ay (X:List Int) (ex:List Nat) (M:Nat->Nd) (d:Nat) (nm:ByteArray) (r:Int) (qs:List (Int×Int)):Prop:=
 r=0/\Goes X qs ex (ou M d (iX (M d).E nm)) 100/\(aY X).length<=(aY (az X qs)).length
theorem nC.leave(h:nC X T own ex M){d:Nat}(z:(M d).K=2){nm:ByteArray}{r:Int}{qs:List (Int×Int)}(V:nK X (d:Int) (kZ (nT T d) (iX (M d).E nm)) r qs):Ay X ex M d nm r qs:=by
 have hE:=ZF (h.ed z) nm;obtain⟨A,N,B,J⟩:=lA (h.ed z).2.2 nm;have W:dA (kZ (nT T d) (iX (M d).E nm))<=dA (nT T d):=by
  rw[tE J];exact VO (M:=N) (by rw[h.ents];exact J.eq)
 rcases h.edit z hE V with ⟨G,U,h3⟩|⟨G,U,h3⟩
 ·omega
 ·exact⟨G,U,by omega⟩
def Hh (n:Nd):Nd:=if n.L=1 then vQ else { n with L:=n.L-1 }
def rU (X:List Int) (ex:List Nat) (M:Nat->Nd) (i:Nat) (r:Int) (qs:List (Int×Int)):Prop:=
 r=0/\Goes X qs ex (na M i (Hh (M i))) 100/\(aY X).length<=(aY (az X qs)).length
theorem nC.unlinkDrop(h:nC X T own ex M){i:Nat}(V:(M i).K≠0)(z:(M i).L=1){r:Int}{qs:List (Int×Int)}(J:NR X (i:Int) r qs):rU X ex M i r qs:=by
 obtain⟨G,U,p1,W,p3,p4⟩:=h.drop V J;refine⟨G,⟨nM T i bY,U,?_,p3,p4.mono (by omega)⟩,W⟩;unfold Hh;rw[aB z];exact p1
theorem Rm {n:bS}(h:cm n){l:Int}(z:0<=l/\l<=65535):cm { n with L:=l }:=⟨h.1,z,h.2.2⟩
theorem nC.links'(h:nC X T own ex M){i:Nat}(G:(M i).K≠0){l:Int}(hl:0<=l/\l<=65535){r:Int}{qs:List (Int×Int)}(W:nK X (i:Int) { nT T i with L:=l } r qs):
  r=0/\Goes X qs ex (na M i { M i with L:=l }) 100/\(aY X).length=(aY (az X qs)).length:=by
 have z:=h.store G;have V:=Rm z.right hl;have e:dA { nT T i with L:=l }=dA (nT T i):=Hg rfl rfl rfl;have hn:sA X { nT T i with L:=l }={ M i with L:=l }:=by rw[h.abs i];rfl
 rcases h.put G (n:={ nT T i with L:=l }) z.len V W (ex':=ex) (λb _=>rfl) h.st.exr (h.st.tails i (h.rng G)) with ⟨-,-,J⟩|⟨J,cY,U,-,p3,p4,p5⟩
 ·omega
 ·rw[hn] at U
  exact⟨J,⟨_,_,U,p4,p5.mono (by have :=sF V;revert this;generalize dA { nT T i with L:=l }=a;omega)⟩,by omega⟩
theorem nC.unlinkPut(h:nC X T own ex M){i:Nat}(z:(M i).K≠0)(W:1<(M i).L){r:Int}{qs:List (Int×Int)}(J:nK X (i:Int) { nT T i with L:=(M i).L-1 } r qs):rU X ex M i r qs:=by
 have U:=(h.store z).right.2.1;rw[h.links] at U;obtain⟨G,V,h3⟩:=h.links' z (l:=(M i).L-1) (by omega) J;refine⟨G,?_,by omega⟩;unfold Hh;rw[aA];exact V
end
structure xh (X:List Int) (T:List (bS×Value)) (own:Nat->List Nat) (i:Nat) (l:List Nat) (M:Nat->Nd):Prop where
 st:ru X T (nM T i bY) own l
 abs:∀j,j≠i->M j=sA X (nT T j)
theorem ZH (own:Nat->List Nat)(i:Nat):IZ own i (own i)=own:=by
 funext j
 unfold IZ;split
 ·next e=>rw[e]
 ·rfl
section
variable {X:List Int} {T:List (bS×Value)} {own:Nat->List Nat} {ex l:List Nat} {M:Nat->Nd}
theorem nC.opened(h:nC X T own [] M){i:Nat}(G:i<32):xh X T own i (dv (nT T i)) M:=by
 have z:=λj=>pI h.st.gots.len G bY j
 refine⟨⟨h.st.len,h.st.w64,h.st.sup,h.st.gots,h.st.all,λb hb=> ?_,λc V=>h.st.rng G (bW _ V),λj hj=> ?_,by unfold nM;rw[dg];exact h.st.gots.len,λj=> ?_⟩,λj _=>h.abs j⟩
 ·have J:=(G3 h.st.gots.len own G bY (own i) b 32).2 G
  have U:=h.st.once b hb;rw[ZH,uv,bz] at J;unfold nA at J;rw[fL] at J;unfold xu at U ⊢;rw[List.count_nil,dE] at U;rw[show jZ (nM T i bY) own 32 b+(dv (nT T i)).count b=jZ T own 32 b by omega];exact U
 ·rw[z]
  split
  ·intro W;simp[bY] at W
  ·exact h.st.tails j hj
 ·rw[z]
  split
  ·exact .inr rfl
  ·exact .inl rfl
theorem xh.vir{i:Nat}(_:xh X T own i l M){j:Nat}(h:j≠i):nT (nM T i bY) j=nT T j:=by
 unfold nM nT;rw[aj,List.getElem?_set_ne (cV h),<-aj]
theorem xh.step{i:Nat}(h:xh X T own i l M){Y:List Int}{l' m:List Nat}(V:ru Y T (nM T i bY) own l')(W:oU X Y m)(hm:∀c∈m,c∈l):xh Y T own i l' M:=by
 refine⟨V,λj J=> ?_⟩;rw[h.abs j J];have :=h.st.nodes W (j:=j) λc G U=>by
  rcases dF j 32 with z|z
  ·exact h.st.apartEx z (bW _ G) (hm c U)
  ·rw[h.vir J,h.st.gots.zero z,uv] at G;simp at G
 rw[h.vir J] at this;exact this.symm
theorem xh.words{i:Nat}(h:xh X T own i l M)(W:i<32){qs:List (Int×Int)}(V:∀p∈qs,1080<=p.1.toNat/\(p.1.toNat-1080)/8∈l)(z:In64 (az X qs)):xh (az X qs) T own i l M/\aY (az X qs)=aY X/\∀k,k<1080->(az X qs).getD k 0=X.getD k 0:=by
 have G:nT (nM T i bY) i=bY:=by rw[pI h.st.gots.len W,aB rfl]
 obtain⟨h1,h2,h3,h4⟩:=h.st.words W (λp J=>⟨(V p J).1,.inr (V p J).2⟩) z (by rw[G];intro hK;simp[bY] at hK);exact⟨h.step h1 h2 (λc U=>by rw[G,uv] at U;simpa using U),h3,h4⟩
theorem xh.close{i:Nat}(h:xh X T own i l M)(V:i<32){n:bS}(hB:n.B.length=13)(W:cm n)(G:eJ X (i:Int) (nT T i) (own i)){r:Int}{qs:List (Int×Int)}(hp:nK X (i:Int) n r qs)
  (z:∀b,b<256->(dv n).count b=l.count b) (ht:jS X n):
  (r=7/\qs=[]/\(aY X).length+dA (nT T i)<dA n)\/(r=0/\Goes X qs [] (na M i (sA X n)) 100):=by
 have ag:(aY (az X (ct X (own i)))).length=(aY X).length+(own i).length:=sx G.mem G.nodup (λc z=>h.st.used V (bT _ z)) λc z ac=>(iq (own i) X h.st.w64 h.st.len).2.1 c z ac
 rw[G.ownLen] at ag;have hz:nT (nM T i bY) i=bY:=by rw[pI h.st.gots.len V,aB rfl]
 rcases hp.over G with ⟨-,J,-⟩|⟨J,-,h2,h3⟩|⟨J,-,h2,h3⟩
 ·exact absurd W J
 ·exact .inl ⟨J,h3,by omega⟩
 ·right
  rw[aF] at h3;subst h3;obtain⟨p1,p2,p3,p4⟩:=h.st.put V hB W h2 (ex':=[]) (λb hb=>by rw[hz,uv,z b hb];simp) (by simp) ht;have af:nM (nM T i bY) i n=nM T i n:=by unfold nM;rw[List.set_set]
  rw[af] at p1;have ae:((aY (az X (ct X (own i)))).take (dA n)).length=dA n:=by rw[aJ];omega
  have ai:=sF W;refine⟨J,_,_,⟨p1,λj=> ?_⟩,p4,nS.puts (L:=uy++((List.range 8).map (824+8*i+·)++Eh ((aY (az X (ct X (own i)))).take (dA n)))) ?_ λp hp=> ?_⟩
  ·rw[pI h.st.gots.len V]
   by_cases e:i=j
   ·subst e
    rw[nz,aB rfl];exact(BF hB (λhK=>(tG W hK).2) λc aa k hk=>by
     have h4:=qu hB W c aa;have h5:c∈l:=by
      have :=z c h4.2;have U:0<(dv n).count c:=List.count_pos_iff.2 aa;exact List.count_pos_iff.1 (by omega)
     exact p2 c h4.2 h4.1 (h.st.usedEx h5) (λh7=>h.st.apartEx V (bT _ h7) h5) k hk).symm
   ·rw[dH _ _ (cV e),aA e,h.abs j (cV e)]
    have :=h.st.nodes p2 (j:=j) λc z ah=>by
     rcases dF j 32 with J|J
     ·exact h.st.apart J V (cV e) (bW _ z) (bT _ ah)
     ·rw[h.vir (cV e),h.st.gots.zero J,uv] at z;simp at z
    rw[h.vir (cV e)] at this;exact this.symm
  ·rw[aC,aC,vG,ae]
   simp[uy];omega
  ·rw[aR,aR]
   rcases yX V W (own:=own i) rfl h2 hp with U|U|U
   ·exact .inl (sD U)
   ·exact .inr (.inl (Hf U))
   ·exact .inr (.inr (y8 U.1 U.2))
end
theorem Hj:∀(qs:List (Int×Int)) (X:List Int) {k:Nat} {v:Int},k<X.length->(∀q∈qs,q.1.toNat=k->q.2=v)->((∃q∈qs,q.1.toNat=k)\/X.getD k 0=v)->(az X qs).getD k 0=v
 | [],X,k,v,_,_,he=>by
  rcases he with ⟨q,U,-⟩|h
  ·simp at U
  ·exact h
 |q::qs,X,k,v,hk,h,he=>by
  show(az (X.set q.1.toNat q.2) qs).getD k 0=v;refine Hj qs _ (by rw[dg];exact hk) (λp z=>h p (by simp[z])) ?_;by_cases e:q.1.toNat=k
  ·right
   rw[jg _ _ _ _ (by omega),aB e];exact h q (by simp) e
  ·rcases he with ⟨p,z,G⟩|J
   ·rcases aM.1 z with rfl|z
    ·exact absurd G e
    ·exact .inl ⟨p,z,G⟩
   ·right
    by_cases V:q.1.toNat<X.length
    ·rw[jg _ _ _ _ V,aA e];exact J
    ·rw[kM (by omega)];exact J
def rL (c:List Int) (a:Nat):Int:=((l7 (((c.drop a).take 8).map Int.toNat):Nat):Int)
def ft (B c:List Int):Nat->List (Int×Int)
 |0=>[]
 |k+1=>ft B c k++(if B.getD k 0=0 then [] else (List.range 8).map λw:Nat=>(iG (B.getD k 0)+(w:Int),rL c (64*k+8*w)))
def Az (c:List Int):Prop:=c.length=832/\∀x∈c,0<=x/\x<256
theorem Az.get(h:Az c)(k:Nat):0<=c.getD k 0/\c.getD k 0<256:=by
 by_cases z:k<c.length
 ·rw[aj,aD z]
  exact h.2 _ (bM z)
 ·rw[aj,aZ (by omega)]
  decide
theorem VS (h:Az c)(a:Nat){j:Nat}(G:j<8):rG (rL c a).toNat j=(c.getD (a+j) 0).toNat:=by
 unfold rL;rw[aF,Jj]
 ·rw[aj,bO,bU,aB G,cj,aj]
  cases c[a+j]? <;>rfl
 ·intro x J
  obtain⟨y,z,rfl⟩:=bH.1 J;have :=h.2 y (gj (bL z));omega
theorem VT (h:Az c)(a:Nat):0<=rL c a/\rL c a<18446744073709551616:=by
 have z:∀x∈((c.drop a).take 8).map Int.toNat,x<256:=λx G=>by
  obtain⟨y,J,rfl⟩:=bH.1 G;have :=h.2 y (gj (bL J));omega
 have V:=Fl z;have U:256^(((c.drop a).take 8).map Int.toNat).length<=256^8:=jc (by decide) (by simp;omega);unfold rL;omega
theorem tJ {B c:List Int}{p:Int×Int}:∀{m:Nat},p∈ft B c m↔∃k:Nat,k<m/\B.getD k 0≠0/\∃w:Nat,w<8/\p=(iG (B.getD k 0)+(w:Int),rL c (64*k+8*w))
 |0=>by simp[ft]
 |m+1=>by
  unfold ft;rw[aR,tJ (m:=m)];constructor
  ·rintro (⟨k,J,z⟩|h)
   ·exact⟨k,by omega,z⟩
   ·split at h
    ·simp at h
    ·next h0=>
     obtain⟨w,G,rfl⟩:=bH.1 h;exact⟨m,by omega,h0,w,by simpa using G,rfl⟩
  ·rintro⟨k,J,z,w,G,rfl⟩
   by_cases e:k=m
   ·subst e
    right
    rw[aA z];exact bH.2 ⟨w,by simpa using G,rfl⟩
   ·exact .inl ⟨k,by omega,z,w,G,rfl⟩
theorem tK (B c:List Int):∀m,(ft B c m).length<=8*m
 |0=>by simp[ft]
 |m+1=>by
  unfold ft;have :=tK B c m;rw[aC];split<;>simp<;>omega
theorem mG (h:lh B){k:Nat}(z:k<13):0<=B.getD k 0/\B.getD k 0<256:=(h k z).1
theorem ZJ (G:lh B){j k:Nat}(J:j<13)(U:k<13)(h:B.getD k 0≠0)(e:B.getD j 0=B.getD k 0):j=k:=by
 rcases Nat.lt_trichotomy j k with z|z|z
 ·exact absurd e ((G k U).2 h j z)
 ·exact z
 ·exact absurd e.symm ((G j J).2 (by rw[e];exact h) k z)
theorem Hk (G:n.B.length=13){k:Nat}(z:k<13)(h:n.B.getD k 0≠0):(n.B.getD k 0).toNat∈dv n:=by
 unfold dv eA;refine bH.2 ⟨n.B.getD k 0,List.mem_filter.2 ⟨?_,by simpa using h⟩,rfl⟩;rw[aW (by omega),aj,aD (by omega)];exact bM _
section
variable {X:List Int} {n:bS} {c:List Int}
theorem OD (G:n.B.length=13)(U:lh n.B):∀p∈ft n.B c 13,1080<=p.1.toNat/\(p.1.toNat-1080)/8∈dv n:=by
 intro p z;obtain⟨k,h,J,w,W,rfl⟩:=tJ.1 z;have V:=mG U h;have h2:=Hk G h J;have e:(iG (n.B.getD k 0)+(w:Int)).toNat=1080+8*(n.B.getD k 0).toNat+w:=by
  unfold iG;rw[aA];omega
 dsimp only
 rw[e];refine⟨by omega,?_⟩;rwa[show(1080+8*(n.B.getD k 0).toNat+w-1080)/8=(n.B.getD k 0).toNat by omega]
theorem VU (hX:X.length=3128)(G:lh n.B){k w:Nat}(z:k<13)(hw:w<8)(U:n.B.getD k 0≠0):(az X (ft n.B c 13)).getD (1080+8*(n.B.getD k 0).toNat+w) 0=rL c (64*k+8*w):=by
 have h1:=mG G z;refine Hj _ _ (by omega) (λq hq V=> ?_) (.inl ⟨_,tJ.2 ⟨k,z,U,w,hw,rfl⟩,?_⟩)
 ·obtain⟨J,h,aa,w',W,rfl⟩:=tJ.1 hq
  have h2:=mG G h;have e:(iG (n.B.getD J 0)+(w':Int)).toNat=1080+8*(n.B.getD J 0).toNat+w':=by
   unfold iG;rw[aA];omega
  dsimp only at V
  rw[e] at V;have e1:J=k:=ZJ G h z U (by omega);subst e1;have e2:w'=w:=by omega
  rw[e2]
 ·dsimp only
  unfold iG;rw[aA];omega
theorem OE (U:X.length=3128)(J:lh n.B)(h:Az c){k j:Nat}(G:k<13)(V:j<64)(z:n.B.getD k 0≠0):rG ((az X (ft n.B c 13)).getD (1080+8*(n.B.getD k 0).toNat+j/8) 0).toNat (j%8)=(c.getD (64*k+j) 0).toNat:=by
 rw[VU U J G (by omega) z,VS h _ (by omega)]
 congr 2
 omega
theorem y9 (h:In64 X)(G:Az c):In64 (az X (ft n.B c 13)):=h.put λp z=>by
 obtain⟨k,V,U,w,J,rfl⟩:=tJ.1 z;exact VT G _
theorem Hl (J:X.length=3128)(G:lh n.B)(z:Az c){k:Nat}(U:k<832):ma (az X (ft n.B c 13)) n k=if n.B.getD (k/64) 0=0 then 0 else c.getD k 0:=by
 unfold ma;split
 ·rfl
 ·next hb=>
  have h:=OE J G z (k:=k/64) (j:=k%64) (by omega) (by omega) hb;rw[show k%64%8=k%8 by omega,show 64*(k/64)+k%64=k by omega] at h;rw[h];have :=z.get k;omega
theorem Kh (V:X.length=3128)(U:lh n.B)(h:Az c)(W:∀k:Nat,k<832->n.S<=(k:Int)->c.getD k 0=0):jS (az X (ft n.B c 13)) n:=λ_ k J G j z hS=>by
 rw[OE V U h J z G,W _ (by omega) (by omega)];rfl
theorem OG (_:n.B.length=13)(_:lh n.B):nS X (az X (ft n.B c 13)) 104:=
 nS.puts (L:=(ft n.B c 13).map (λp=>p.1.toNat)) (by rw[b7];exact tK _ _ 13) λp h=>bH.2 ⟨p,h,rfl⟩
def iL (X:List Int) (n:bS):List Int:=(List.range 832).map (ma X n)
theorem za (X:List Int)(n:bS){k:Nat}(h:k<832):(iL X n).getD k 0=ma X n k:=by simp[iL,h]
theorem kH (X:List Int)(n:bS):Az (iL X n):=⟨by simp[iL],λx h=>by
 obtain⟨k,-,rfl⟩:=bH.1 h;exact Ke X n k⟩
theorem C9 (z:jS X n)(h:n.K=1){k:Nat}(J:k<832)(G:n.S<=(k:Int)):ma X n k=0:=by
 unfold ma;split
 ·rfl
 ·next hb=>
  have :=z h (k/64) (by omega) hb (k%64) (by omega) (by omega);rw[show k%64%8=k%8 by omega] at this;rw[this];rfl
end
def fJ (B:List Int) (a e:Nat):List Nat:=(List.range e).filter λk=>decide (a<=k)&&(B.getD k 0==0)
theorem Rn (B:List Int)(a e:Nat):fJ B a (e+1)=fJ B a e++(if a<=e/\B.getD e 0=0 then [e] else []):=by
 unfold fJ;rw[dQ,dZ]
 congr 1
 by_cases h:a<=e/\B.getD e 0=0
 ·have z:(decide (a<=e)&&(B.getD e 0==0))=true:=by rw[h.2];simp[h.1]
  rw[aB h,fE,aB z,List.filter_nil]
 ·have z:¬(decide (a<=e)&&(B.getD e 0==0))=true:=λG=>h (by
   rw[fF,decide_eq_true_eq,beq_iff_eq] at G;exact G)
  rw[aA h,fE,aA z,List.filter_nil]
theorem zb{a e:Nat}:k∈fJ B a e↔k<e/\a<=k/\B.getD k 0=0:=by
 unfold fJ;rw[List.mem_filter,cu];simp
theorem Ei (B:List Int)(a e:Nat):(fJ B a e).Nodup:=List.nodup_range.sublist List.filter_sublist
theorem vH (B:List Int)(a e:Nat):(fJ B a e).length<=e:=cL (fe _ _) (by simp)
theorem ze (h:l.Nodup){i j:Nat}(J:i<l.length)(G:j<l.length)(e:l[i]=l[j]):i=j:=by
 rcases Nat.lt_trichotomy i j with z|z|z
 ·exact absurd e (dh.1 h i j J G z)
 ·exact z
 ·exact absurd e.symm (dh.1 h j i G J z)
def jB (B:List Int) (h l:List Nat):Nat->List Int
 |0=>B
 |j+1=>(jB B h l j).set (h.getD j 0) ((l.getD j 0:Nat):Int)
theorem nZ (B:List Int)(h l:List Nat):∀j,(jB B h l j).length=B.length
 |0=>rfl
 |j+1=>by unfold jB;rw[dg,nZ B h l j]
theorem zf {B:List Int}{z l:List Nat}{k:Nat}:∀{j:Nat},j<=z.length->k∉z.take j->(jB B z l j).getD k 0=B.getD k 0
 |0,_,_=>rfl
 |j+1,hj,hk=>by
  unfold jB;have G:z.getD j 0=z[j]'(by omega):=by simp[show j<z.length by omega]
  rw[bR (by omega),aR,au] at hk;rw[aj,List.getElem?_set_ne (by rw[G];exact λe=>hk (.inr e.symm)),<-aj];exact zf (by omega) λh=>hk (.inl h)
theorem LK {B:List Int}{z l:List Nat}(U:z.Nodup)(V:∀k∈z,k<B.length):∀{j m:Nat},j<=z.length->m<j->(jB B z l j).getD (z.getD m 0) 0=((l.getD m 0:Nat):Int)
 |0,_,_,h=>by omega
 |j+1,m,hj,hm=>by
  unfold jB;have G:z.getD j 0=z[j]'(by omega):=by simp[show j<z.length by omega]
  have J:z.getD m 0=z[m]'(by omega):=by simp[show m<z.length by omega]
  by_cases e:m=j
  ·subst e
   rw[aj,List.getElem?_set_self (by rw[nZ,G];exact V _ (bM _))];rfl
  ·rw[aj,List.getElem?_set_ne,<-aj]
   ·exact LK U V (by omega) (by omega)
   ·rw[G,J]
    intro W;exact e (ze U _ _ W).symm
theorem Ek (h:B.length=13)(b:Nat):(eA B 13).count b=B.countP λx=>x != 0&&x.toNat==b:=by
 unfold eA;rw[aW (by omega),List.count_eq_countP,List.countP_map,List.countP_filter]
 congr 1
 funext x
 simp[Bool.and_comm]
theorem VV (z:B.length=13){k:Nat}(U:k<13)(G:B.getD k 0=0){x:Nat}(J:x≠0)(b:Nat):(eA (B.set k (x:Int)) 13).count b=(eA B 13).count b+[x].count b:=by
 rw[Ek (by rw[dg];exact z),Ek z,List.countP_set (by omega)];have e:B[k]'(by omega)=0:=by rw[<-G];simp[show k<B.length by omega]
 rw[e];by_cases h:x=b
 ·subst h
  rw[aA (by simp),aB (by simp;omega)];simp
 ·rw[aA (by simp),aA (by simp;omega)]
  simp[h]
theorem AA {B:List Int}{z l:List Nat}(hB:B.length=13)(hn:z.Nodup)(W:∀k∈z,k<13/\B.getD k 0=0)(hl:l.length=z.length)(h0:∀c∈l,c≠0)(b:Nat):∀{j:Nat},j<=z.length->(eA (jB B z l j) 13).count b=(eA B 13).count b+(l.take j).count b
 |0,_=>by simp[jB]
 |j+1,hj=>by
  have ih:=AA hB hn W hl h0 b (j:=j) (by omega);have G:z.getD j 0=z[j]'(by omega):=by simp[show j<z.length by omega]
  have J:l.getD j 0=l[j]'(by omega):=by simp[show j<l.length by omega]
  have V:=W (z[j]'(by omega)) (bM _);unfold jB;rw[VV (by rw[nZ];exact hB) (by rw[G];exact V.1) (by
   rw[zf (by omega),G]
   ·exact V.2
   ·rw[G]
    intro h;rw[List.mem_take_iff_getElem] at h;obtain⟨m,SN,U⟩:=h;have :=ze hn _ _ U;omega) (by rw[J];exact h0 _ (bM _)),ih,bR (by omega),fL,J]
  omega
theorem acx (z:B.length=13){c:Nat}(G:c<=13)(h:∀k,c<=k->B.getD k 0=0):B=jn B c:=by
 apply cX (by rw[nI z G,z]);intro k V W;have U:=qf z G k;rw[aj,aD W,eZ] at U;rw[U];have J:B.getD k 0=B[k]:=by simp[V]
 split
 ·exact J.symm
 ·rw[<-J];exact h k (by omega)
theorem Ki (G:n.B.length=13)(h:qM n):∀k,bF n.S.toNat<=k->n.B.getD k 0=0:=λk J=>by
 have z:bF n.S.toNat<=13:=by unfold bF;have :=h.1;omega
 rw[h.2.2.1,qf G z,aA]
theorem Hm (z:cm n)(G:n.K=1):qM n:=by
 rcases z.2.2 with ⟨-,h⟩|⟨h,-⟩
 ·exact h
 ·omega
theorem AB (z:cm n)(G:n.K=1)(hF:n'.F=n.F)(h:n'.K=n.K)(J:n'.L=n.L)(W:n'.E=n.E)(V:n'.B.length=13)(U:0<=n'.S/\n'.S<=832)(h0:∀k,bF n'.S.toNat<=k->n'.B.getD k 0=0)(hN:lh n'.B):cm n':=by
 have hf:=Hm z G;refine⟨by rw[hF];exact z.1,by rw[J];exact z.2.1,.inl ⟨by rw[h];exact G,U,by rw[W];exact hf.2.1,acx V (by unfold bF;omega) h0,hN⟩⟩
section
variable {X:List Int} {T:List (bS×Value)} {own:Nat->List Nat} {M:Nat->Nd}
theorem nC.fileAt(h:nC X T own [] M){i:Nat}(U:(M i).K=1):eJ X (i:Int) (nT T i) (own i)/\(nT T i).K=1/\qM (nT T i)/\jS X (nT T i)/\i<32/\(M i).D=pW X (nT T i)/\(nT T i).B.length=13:=by
 have z:=h.store (i:=i) (by omega);have G:(nT T i).K=1:=by rw[h.kind];exact U
 have J:=h.rng (i:=i) (by omega);refine⟨z,G,Hm z.right G,h.st.tails i J,J,?_,z.len⟩;rw[h.abs i];show(if (nT T i).K=1 then _ else _)=_;rw[aB G]
theorem Da {l m:List Int}(h:l.length=m.length)(G:∀k,k<l.length->l.getD k 0=m.getD k 0):l=m:=by
 apply cX h;intro k z J;have :=G k z;rwa[aj,aD z,aj,aD J] at this
theorem OH (D:List Int)(n:Nat){k:Nat}(h:k<n):(ym D n).getD k 0=D.getD k 0:=by
 unfold ym;rw[aj];by_cases z:k<D.length
 ·rw[bh (by simp;omega),bU,aB h,aj]
 ·rw[aT (by simp;omega),bB,aj,aZ (by omega:D.length<=k)]
  split<;>rfl
theorem Hn {i:Nat}{n n':bS}{Y:List Int}{D:List Int}(h:M i=sA X n)(J:n.K=1)(z:n'.K=n.K)(G:n'.L=n.L)(U:n'.E=n.E)(V:pW Y n'=D):sA Y n'={ M i with D:=D }:=by
 rw[h];unfold sA;rw[z,G,U,aB J,V]
theorem nC.grow(h:nC X T own [] M){i:Nat}(hK:(M i).K=1){s:Nat}(hs:s<=832)(V:(nT T i).S<=(s:Int)){r:Int}{qs:List (Int×Int)}(hp:nK X (i:Int) { nT T i with S:=(s:Int) } r qs):
  r=0/\Goes X qs [] (na M i { M i with D:=ym (M i).D s }) 100:=by
 obtain⟨G,hk,hf,ht,hi,hd,hB⟩:=h.fileAt hK;have ac:=hf.1.1;have hR:cm { nT T i with S:=(s:Int) }:=AB G.right hk rfl rfl rfl rfl G.len ⟨by show(0:Int)<=(s:Int);omega,by show(s:Int)<=832;omega⟩ (λk z=>by
  refine Ki G.len hf k ?_;have z:bF (s:Int).toNat<=k:=z;rw[aF] at z;unfold bF at *;have U:(nT T i).S.toNat<=s:=by omega
  clear hd V ac;omega) hf.2.2.2
 have ae:jS X { nT T i with S:=(s:Int) }:=λz k af hb j hj J=>ht z k af hb j hj (by
  have J:(s:Int)<=_:=J;omega)
 have hn:sA X { nT T i with S:=(s:Int) }={ M i with D:=ym (M i).D s }:=by
  refine Hn (h.abs i) hk rfl rfl rfl ?_;rw[hd];have W:(pW X { nT T i with S:=(s:Int) }).length=s:=by rw[mM];exact aF s
  apply Da
  ·rw[W,yq]
  ·intro k z
   rw[OH _ _ (by omega),sB _ _ (by rw[<-mM];exact z)];show ma X (nT T i) k=_;by_cases aa:k<(nT T i).S.toNat
   ·exact(sB X (nT T i) aa).symm
   ·rw[C9 ht hk (by omega) (by omega),aj,aZ (by rw[mM];omega)]
    rfl
 rcases h.put (i:=i) (by omega) (n:={ nT T i with S:=(s:Int) }) G.len hR hp (ex':=[]) (λb _=>rfl) (by simp) ae with ⟨-,-,U⟩|⟨U,cY,p1,-,p3,p4,p5⟩
 ·have e:=Hg (n:=nT T i) (n':={ nT T i with S:=(s:Int) }) rfl rfl rfl
  rw[e] at U;omega
 ·rw[hn] at p1
  exact⟨U,_,_,p1,p4,p5.mono (by have :=sF hR;revert this;generalize dA { nT T i with S:=(s:Int) }=a;omega)⟩
def tL (c:List Int) (o:Nat) (D:List Int):List Int:=c.take o++(D++c.drop (o+D.length))
theorem El {c D:List Int}{o:Nat}(h:Az c)(U:o+D.length<=832)(J:∀x∈D,0<=x/\x<256):Az (tL c o D):=by
 refine⟨by unfold tL;simp[h.1];omega,λx G=> ?_⟩;unfold tL at G;simp only[aR] at G;rcases G with z|z|z
 ·exact h.2 x (bL z)
 ·exact J x z
 ·exact h.2 x (gj z)
theorem VW {c D:List Int}{o:Nat}(h:c.length=832)(G:o+D.length<=832)(k:Nat):(tL c o D).getD k 0=if o<=k/\k<o+D.length then D.getD (k-o) 0 else c.getD k 0:=by
 unfold tL;rw[aj];by_cases z:k<o
 ·rw[bh (by simp;omega),bU,aB z,aA,aj]
 ·rw[aT (by simp;omega),aJ,cZ (by omega)]
  by_cases J:k<o+D.length
  ·rw[bh (by omega),aB,aj]
  ·rw[aT (by omega),aA,cj,aj]
   congr 2
   omega
theorem VX {h D:List Int}{o:Nat}(k:Nat):(xg h o D).getD k 0=if o<=k/\k<o+D.length then D.getD (k-o) 0 else h.getD k 0:=by
 unfold xg;have J:((ym h (max h.length (o+D.length))).take o).length=o:=by rw[aJ,yq];omega
 rw[aj];by_cases z:k<o
 ·rw[bh (by omega),bU,aB z,aA]
  unfold ym;by_cases G:k<h.length
  ·rw[bh (by simp;omega),bU,aB,aj]
  ·rw[aT (by simp;omega),bB,aj,aZ (by omega:h.length<=k)]
   split<;>rfl
 ·rw[aT (by omega),J]
  by_cases G:k<o+D.length
  ·rw[bh (by omega),aB,aj]
  ·rw[aT (by omega),aA,cj,aj]
   congr 2
   omega
def Tj (X:List Int) (n:bS) (o m:Nat):bS:=
 { n with B:=jB n.B (fJ n.B (o/64) (bF (o+m))) ((aY X).take (fJ n.B (o/64) (bF (o+m))).length) (fJ n.B (o/64) (bF (o+m))).length,S:=max n.S ((o+m:Nat):Int) }
theorem nC.write(h:nC X T own [] M){i:Nat}(hK:(M i).K=1){o:Nat}{D:List Int}(ZK:D≠[])(aP:∀x∈D,0<=x/\x<256)(ho:o+D.length<=832)
  (oZ:(fJ (nT T i).B (o/64) (bF (o+D.length))).length<=(aY X).length) {r:Int} {qs:List (Int×Int)}
  (hp:nK (az (az X (dt X ((aY X).take (fJ (nT T i).B (o/64) (bF (o+D.length))).length))) (ft (Tj X (nT T i) o D.length).B (tL (iL X (nT T i)) o D) 13)) (i:Int) (Tj X (nT T i) o D.length) r qs):
  (r=7/\(aY X).length<40)\/(r=0/\Goes X (dt X ((aY X).take (fJ (nT T i).B (o/64) (bF (o+D.length))).length)++(ft (Tj X (nT T i) o D.length).B (tL (iL X (nT T i)) o D) 13++qs)) [] (na M i { M i with D:=xg (M i).D o D }) 400):=by
 obtain⟨aN,hk,hf,ht,hi,hd,hB⟩:=h.fileAt hK;have hS:=hf.1;have bh:0<D.length:=List.length_pos_iff.2 ZK;have aO:bF (o+D.length)<=13:=by unfold bF;omega
 generalize hn:nT T i=n at *;generalize Ro:fJ n.B (o/64) (bF (o+D.length))=G at *;have ac:∀k,k∈G↔k<bF (o+D.length)/\o/64<=k/\n.B.getD k 0=0:=λk=>by rw[<-Ro];exact zb
 have Il:G.Nodup:=by rw[<-Ro];exact Ei _ _ _
 have bn:G.length<=13:=by rw[<-Ro];exact cL (vH _ _ _) aO
 have ag:=h.opened hi;rw[hn] at ag;obtain⟨t1,t2,t3,t4,t5⟩:=ag.st.take G.length;have ZV:=ag.step t1 t2 (by simp);have ah:∀c∈(aY X).take G.length,c≠0/\c<256:=qm;have L8:((aY X).take G.length).Nodup:=su;have aV:∀c∈(aY X).take G.length,dn X c=false:=λc hc=>(j5.1 (bL hc)).2.2
 have aH:((aY X).take G.length).length=G.length:=by rw[aJ];omega
 have hw:Tj X n o D.length={ n with B:=jB n.B G ((aY X).take G.length) G.length,S:=max n.S ((o+D.length:Nat):Int) }:=by unfold Tj;rw[Ro]
 rw[hw] at hp ⊢;clear hw;have ax:∀k,k∉G->(jB n.B G ((aY X).take G.length) G.length).getD k 0=n.B.getD k 0:=λk z=>zf (aI _) (by rw[gi];exact z)
 have aS:∀m,m<G.length->(jB n.B G ((aY X).take G.length) G.length).getD (G.getD m 0) 0=((((aY X).take G.length).getD m 0:Nat):Int):=λm hm=>LK Il (λk z=>by have :=((ac k).1 z).1;omega) (aI _) hm
 have ae:=nZ n.B G ((aY X).take G.length) G.length;have aL:=λb=>AA (l:=(aY X).take G.length) hB Il (λk z=>by have :=(ac k).1 z;exact⟨by omega,this.2.2⟩) aH (λc hc=>(ah c hc).1) b (j:=G.length) (aI _)
 have bf:nS X (az X (dt X ((aY X).take G.length))) 108:=nS.puts (L:=uy++Eh ((aY X).take G.length)) (by rw[aC,vG,aH];simp[uy];omega) λp hp=>by
  rw[aR];rcases qw _ _ p hp with h6|h6
  ·exact .inl (sD h6)
  ·exact .inr (y8 h6.1 h6.2)
 generalize hl:(aY X).take G.length=l at *;generalize ak:az X (dt X l)=X1,bp:jB n.B G l G.length=J at *;rw[aW (by omega)] at aL
 -- what each place has
 have U:∀k,k<13->(J.getD k 0=n.B.getD k 0/\k∉G)\/(n.B.getD k 0=0/\∃m,m<G.length/\G.getD m 0=k/\J.getD k 0=((l.getD m 0:Nat):Int)/\l.getD m 0∈l):=λk z=>by
  by_cases hm:k∈G
  ·right
   obtain⟨m,SN,aX⟩:=b9 hm;have V:G.getD m 0=k:=by rw[<-aX];simp[SN]
   refine⟨((ac k).1 hm).2.2,m,SN,V,by rw[<-V];exact aS m SN,?_⟩;rw[aj,aD (by omega)];exact bM _
  ·exact .inl ⟨ax k hm,hm⟩
 have Ec:∀k,k<13->n.B.getD k 0≠0->(n.B.getD k 0).toNat∉l:=λk z hb hc=>by
  have W:=aV _ hc;have h2:=ag.st.usedEx (Hk hB z hb);rw[W] at h2;cases h2
 have aa:lh J:=λk z=>by
  have hr:=mG hf.2.2.2 z;rcases U k z with ⟨V,-⟩|⟨e0,m,hm,e2,V,JP⟩
  ·refine⟨by rw[V];exact hr,λai j hj=> ?_⟩
   rw[V] at ai ⊢;rcases U j (by omega) with ⟨f1,-⟩|⟨-,m',-,-,f1,ay⟩
   ·rw[f1];exact(hf.2.2.2 k z).2 ai j hj
   ·rw[f1]
    intro e3;exact Ec k z ai (by rw[<-e3,aF];exact ay)
  ·have :=ah _ JP
   refine⟨by rw[V];omega,λai j hj=> ?_⟩;rw[V];rcases U j (by omega) with ⟨f1,-⟩|⟨-,m',bj,f2,f1,ay⟩
   ·rw[f1]
    intro e3;exact Ec j (by omega) (by omega) (by rw[e3,aF];exact JP)
   ·rw[f1]
    intro e3;have e4:l.getD m' 0=l.getD m 0:=by omega
    rw[aj,aD (by omega),aj,aD (by omega)] at e4;have :=ze L8 _ _ e4;subst this;omega
 have ZX:X1.length=3128:=t1.len;have ar:(max n.S ((o+D.length:Nat):Int)).toNat=max n.S.toNat (o+D.length):=by omega
 have hR:cm { n with B:=J,S:=max n.S ((o+D.length:Nat):Int) }:=by
  refine AB aN.right hk rfl rfl rfl rfl (by rw[<-hB,<-ae]) ⟨by dsimp only;omega,by dsimp only;omega⟩ (λk z=> ?_) aa
  dsimp only at z ⊢
  rw[ar] at z;have W:=Ki hB hf k (by unfold bF at *;omega);rw[ax k λhm=>by have :=((ac k).1 hm).1;unfold bF at *;omega];exact W
 have bl:∀k,k<832->ma X n k=(iL X n).getD k 0:=λk z=>(za X n z).symm
 have aK:=kH X n;have au:=El aK ho aP;have av:=VW (D:=D) aK.1 ho;have ba:∀k:Nat,k<832->max n.S ((o+D.length:Nat):Int)<=(k:Int)->(tL (iL X n) o D).getD k 0=0:=λk z bk=>by
  rw[av,aA,za X n z];exact C9 ht hk z (by omega)
 generalize tL (iL X n) o D=c at *;have zH:=OD (n:={ n with B:=J,S:=max n.S ((o+D.length:Nat):Int) }) (c:=c) (by rw[<-hB,<-ae]) aa;have Bo:∀b,b<256->(dv { n with B:=J,S:=max n.S ((o+D.length:Nat):Int) }).count b=(dv n++l).count b:=λb _=>by
  rw[fL];exact aL b
 have bc:∀x,x∈dv { n with B:=J,S:=max n.S ((o+D.length:Nat):Int) }->x∈dv n++l:=λx hx=>by
  have W:=qu (n:={ n with B:=J,S:=max n.S ((o+D.length:Nat):Int) }) (by rw[<-hB,<-ae]) hR x hx;have h2:=Bo x W.2;have h3:0<(dv { n with B:=J,S:=max n.S ((o+D.length:Nat):Int) }).count x:=List.count_pos_iff.2 hx;exact List.count_pos_iff.1 (by omega)
 have aM:In64 (az X1 (ft J c 13)):=y9 (n:={ n with B:=J,S:=max n.S ((o+D.length:Nat):Int) }) t1.w64 au;obtain⟨ZY,Z5,Jv⟩:=ZV.words hi (qs:=ft J c 13) (λp hp=>⟨(zH p hp).1,bc _ (zH p hp).2⟩) aM;have UM:eJ (az X1 (ft J c 13)) (i:Int) (nT T i) (own i):=by
  rcases ZY.st.each hi with ⟨-,W⟩|⟨-,W,-⟩
  ·exact W
  ·rw[hn] at W;rw[W] at hk;simp[bY] at hk
 have Qi:=λk (z:k<832)=>Hl (X:=X1) (n:={ n with B:=J,S:=max n.S ((o+D.length:Nat):Int) }) ZX aa au z
 have bg:=Kh (X:=X1) (n:={ n with B:=J,S:=max n.S ((o+D.length:Nat):Int) }) ZX aa au ba;have bb:=OG (X:=X1) (n:={ n with B:=J,S:=max n.S ((o+D.length:Nat):Int) }) (c:=c) (by rw[<-hB,<-ae]) aa;have aQ:sA (az X1 (ft J c 13)) { n with B:=J,S:=max n.S ((o+D.length:Nat):Int) }={ M i with D:=xg (M i).D o D }:=by
  refine Hn (n:=n) (X:=X) (by rw[h.abs i,hn]) hk rfl rfl rfl ?_;rw[hd];have aG:=mM X n;apply Da
  ·rw[mM,Kb,aG];exact ar
  ·intro k z
   rw[mM] at z;have bo:k<max n.S.toNat (o+D.length):=by rw[<-ar];exact z
   have rM:k<832:=by omega
   rw[sB _ _ z,Qi k rM,VX]
   dsimp only
   by_cases af:o<=k/\k<o+D.length
   ·rw[aB af,av,aB af]
    rw[aA ?_];intro h0;rcases U (k/64) (by omega) with ⟨V,e2⟩|⟨-,m,-,-,V,e2⟩
    ·refine e2 ((ac _).2 ⟨?_,?_,by rw[<-V];exact h0⟩)
     ·unfold bF;omega
     ·omega
    ·have :=(ah _ e2).1;omega
   ·rw[aA af,av,aA af,za X n rM]
    have aU:(pW X n).getD k 0=ma X n k:=by
     by_cases aT:k<n.S.toNat
     ·exact sB X n aT
     ·rw[C9 ht hk rM (by omega),aj,aZ (by rw[aG];omega)]
      rfl
    rw[aU];split
    ·next h0=>
     rcases U (k/64) (by omega) with ⟨V,-⟩|⟨-,m,-,-,V,e2⟩
     ·unfold ma
      rw[aB (by rw[<-V];exact h0)]
     ·have :=(ah _ e2).1;omega
    ·rfl
 have bq:(aY X1).length+G.length=(aY X).length:=by rw[t4,bV];omega
 rcases ZY.close hi (by rw[<-hB,<-ae]) hR UM hp Bo bg with ⟨W,-,h3⟩|⟨W,T',cY,g1,g2,g3⟩
 ·refine .inl ⟨W,?_⟩
  have :=sF hR;rw[Z5] at h3;omega
 ·refine .inr ⟨W,T',cY,?_,λk z=> ?_,?_⟩
  ·rw[br,br,ak,<-aQ];exact g1
  ·rw[br,br,ak,g2 k z,Jv k (by omega),t5 k z]
  ·rw[br,br,ak]
   exact((bf.trans bb).trans g3).mono (by omega)
end
end Go.Proofs.YtimcfdnbpkiniaaGreatDoor
