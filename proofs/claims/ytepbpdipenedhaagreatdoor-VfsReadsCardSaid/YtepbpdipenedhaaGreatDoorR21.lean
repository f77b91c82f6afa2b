/- Lemmas. -/
import Derived.Test.YtepbpdipenedhaaGreatDoorR20
set_option maxHeartbeats 4000000
set_option maxRecDepth 100000
namespace Go.Proofs.YtepbpdipenedhaaGreatDoor
open Go.Proofs.Tryz
open Go.RowKit
variable{B X Y ws xs:List Int}{U ex ex' l:List Nat}{T V:List (bP×Value)}{own:Nat->List Nat}{P:List ByteArray}{b g gf gl gn gp k m:Nat}{w:World}{v:Value}{ps:List (Int×Int)}{n:bP}{M:Nat->Nd}{d i:Int}
def pg (X Y:List Int) (l:List Nat):Prop:=∀c,c<256->c≠0->dC X c=true->c∉l->∀j,j<8->Y.getD (1080+8*c+j) 0=X.getD (1080+8*c+j) 0
theorem xJ (h:kD X)(G:∀k,k<8->Y.getD k 0=X.getD k 0)(U:∀k,820<=k->k<824->Y.getD k 0=X.getD k 0):kD Y:=
 ⟨by rw[G 0 (by omega)];exact h.1,by rw[G 1 (by omega)];exact h.2.1,by rw[G 2 (by omega)];exact h.2.2.1,λi J z=>by rw[G i z];exact h.2.2.2.1 i J z,λi J z=>by rw[U i J z];exact h.2.2.2.2 i J z⟩
theorem sQ (h:l.Nodup)(b:Nat):l.count b=if b∈l then 1 else 0:=by
 split
 ·next h1=>
  have z:l.count b<=1:=List.nodup_iff_count.1 h b;have G:0<l.count b:=List.count_pos_iff.2 h1;omega
 ·next h1=>exact List.count_eq_zero.2 h1
theorem qX.put(h:qX X T V own ex){i:Nat}(U:i<32){n:bP}(hB:n.B.length=13)(hR:bZ n)
  (hn:dz n<=(aZ (aA X (cJ X (own i)))).length) {ex':List Nat} (hc:∀b,b<256->(dn n).count b+ex'.count b=(dn (nT V i)).count b+ex.count b) (hx:∀c∈ex',c≠0/\c<256) (ht:jR X n):
  qX (aA X (lH X i n (own i))) (mQ T i n) (mQ V i n) (Hm own i ((aZ (aA X (cJ X (own i)))).take (dz n))) ex'/\
   pg X (aA X (lH X i n (own i))) (own i)/\(aZ (aA X (lH X i n (own i)))).length+dz n=(aZ X).length+(own i).length/\∀k,k<816->(aA X (lH X i n (own i))).getD k 0=X.getD k 0:=by
 have hE:=aa9 (i:=(i:Int)) h.w64 h.len hB (by omega) hR hn;rw[aH] at hE;have wX:∀k,k<816->(aA X (lH X i n (own i))).getD k 0=X.getD k 0:=λk hk=>ey _ _ _ λp hp=>by
  rcases yb U hR rfl hn hp with z|z|z<;>omega
 have hz:=XV h.w64 h.len (own:=own i) U hR hn;have aj:∀c∈own i,dC X c=true:=λc hc=>h.used U (bR _ hc)
 have ag:∀c∈own i,c≠0/\c<256:=λc hc=>h.rng U (bR _ hc)
 have zV:(own i).Nodup:=by
  rcases h.each U with ⟨-,z⟩|⟨-,-,z⟩
  ·exact z.nodup
  ·rw[z];exact List.nodup_nil
 have yz:(aZ (aA X (lH X i n (own i)))).length+dz n=(aZ X).length+(own i).length:=by
  rw[hE.count,uj ag zV aj λc hc ai=>(jF (own i) X h.w64 h.len).2.1 c hc ai]
 generalize (aZ (aA X (cJ X (own i)))).take (dz n)=o' at *;generalize aA X (lH X i n (own i))=Y at *;clear hn;have qm:pg X Y (own i):=λc hc ai hu av j W=>by
  refine hE.other _ (by omega) (by rw[aH];omega) λz=> ?_
  have e:(1080+8*c+j-1080)/8=c:=by omega
  rw[e] at z;have G:=hE.free c z.2;rw[hu,aS av] at G;simp at G
 have ar:(mQ T i n).length=32:=by unfold mQ;rw[cT];exact h.gots.len
 have aa:=λj=>oX h.gots.len U n j
 -- what lies elsewhere
 have af:∀j,j<32->j≠i->((nT T j).F≠0/\eG Y (j:Int) (nT T j) (own j))\/(dP Y (j:Int)/\nT T j=cr/\own j=[]):=λj W OL=>by
  rcases h.each W with ⟨z,G⟩|⟨z,G,h3⟩
  ·refine .inl ⟨z,hE.keeps G (by omega) (λc hc=>h.used W (bR _ hc)) λc hc au=> ?_⟩
   exact h.apart W U OL (bR _ hc) (bR _ au)
  ·exact .inr ⟨hE.free_keeps z (by omega) (by omega),G,h3⟩
 have ax:∀c∈dn n,c≠0/\c<256/\dC X c=true/\c∉own i:=λc J=>by
  have z:=pJ hB hR c J;have G:=hc c z.2;have h3:0<(dn n).count c:=List.count_pos_iff.2 J;rcases eT (ex.count c) with h4|h4
  ·have h5:c∈dn (nT V i):=List.count_pos_iff.1 (by omega)
   exact⟨z.1,z.2,h.used U (bV _ h5),λh6=>h.inner U h6 h5⟩
  ·have h5:c∈ex:=List.count_pos_iff.1 h4
   exact⟨z.1,z.2,h.usedEx h5,λh6=>h.apartEx U (bR _ h6) h5⟩
 have ae:=λj=>oX h.vlen U n j
 refine⟨⟨hE.len,hE.w64,?_,⟨ar,λj W=> ?_⟩,λj W=> ?_,λb hb=> ?_,hx,λj W=> ?_,by unfold mQ;rw[cT];exact h.vlen,λj=>by rw[aa,ae];split;exact .inl rfl;exact h.vir j⟩,qm,yz,wX⟩
 ·exact xJ h.sup (λk hk=>wX k (by omega)) λk hk ay=>hE.other k hk (by rw[aH];omega) (by omega)
 ·rw[aa]
  by_cases e:i=j
  ·subst e
   rw[aC rfl,Hm,aC rfl];exact .inl hE.st
  ·rw[aB e,Hm,aB (dK e)]
   rcases af j W (dK e) with z|⟨z,G,h3⟩
   ·exact .inl z.2
   ·exact .inr ⟨λ_ _ hs=>hs.notFree z,G,h3⟩
 ·rw[aa]
  by_cases e:i=j
  ·subst e
   rw[aC rfl]
   right
   rcases hR.1 with z|z<;>omega
  ·rw[aB e]
   rcases af j W (dK e) with z|z
   ·exact .inr z.1
   ·exact .inl z.1
 ·have z:=(Gc h.vlen own U n o' b 32).2 U
  have G:=h.once b hb;have h3:=hc b hb;unfold wG at G ⊢;unfold mL at z;rw[gK,gK] at z;have h4:=sQ zV b;have h5:=sQ hE.st.nodup b;by_cases ak:b=0
  ·subst ak
   have g1:(0:Nat)∉own i:=λh=>(ag 0 h).1 rfl
   have g2:(0:Nat)∉o':=λh=>(hE.st.mem 0 h).1 rfl
   rw[aB g1] at h4;rw[aB g2] at h5;have e:jQ (mQ V i n) (Hm own i o') 32 0+ex'.count 0=jQ V own 32 0+ex.count 0:=by omega
   rw[hz,e];exact G
  ·have h6:=hE.used b hb ak
   by_cases g1:b∈own i
   ·rw[aC g1] at h4
    have h7:=aj b g1;rw[bq g1,h7] at h6;have h8:=G.2.1 h7;by_cases g2:b∈o'
    ·rw[aC g2] at h5
     rw[bq g2] at h6;refine⟨by omega,λ_=>by omega,λ_=>by rw[h6];rfl⟩
    ·rw[aB g2] at h5
     rw[aS g2] at h6;refine⟨by omega,λh=>by rw[h6] at h;simp at h,λ_=>by omega⟩
   ·rw[aB g1] at h4
    rw[aS g1] at h6;by_cases g2:b∈o'
    ·rw[aC g2] at h5
     have h7:=hE.free b g2;rw[aS g1] at h7;have h8:dC X b=false:=by simpa using h7
     have h9:¬(jQ V own 32 b+ex.count b=1):=λh=>by rw[G.2.2 h] at h8;cases h8
     rw[bq g2] at h6;exact⟨by omega,λ_=>by omega,λ_=>by rw[h6];simp⟩
    ·rw[aB g2] at h5
     rw[aS g2] at h6;have h7:dC Y b=dC X b:=by rw[h6];simp
     rw[h7];have e:jQ (mQ V i n) (Hm own i o') 32 b+ex'.count b=jQ V own 32 b+ex.count b:=by omega
     rw[e];exact G
 ·rw[ae]
  by_cases e:i=j
  ·subst e
   rw[aC rfl];exact uz hB ht λc J k hk=>by
    have :=ax c J;exact qm c this.2.1 this.1 this.2.2.1 this.2.2.2 k hk
  ·rw[aB e]
   have ac:nT V j=cr->jR Y (nT V j):=λG=>by
    rw[G];intro hK;simp[cr] at hK
   rcases h.each W with ⟨z,G⟩|⟨z,G,h3⟩
   ·by_cases ah:nT V j=cr
    ·exact ac ah
    have hv:=(h.vir j).resolve_right ah;refine uz (by rw[hv];exact G.len) (h.tails j W) λc J k hk=> ?_
    have h4:=h.rng W (bV _ J);exact qm c h4.2 h4.1 (h.used W (bV _ J)) (λh5=>h.apart W U (dK e) (bV _ J) (bR _ h5)) k hk
   ·exact ac ((h.vir j).elim (λhv=>by rw[hv];exact G) id)
theorem qX.change{G h:List (bP×Value)}{U:Nat->List Nat}(_:qX X T V own ex)(hl:Y.length=3128)(aa:In64 Y)(W:kD Y)(hT:G.length=32)(hV:h.length=32)(hv:∀j,nT h j=nT G j\/nT h j=cr)
  (J:∀j:Nat,j<32->((nT G j).F≠0/\eG Y (j:Int) (nT G j) (U j))\/(dP Y (j:Int)/\nT G j=cr/\U j=[]))
  (zV:∀b,b<256->wG h U b+ex'.count b<=1/\(dC Y b=true↔wG h U b+ex'.count b=1)) (hx:∀c∈ex',c≠0/\c<256) (ac:∀j,j<32->jR Y (nT h j)):qX Y G h U ex':=by
 refine⟨hl,aa,W,⟨hT,λj hj=> ?_⟩,λj hj=> ?_,zV,hx,ac,hV,hv⟩
 ·rcases J j hj with z|⟨z,h2,h3⟩
  ·exact .inl z.2
  ·exact .inr ⟨λ_ _ hs=>hs.notFree z,h2,h3⟩
 ·rcases J j hj with z|z
  ·exact .inr z.1
  ·exact .inl z.1
theorem qX.nodup(h:qX X T V own U){i:Nat}(z:i<32):(mL V own i).Nodup:=by
 rw[List.nodup_iff_count];intro b;by_cases G:b∈mL V own i
 ·have J:=(h.once b (h.rng z G).2).1
  have W:=Gd (T:=V) (own:=own) (b:=b) 32 z;unfold wG at J;omega
 ·rw[List.count_eq_zero.2 G];omega
theorem qX.drop(h:StX X T own ex){i:Nat}(hi:i<32):
  StX (aA X (vH X i (nT T i) (own i))) (mQ T i cr) (Hm own i []) ex/\pg X (aA X (vH X i (nT T i) (own i))) []/\
   (aZ (aA X (vH X i (nT T i) (own i)))).length=(aZ X).length+(mL T own i).length/\∀k,k<816->(aA X (vH X i (nT T i) (own i))).getD k 0=X.getD k 0:=by
 have aa:=h.nodup hi;have ak:∀c∈mL T own i,dC X c=true:=λc hc=>h.used hi hc
 have ae:∀c∈mL T own i,c≠0/\c<256:=λc hc=>h.rng hi hc
 obtain⟨g1,g2,g3⟩:=jF (mL T own i) X h.w64 h.len;have gz:=Jc (mL T own i) X h.w64 h.len;have ar:∀k,k<816->(aA X (cJ X (mL T own i))).getD k 0=X.getD k 0:=λk G=>ey _ _ _ λp hp=>by have :=zP _ _ p hp;omega
 have gl:=b7 (cJ X (mL T own i)) X;have ag:vH X i (nT T i) (own i)=cJ X (mL T own i)++jD (824+8*i) (List.replicate 8 0) 8:=rfl;rw[ag,bD];have au:=uj (Y:=aA X (cJ X (mL T own i))) ae aa ak λc hc ah=>g2 c hc ah
 generalize aA X (cJ X (mL T own i))=Y at *;have z:∀k,(aA Y (jD (824+8*i) (List.replicate 8 0) 8)).getD k 0=if 824+8*i<=k/\k<824+8*i+8 then 0 else Y.getD k 0:=by
  intro k;by_cases G:824+8*i<=k/\k<824+8*i+8
  ·rw[aC G]
   have av:∀m,m<=8->∀j,j<m->(aA Y (jD (824+8*i) (List.replicate 8 0) m)).getD (824+8*i+j) 0=0:=by
    intro m;induction m with
    |zero=>intro _ j V;omega
    |succ m ih=>
     intro hm j V;rw[zu,bD,nC,aH,jk _ _ _ _ (by rw[b7];have :=h.len;omega)];by_cases e:824+8*i+j=824+8*i+m
     ·rw[aC (by omega)]
      rw[aj,bo];split<;>rfl
     ·rw[aB (by omega)]
      exact ih (by omega) j (by omega)
   have :=av 8 (aI _) (k-(824+8*i)) (by omega);rwa[show 824+8*i+(k-(824+8*i))=k by omega] at this
  ·rw[aB G]
   refine ey _ _ _ λp hp=> ?_
   obtain⟨j,V,J,-⟩:=lF hp;omega
 have ax:(aA Y (jD (824+8*i) (List.replicate 8 0) 8)).length=3128:=by rw[b7,gl,h.len]
 generalize aA Y (jD (824+8*i) (List.replicate 8 0) 8)=Z at *;have M5:=Cj (X:=Y) (Y:=Z) λk G=>by rw[z,aB (by omega)]
 have Cq:∀k,820<=k->¬(824+8*i<=k/\k<824+8*i+8)->Z.getD k 0=X.getD k 0:=λk G hn=>by rw[z,aB hn,g3 k G]
 have wX:∀k,k<816->Z.getD k 0=X.getD k 0:=λk G=>by rw[z,aB (by omega),ar k G]
 have qm:pg X Z []:=λc hc ah _ _ j V=>Cq _ (by omega) (by omega)
 have ac:=λj=>oX h.gots.len hi cr j
 refine⟨h.change ax ?_ ?_ (by unfold mQ;rw[cT];exact h.gots.len) (by unfold mQ;rw[cT];exact h.gots.len) (λ_=> .inl rfl) (λj V=> ?_) (λb hb=> ?_) h.exr λj V=> ?_,qm,?_,wX⟩
 ·intro k
  rw[z];split
  ·omega
  ·exact g1 k
 ·exact xJ h.sup (λk G=>wX k (by omega)) λk G az=>Cq k G (by omega)
 ·rw[ac]
  by_cases e:i=j
  ·subst e
   rw[aC rfl,Hm,aC rfl];refine .inr ⟨?_,rfl,rfl⟩;unfold dP fT;apply dg (by rw[iD,bG]);intro k af aD;rw[iD] at af;have J:=j5 Z (824+8*i) k af;rw[z,aC (by rw[aH] at *;omega)] at J;rw[List.getElem_replicate];rw[aj,aG (by rw[iD];omega),gD] at J;rw[aH];exact J
  ·rw[aB e,Hm,aB (dK e)]
   rcases h.each V with ⟨J,U⟩|⟨J,U,h3⟩
   ·refine .inl ⟨J,U.same (λk G=> ?_) λc hc k G=> ?_⟩
    ·rw[aH]
     exact Cq _ (by omega) (by omega)
    ·exact Cq _ (by omega) (by omega)
   ·refine .inr ⟨J.same λk G=> ?_,U,h3⟩
    rw[aH];exact Cq _ (by omega) (by omega)
 ·have J:=(Gc h.gots.len own hi cr [] b 32).2 hi
  have U:=h.once b hb;unfold wG at U ⊢;have e0:([]++dn cr).count b=0:=by
   have :([]++dn cr)=([]:List Nat):=by decide
   rw[this];rfl
  rw[e0] at J;have h4:=sQ aa b;rw[M5.1 b hb];by_cases ai:b=0
  ·subst ai
   have W:(0:Nat)∉mL T own i:=λh=>(ae 0 h).1 rfl
   rw[aB W] at h4;rw[gz,show jQ (mQ T i cr) (Hm own i []) 32 0=jQ T own 32 0 by omega];exact U
  ·have h6:=g2 b hb ai
   by_cases W:b∈mL T own i
   ·rw[aC W] at h4
    have h7:=ak b W;have h8:=U.2.1 h7;rw[bq W,h7] at h6;refine⟨by omega,λh=>by rw[h6] at h;simp at h,λ_=>by omega⟩
   ·rw[aB W] at h4
    rw[aS W] at h6;rw[show dC Y b=dC X b by rw[h6];simp,show jQ (mQ T i cr) (Hm own i []) 32 b=jQ T own 32 b by omega];exact U
 ·rw[ac]
  by_cases e:i=j
  ·rw[aC e]
   intro hK;simp[cr] at hK
  ·rw[aB e]
   rcases h.each V with ⟨J,U⟩|⟨J,U,h3⟩
   ·exact uz U.len (h.tails j V) λc ay k G=>Cq _ (by omega) (by omega)
   ·rw[U]
    intro hK;simp[cr] at hK
 ·rw[M5.2,au]
theorem qX.bits(h:qX X T V own ex)(hl:Y.length=3128)(aa:In64 Y)(W:kD Y)(z:∀k,824<=k->k<1080->Y.getD k 0=X.getD k 0)
  (G:∀i,i<32->∀c∈own i,∀j,j<8->Y.getD (1080+8*c+j) 0=X.getD (1080+8*c+j) 0) (hu:∀b,b<256->wG V own b+ex'.count b<=1/\(dC Y b=true↔wG V own b+ex'.count b=1)) (hx:∀c∈ex',c≠0/\c<256) (ac:∀j,j<32->jR Y (nT V j)):qX Y T V own ex':=by
 refine h.change hl aa W h.gots.len h.vlen h.vir (λj hj=> ?_) hu hx ac;rcases h.each hj with ⟨J,h2⟩|⟨J,h2,h3⟩
 ·refine .inl ⟨J,h2.same (λk U=> ?_) λc hc k U=>G j hj c hc k U⟩
  rw[aH];exact z _ (by omega) (by omega)
 ·refine .inr ⟨J.same λk U=> ?_,h2,h3⟩
  rw[aH];exact z _ (by omega) (by omega)
theorem qX.virLen(h:qX X T V own U){j:Nat}(J:j<32):(nT V j).B.length=13\/nT V j=cr:=by
 rcases h.vir j with z|z
 ·rcases h.each J with ⟨-,G⟩|⟨-,G,-⟩
  ·exact .inl (by rw[z];exact G.len)
  ·exact .inr (by rw[z];exact G)
 ·exact .inr z
theorem qX.tailsKeep(h:qX X T V own ex)(W:pg X Y l){j:Nat}(G:j<32)(hl:∀c∈dn (nT V j),c∉l):jR Y (nT V j):=by
 rcases h.virLen G with J|J
 ·refine uz J (h.tails j G) λc z k uS=> ?_
  have U:=h.rng G (bV _ z);exact W c U.2 U.1 (h.used G (bV _ z)) (hl c z) k uS
 ·rw[J]
  intro hK;simp[cr] at hK
theorem PW (l:List Nat):∀(X:List Int),X.length=3128->(∀c∈l,c<256)->∀c∈l,∀j,j<8->(aA X (cW X l)).getD (1080+8*c+j) 0=0:=by
 induction l with
 |nil=>intro X _ _ c G;simp at G
 |cons b l ih=>
  intro X hX hr c G j J;have e:cW X (b::l)=(eJ X b true++gT b)++cW (aA X (eJ X b true++gT b)) l:=rfl;rw[e,bD];by_cases z:c∈l
  ·exact ih _ (by rw[b7,hX]) (λc G=>hr c (by simp[G])) c z j J
  ·have aa:c=b:=by
    rcases aP.1 G with h|h
    ·exact h
    ·exact absurd h z
   subst aa;rw[ey _ _ _ λp hp=> ?_]
   ·rw[bD]
    have U:∀(Y:List Int),Y.length=3128->∀m,m<=8->∀j,j<m->(aA Y (mi c m)).getD (1080+8*c+j) 0=0:=by
     intro Y hY m;induction m with
     |zero=>intro _ j J;omega
     |succ m ihm=>
      intro hm j J;have W:=hr c (by simp);rw[Aj,bD,nC,aH,jk _ _ _ _ (by rw[b7];omega)];by_cases e2:j=m
      ·rw[aC (by omega)]
      ·rw[aB (by omega)]
       exact ihm (by omega) j (by omega)
    exact U _ (by rw[b7,hX]) 8 (aI _) j J
   ·rcases pL _ _ p hp with V|V
    ·omega
    ·intro e2
     have :(p.1.toNat-1080)/8=c:=by omega
     rw[this] at V;exact z V.2
theorem qX.take(h:qX X T V own ex)(n:Nat):
  qX (aA X (cW X ((aZ X).take n))) T V own (ex++(aZ X).take n)/\pg X (aA X (cW X ((aZ X).take n))) []/\(∀c∈(aZ X).take n,∀j,j<8->(aA X (cW X ((aZ X).take n))).getD (1080+8*c+j) 0=0)/\
   (aZ (aA X (cW X ((aZ X).take n))))=(aZ X).drop n/\∀k,k<816->(aA X (cW X ((aZ X).take n))).getD k 0=X.getD k 0:=by
 have hm:∀c∈(aZ X).take n,c≠0/\c<256:=pF;have hn:((aZ X).take n).Nodup:=ru;have o9:∀c∈(aZ X).take n,dC X c=false:=λc J=>(jT.1 (bM J)).2.2
 obtain⟨t1,t2,t3⟩:=mN ((aZ X).take n) X h.w64 h.len hm;obtain⟨-,-,t4⟩:=EF h.w64 h.len n;have t5:=PW ((aZ X).take n) X h.len λc J=>(hm c J).2
 have z:∀k,k<816\/(820<=k/\¬(1080<=k/\(k-1080)/8∈(aZ X).take n))->(aA X (cW X ((aZ X).take n))).getD k 0=X.getD k 0:=λk U=>ey _ _ _ λp hp=>by
  rcases pL _ _ p hp with G|G
  ·omega
  ·intro e
   rcases U with W|W
   ·omega
   ·exact W.2 (by rw[<-e];exact G)
 generalize (aZ X).take n=l at *;generalize aA X (cW X l)=Y at *;have qm:pg X Y []:=λc J aa hu _ j hj=>z _ (.inr ⟨by omega,λG=>by
  have e:(1080+8*c+j-1080)/8=c:=by omega
  rw[e] at G;rw[o9 c G.2] at hu;cases hu⟩)
 refine⟨h.bits t2 t1 (xJ h.sup (λk U=>z k (.inl (by omega))) λk U ac=>z k (.inr ⟨U,by omega⟩)) (λk U ae=>z k (.inr ⟨by omega,by omega⟩)) (λi hi c J j hj=> ?_) (λb hb=> ?_) (λc J=> ?_) λj hj=>h.tailsKeep qm hj (by simp),qm,t5,t4,λk U=>z k (.inl U)⟩
 ·have G:=h.rng hi (bR _ J)
  exact qm c G.2 G.1 (h.used hi (bR _ J)) (by simp) j hj
 ·have W:=h.once b hb
  have h4:=sQ hn b;rw[gK,t3 b hb];by_cases g:b∈l
  ·rw[aC g] at h4
   have h5:=o9 b g;have h6:¬(wG V own b+ex.count b=1):=λe=>by rw[W.2.2 e] at h5;cases h5
   rw[bq g,Bool.or_true];exact⟨by omega,λ_=>by omega,λ_=>rfl⟩
  ·rw[aB g] at h4
   rw[aS g,Bool.or_false,h4,dR];exact W
 ·rcases aU.1 J with G|G
  ·exact h.exr c G
  ·exact hm c G
theorem qX.words(h:qX X T V own ex){i:Nat}(hi:i<32){qs:List (Int×Int)}(hq:∀p∈qs,1080<=p.1.toNat/\((p.1.toNat-1080)/8∈dn (nT V i)\/(p.1.toNat-1080)/8∈ex))(ae:In64 (aA X qs))(ht:jR (aA X qs) (nT V i)):
  qX (aA X qs) T V own ex/\pg X (aA X qs) (dn (nT V i)++ex)/\aZ (aA X qs)=aZ X/\∀k,k<1080->(aA X qs).getD k 0=X.getD k 0:=by
 have z:∀k,k<1080->(aA X qs).getD k 0=X.getD k 0:=λk W=>ey _ _ _ λp hp=>by have :=(hq p hp).1;omega
 have J:∀c,c∉dn (nT V i)->c∉ex->∀j,j<8->(aA X qs).getD (1080+8*c+j) 0=X.getD (1080+8*c+j) 0:=λc U h2 j G=>ey _ _ _ λp hp e=>by
  have h3:=(hq p hp).2;have e2:(p.1.toNat-1080)/8=c:=by omega
  rw[e2] at h3;rcases h3 with h3|h3
  ·exact U h3
  ·exact h2 h3
 have M5:=Cj (X:=X) (Y:=aA X qs) λk W=>z k (by omega)
 have aa:(aA X qs).length=3128:=by rw[b7,h.len]
 generalize aA X qs=Y at *;refine⟨h.bits aa ae (xJ h.sup (λk W=>z k (by omega)) λk W ag=>z k (by omega)) (λk W af=>z k af) (λj G c hc k W=> ?_) (λb hb=>by rw[M5.1 b hb];exact h.once b hb) h.exr λj G=> ?_,λc _ _ _ hn j G=>J c (λh=>hn (bR _ h)) (λh=>hn (bV _ h)) j G,M5.2,z⟩
 ·refine J c (λU=> ?_) (λU=>h.apartEx G (bR _ hc) U) k W
  by_cases e:j=i
  ·subst e;exact h.inner G hc U
  ·exact h.apart G hi e (bR _ hc) (bV _ U)
 ·by_cases e:j=i
  ·subst e;exact ht
  ·rcases h.virLen G with h2|h2
   ·exact uz h2 (h.tails j G) λc ac k W=>J c (λU=>h.apart G hi e (bV _ ac) (bV _ U)) (λU=>h.apartEx G (bV _ ac) U) k W
   ·rw[h2]
    intro hK;simp[cr] at hK
theorem qX.heads(h:qX X T V own ex){qs:List (Int×Int)}(hq:∀p∈qs,p.1=1\/p.1=2)(J:In64 (aA X qs))(hs:kD (aA X qs)):
  qX (aA X qs) T V own ex/\pg X (aA X qs) []/\aZ (aA X qs)=aZ X:=by
 have z:∀k,3<=k->(aA X qs).getD k 0=X.getD k 0:=λk hk=>ey _ _ _ λp hp=>by have :=hq p hp;omega
 have G:(aA X qs).length=3128:=by rw[b7,h.len]
 have W:(∀c,c<256->dC (aA X qs) c=dC X c):=λc hc=>by
  unfold dC bw;rw[z _ (by omega)]
 have U:aZ (aA X qs)=aZ X:=sZ λc hc _=>W c hc
 generalize aA X qs=Y at *;have qm:pg X Y []:=λc _ _ _ _ j _=>z _ (by omega)
 exact⟨h.bits G J hs (λk hk _=>z k (by omega)) (λi _ c _ j _=>z _ (by omega)) (λb hb=>by rw[W b hb];exact h.once b hb) h.exr λj hj=>h.tailsKeep qm hj (by simp),qm,U⟩
def jg (w:World) (v:Value) (g:Nat) (P:List ByteArray):Prop:=Reads w v g (P.map Value.string)
def kW (P:List ByteArray) (k:Nat):ByteArray:=P.getD k ByteArray.empty
theorem XW (h:k<P.length):kW P k∈P:=by
 have :P.getD k ByteArray.empty=P[k]:=by simp[h]
 rw[kW,this];exact bA h
theorem abq (h:k<P.length):P.drop k=kW P k::P.drop (k+1):=by
 have :P.getD k ByteArray.empty=P[k]:=by simp[h]
 rw[fE h,kW,this]
theorem jg.keep{w':World}(h:jg w v g P){l:List Nat}(z:az l w w')(G:g∉l):jg w' v g P:=Reads.keep h z G
theorem jg.open(h:jg w v g P):∃a cap,v= .slice a P.length cap/\P.length<=cap/\cap<=maxLen/\
  Hid (∀k,k<P.length->g<w.heap.size/\∃off,a=some ⟨g,off,none⟩/\w.cell? ⟨g,off+k,none⟩=some (.string (kW P k))):=by
 obtain⟨a,cap,G,U,h3,V⟩:=h;rw[bS] at *;refine⟨a,cap,G,U,h3,λk z=> ?_⟩;obtain⟨W,off,h6,J⟩:=V (by intro e;rw[List.map_eq_nil_iff] at e;rw[e] at z;simp at z);refine⟨W,off,h6,(J k z).trans ?_⟩;rw[bF,aG z,kW,aj,aG z];rfl
theorem jg.init{a:Option Addr}{cap:Nat}(h:jg w (.slice a m cap) g P):jg w (.slice a (m-1) cap) g P.dropLast:=by
 obtain⟨a',J,U,h2,h3,h4⟩:=h;cases U;rw[bS] at *;refine⟨a,cap,by rw[bS,jd],by rw[bS,jd];omega,h3,λV=> ?_⟩;have z:P.dropLast≠[]:=λe=>V (by rw[e];rfl)
 have G:0<P.dropLast.length:=List.length_pos_iff.2 z;rw[jd] at G;obtain⟨h5,off,h6,h7⟩:=h4 (by intro e;rw[List.map_eq_nil_iff] at e;rw[e] at G;simp at G);refine⟨h5,off,h6,λj W=> ?_⟩;rw[bS,jd] at W;rw[h7 j (by omega),bF,bF,aG (show j<P.length by omega),aG (show j<P.dropLast.length by rw[jd];omega),List.getElem_dropLast]
theorem Ge (P:List ByteArray):kV P=true↔∀k,k<P.length->iC (bl (kW P k))=true:=by
 unfold kV;rw[fY];constructor
 ·exact λh k z=>h _ (XW z)
 ·intro h s G
  obtain⟨k,z,rfl⟩:=cj G;have :=h k z;rwa[kW,show P.getD k ByteArray.empty=P[k] by simp[z]] at this
theorem Gf (h:jg w v g P)(hs:∀s∈P,s.size<=9223372036854775807):
  Calls prog 180 #[v] w λe w'=>e= .returned (.bool (kV P))/\w=w':=by
 obtain⟨a,cap,rfl,aa,U,yu⟩:=h.open;have HG:Hid (∀k,k<P.length->∀G,Calls prog 170 #[.string (kW P k)] G λe w'=>e= .returned (.bool (iC (bl (kW P k))))/\G=w'):=λk W G=>JK _ (hs _ (XW W)) G
 have HT:Hid ((∀k,k<P.length->iC (bl (kW P k))=true)->kV P=true):=(Ge P).2;have V:Hid (∀k,k<P.length->iC (bl (kW P k))=false->kV P=false):=λk W hf=>by
  cases e:kV P
  ·rfl
  ·rw[(Ge P).1 e k W] at hf;cases hf
 unfold maxLen at U;clear h hs;generalize kV P=gP at *;generalize hm:P.length=m at *;clear hm;go_enter func180,ntmps180;go_wp2_with fail;go_loopg [7] m (λgh s7 G=>∃k:Nat,k+gh=m/\s7= .int .i64 (k:Int)/\G=w/\Hid (∀j,j<k->iC (bl (kW P j))=true))
 case atStart=>exact⟨0,by omega,rfl,rfl,λj hj=>by omega⟩
 case round=>
  obtain⟨k,W,rfl,rfl,J⟩:=hrel;cases gk with
  |zero=>
   obtain rfl:k=m:=by omega
   have HR:=au (HT.out J.out);clear HT V J HG;go_wp2_with fail;go_ret;exact⟨by rw[HR.out];rfl,rfl⟩
  |succ gg=>
   have Iz:k<m:=by omega
   have ae:(k:Int)<(m:Int):=by omega
   have dt:(0:Int)<=(k:Int):=by omega
   obtain⟨ac,off,rfl,c0⟩:=yu.out k Iz;have z:=au (HG.out k Iz);cases hb:iC (bl (kW P k)) with
   |false=>
    have HR:=au (V.out k Iz hb);rw[hb] at z;clear HT V J HG yu hb;generalize kW P k=nk at *;go_wp2_with fail;refine(z.out _).mono ?_;rintro e w' ⟨rfl,rfl⟩;go_wp2_with fail;go_ret;exact⟨by rw[HR.out];rfl,rfl⟩
   |true=>
    have mU:Hid (∀j,j<k+1->iC (bl (kW P j))=true):=λj hj=>by
     by_cases e:j=k
     ·rw[e];exact hb
     ·exact J.out j (by omega)
    rw[hb] at z;clear HT V J HG yu hb;generalize kW P k=nk at *;go_wp2_with fail;refine(z.out _).mono ?_;rintro e w' ⟨rfl,rfl⟩;go_wp2_with fail;go_roundg gg;case measure=>omega
    case rel=>exact⟨k+1,by omega,by go_num,rfl,mU.out⟩
def vM (w:World) (n:bP) (e:Ending) (w':World):Prop:=
 az [] w w'/\((n.K=2/\∃v g,e= .returned (.tuple #[.agg (aR n v),.int .i64 0])/\n.B.length=13/\bC w' v g n.E/\w.heap.size<=g)\/(n.K≠2/\e= .returned (.tuple #[.agg (aR cr (.slice none 0 0)),.int .i64 4])))
theorem Bb (h:gN w b gp B ps T own){i:Nat}(hi:i<32)(hF:(nT T i).F≠0):
  Calls prog 182 #[.pointer (some ⟨b,0,none⟩),.int .i64 (i:Int)] w (vM w (nT T i)):=by
 have dt:az [] w (w.alloc (.cells (aR cr (.slice none 0 0)) 111)):=(az.refl _ _).alloc _;have hG:=(h.keep0 dt).get hi;unfold x9 at hG;have HG:=au hG;have AL:=au (bh.new w (aR cr (.slice none 0 0)) 111);have ub:=eA;have ot:=au (br w (.cells (aR cr (.slice none 0 0)) 111));have HP:Hid (∀e w',vM w (nT T i) e w'->vM w (nT T i) e w'):=λ_ _ h=>h
 have O9:=au hF;clear h hF hG;generalize nT T i=n at *;generalize G:aR cr (.slice none 0 0)=Z0 at *;have oz:=au G;have DN:Hid (Z0.size=18):=by show _=_;rw[<-G];rfl
 clear G;obtain⟨W0,W⟩:∃W0,w.alloc (.cells Z0 111)=W0:=⟨_,rfl⟩;rw[W] at HG AL dt ot;have qC:=au W;have fW:=au dt;clear W dt;go_enter func182,ntmps182;go_wp2_with fail;rw[qC.out];refine HG.out.mono ?_;rintro e w1 ⟨v,g,va,ga,r,rfl,z,hE,hg,-,-,U,hr⟩;have Ki:r=0:=by
  have :=O9.out;omega
 subst Ki;clear hr;obtain⟨w2,p1,p2,p3⟩:=dc (n:=n) (v:=v) (bh.new w1 Z0 111) DN.out z hE.one;have aa:az [] W0 w2:=(U.alloc _).trans p3 (by intro x J;rw[ay] at J;have :=U.size;omega);have ov:=au p1;have qN:=au (ct p2 z);have K0:bC w2 v g n.E:=hE.keep ((((az.refl [] w1).alloc _).mono (by simp)).trans' p3) (λh0=>hE.apart (l:=[w1.heap.size]) (λx J=>by rw[ay] at J;omega) h0);have c1:w2.cell? ⟨w1.heap.size,1,none⟩=some (.int .i64 n.K):=by rw[p2.cell];exact(iX v z).f1
 have fL:=au aa;have Zy:=au K0;have HB:=au z;have Tn:=au hg;clear p1 p2 p3 aa K0 hE hg U HG;by_cases hK:n.K=2
 ·obtain⟨w3,q1,q2,q3⟩:=dc (n:=n) (v:=v) (AL.out.keep fL.out (by simp)) DN.out z Zy.out.one
  have xX:=au q1;have zC:=au (ct q2 z);have HF:Hid (vM w n (.returned (.tuple #[.agg (aR n v),.int .i64 0])) w3):=by
   have h1:=fW.out.size;have h2:=Tn.out;have h3:=ot.out;refine⟨(fW.out.trans' fL.out).trans q3 (by intro x J;rw[ay] at J;omega),.inl ⟨hK,v,g,rfl,z,Zy.out.keep q3 (λ_=>by rw[ay];omega),by omega⟩⟩
  rw[hK] at c1;clear q1 q2 q3 z hK HP HB;generalize aR n v=ZN at *;go_wp2_with(first|(with_reducible refine gS 111 ov.out ?_)|(with_reducible refine gL 111 qN.out ?_)|(with_reducible refine gS 111 xX.out ?_));exact aL (dH results182 rfl zC.out rfl) rfl HF.out
 ·obtain⟨w3,q1,q2,q3⟩:=dc (n:=cr) (v:= .slice none 0 0) (AL.out.keep fL.out (by simp)) DN.out rfl rfl
  have V:=ct q2 rfl;have HF:Hid (vM w n (.returned (.tuple #[.agg (aR cr (.slice none 0 0)),.int .i64 4])) w3):=by
   have h1:=fW.out.size;have h3:=ot.out;exact⟨(fW.out.trans' fL.out).trans q3 (by intro x J;rw[ay] at J;omega),.inr ⟨hK,rfl⟩⟩
  rw[oz.out] at q1 V HF;have xX:=au q1;have zC:=au V;have bK:(n.K==2)=false:=by simpa using hK
  clear q1 q2 q3 z hK HP HB V;generalize aR n v=ZN at *;generalize n.K=K at *;go_wp2_with(first|(with_reducible refine gS 111 ov.out ?_)|(with_reducible refine gS 111 xX.out ?_));exact aL (dH results182 rfl zC.out rfl) rfl HF.out
structure Ks (M:Nat->Nd) (T:List (bP×Value)):Prop where
 tree:eo M
 kind:∀i,(M i).K=(nT T i).K
 ents:∀i,(M i).E=(nT T i).E
 form:∀i,(M i).K≠0->(nT T i).F≠0
theorem M6 {M:Nat->Nd}:∀(p:List ByteArray) (a:Nat),(iO M a p).2≠0->(iO M a p).1=0
 | [],a,h=>absurd rfl h
 |x::p,a,h=>by
  have e:iO M a (x::p)=if (M a).K=2 then (if cz (M a).E x<0 then (0,2) else iO M (cz (M a).E x).toNat p) else (0,4):=rfl
  rw[e] at h ⊢;split at h
  ·next h1=>
   rw[aC h1];split at h
   ·next h2=>rw[aC h2]
   ·next h2=>rw[aB h2];exact M6 p _ h
  ·next h1=>rw[aB h1]
theorem PX (M:Nat->Nd)(a:Nat)(x:ByteArray)(p:List ByteArray):iO M a (x::p)=if (M a).K=2 then (if cz (M a).E x<0 then (0,2) else iO M (cz (M a).E x).toNat p) else (0,4):=rfl
def Gg (w:World) (r:Nat×Int) (e:Ending) (w':World):Prop:=e= .returned (.tuple #[.int .i64 (r.1:Int),.int .i64 r.2])/\az [] w w'
theorem M7 (h:gN w b gp B ps T own){M:Nat->Nd}(V:Ks M T){v:Value}{g:Nat}{P:List ByteArray}(hP:jg w v g P):
  Calls prog 181 #[.pointer (some ⟨b,0,none⟩),v] w (Gg w (iO M 0 P)):=by
 obtain⟨a,cap,rfl,aF,ax,yu⟩:=hP.open;have HD:Hid (∀x,(M x).K≠0->∀U,az [] w U->Calls prog 182 #[.pointer (some ⟨b,0,none⟩),.int .i64 (x:Int)] U (vM U (nT T x))):=λx W U hk=>
  Bb (h.keep0 hk) (V.tree.rng W) (V.form x W)
 have uN:Hid (∀x,(M x).K=2->∀U v g s,bC U v g (nT T x).E->(nT T x).B.length=13->Calls prog 156 #[.agg (aR (nT T x) v),.string s] U λe w'=>
   ∃(r:Int) (ok:Bool),e= .returned (.tuple #[.int .i64 r,.bool ok])/\az [] U w'/\((cz (M x).E s<0/\ok=false)\/(0<=cz (M x).E s/\ok=true/\r=cz (M x).E s))):=λx W U v g s hE hB=>by
  obtain⟨A,X,B',hs⟩:=kQ (V.tree.rises x) s;have h1:=kR hs λq hq=>(V.tree.lead x q hq).1.1
  rw[V.ents x] at hs;have hl:=h.gots.elen x;refine(Rs (nT T x) hB hE hs (by omega)).mono ?_;rintro e w' ⟨rfl,hk⟩;refine⟨_,_,rfl,hk,?_⟩;rcases Int.lt_or_le (cz (M x).E s) 0 with h2|h2
  ·exact .inl ⟨h2,by rw[h1.1.1 h2];rfl⟩
  ·exact .inr ⟨h2,by rw[h1.2 h2];rfl,by rw[h1.2 h2];rfl⟩
 have ag:Hid (∀x k,k<P.length->iO M x (P.drop k)=if (M x).K=2 then (if cz (M x).E (kW P k)<0 then (0,2) else iO M (cz (M x).E (kW P k)).toNat (P.drop (k+1))) else (0,4)):=λx k hk=>by rw[abq hk,PX]
 have DL:Hid (∀x,iO M x (P.drop P.length)=(x,0)):=λx=>by rw[List.drop_length];rfl
 have mI:Hid (∀x s,(M x).K=2->0<=cz (M x).E s->(M (cz (M x).E s).toNat).K≠0/\(((cz (M x).E s).toNat:Nat):Int)=cz (M x).E s):=λx s _ hf=>⟨(pK V.tree hf).2.1,(pK V.tree hf).2.2.1⟩
 have Od:Hid (∀x,(nT T x).K=(M x).K):=λx=>(V.kind x).symm
 have h0:Hid (iO M 0 P=iO M 0 (P.drop 0)/\(M 0).K≠0):=⟨rfl,by rw[V.tree.root];omega⟩;have ub:=eA;have G:Hid (∀(r:Nat×Int) w',iO M 0 P=r->az [] w w'->Gg w (iO M 0 P) (.returned (.tuple #[.int .i64 (r.1:Int),.int .i64 r.2])) w'):=λr w' h1 h2=>by rw[h1];exact⟨rfl,h2⟩
 unfold maxLen at ax;clear h V hP;generalize hS:iO M 0 P=S at *;clear hS;generalize hm:P.length=m at *;clear hm;generalize ah:aR cr (.slice none 0 0)=Z0 at *;have oz:=au ah;have DN:Hid (Z0.size=18):=by show _=_;rw[<-ah];rfl
 clear ah;go_enter func181,ntmps181;go_wp2_with fail;go_loopg [6,15] m (λgh s6 s15 U=>∃k x:Nat,k+gh=m/\s15= .int .i64 (k:Int)/\s6= .int .i64 (x:Int)/\Hid (az [] w U)/\Hid (S=iO M x (P.drop k)/\(M x).K≠0))
 case atStart=>exact⟨0,0,by omega,rfl,rfl,az.refl _ _,h0.out⟩
 case round=>
  clear h0;obtain⟨k,x,hk,rfl,rfl,qB,HP⟩:=hrel;cases gk with
  |zero=>
   obtain rfl:k=m:=by omega
   have HF:=au (G.out (x,0) _ (HP.out.1.trans (DL.out x)) qB.out);clear HP G DL mI ag uN HD yu;go_wp2_with fail;go_ret2;exact HF.out
  |succ gg=>
   have Iz:k<m:=by omega
   have aH:(k:Int)<(m:Int):=by omega
   have dt:(0:Int)<=(k:Int):=by omega
   obtain⟨ar,off,rfl,c0⟩:=yu.out k Iz;have aG:=(aO (w:=w) (a:=⟨g,off+k,none⟩) (qB.out.block g ar (by simp))).trans c0;have ai:=au (HD.out x HP.out.2 _ qB.out);have z:=au (HP.out.1.trans (ag.out x k Iz));have aj:=au (uN.out x);have af:=au (mI.out x (kW P k));have J:=Od.out x;clear HD uN ag mI HP DL c0 ar;generalize kW P k=nk at *;generalize nT T x=n at *;go_wp2_with fail;refine ai.out.mono ?_;rintro e w1 ⟨ac,⟨hK,v,g1,rfl,hB,hE,aD⟩|⟨hK,rfl⟩⟩
   ·obtain⟨w2,p1,p2,p3⟩:=dc (n:=n) (v:=v) (bh.new w1 Z0 111) DN.out hB hE.one
    have ov:=au p1;have qN:=au (ct p2 hB);have K0:bC w2 v g1 n.E:=hE.keep ((((az.refl [] w1).alloc _).mono (by simp)).trans' p3) (λh0=>hE.apart (l:=[w1.heap.size]) (λx W=>by rw[ay] at W;omega) h0);have fL:Hid (az [] w w2):=(qB.out.trans' ac).trans (((az.refl [] w1).alloc _).trans p3 (by intro x W;rw[ay] at W;omega)) (by simp);have ak:=au (aj.out (J▸hK) w2 v g1 nk K0 hB);have aa:(M x).K=2:=by rw[<-J];exact hK
    rw[aC aa] at z;clear p1 p2 p3 hE K0 hB aD ac aj ai hK J;generalize aR n v=ZN at *;go_wp2_with(first|(with_reducible refine gS 111 ov.out ?_)|(with_reducible refine gL 111 qN.out ?_));refine ak.out.mono ?_;rintro e w3 ⟨r,ok,rfl,ae,⟨hf,rfl⟩|⟨hf,rfl,rfl⟩⟩
    ·have HF:=au (G.out (0,2) w3 (by rw[z.out,aC hf]) (fL.out.trans' ae))
     clear z G af ae hf aa ak;go_wp2_with fail;go_ret2;exact HF.out
    ·obtain⟨aA,av⟩:=af.out aa hf
     have HN:Hid (az [] w w3/\S=iO M (cz (M x).E nk).toNat (P.drop (k+1))/\(M (cz (M x).E nk).toNat).K≠0):=⟨fL.out.trans' ae,by rw[z.out,aB (by omega)],aA⟩;clear z G af ae hf aa ak aA;rw[<-av];generalize (cz (M x).E nk).toNat=y at *;clear av;go_wp2_with fail;go_roundg gg;case measure=>omega
     case rel=>exact⟨k+1,y,by omega,by go_num,rfl,HN.out.1,HN.out.2⟩
   ·obtain⟨w2,p1,p2,p3⟩:=dc (n:=cr) (v:= .slice none 0 0) (bh.new w1 Z0 111) DN.out rfl rfl
    have ov:=au p1;have fL:Hid (az [] w w2):=(qB.out.trans' ac).trans (((az.refl [] w1).alloc _).trans p3 (by intro x W;rw[ay] at W;omega)) (by simp);have HF:=au (G.out (0,4) w2 (by rw[z.out,aB (by rw[<-J];exact hK)]) fL.out);clear p1 p2 p3 ac aj ai hK J z G af;go_wp2_with(with_reducible refine gS 111 ov.out ?_);go_ret2;exact HF.out
theorem XX (h:gN w b gp B ps T own){M:Nat->Nd}(U:Ks M T){v:Value}{g:Nat}{P:List ByteArray}(z:jg w v g P)(hs:∀s∈P,s.size<=9223372036854775807):
  Calls prog 159 #[.pointer (some ⟨b,0,none⟩),v] w (Gg w (cG M P)):=by
 have V:=au (Gf z hs);have W:=au (M7 h U z);obtain⟨a,cap,rfl,-,-,-⟩:=z.open;have G:Hid (cG M P=if kV P=true then iO M 0 P else (0,1)):=rfl;clear h U z hs;generalize cG M P=R at *;generalize iO M 0 P=S at *;generalize kV P=gP at *;cases gP with
 |true=>
  have e:R=S:=G.out;subst e;clear G;go_enter func159,ntmps159;go_wp2_with fail;refine V.out.mono ?_;rintro e w' ⟨rfl,rfl⟩;go_wp2_with fail;refine W.out.mono ?_;rintro e w' ⟨rfl,J⟩;have HK:=au J;clear J;go_wp2_with fail;go_ret2;exact⟨rfl,HK.out⟩
 |false=>
  have e:R=(0,1):=G.out;subst e;clear G W;go_enter func159,ntmps159;go_wp2_with fail;refine V.out.mono ?_;rintro e w' ⟨rfl,rfl⟩;go_wp2_with fail;go_ret2;exact⟨rfl,az.refl _ _⟩
def qY (w:World) (r:Nat×Int) (nm:ByteArray) (e:Ending) (w':World):Prop:=
 az [] w w'/\((r.2=0/\e= .returned (.tuple #[.int .i64 (r.1:Int),.string nm,.int .i64 0]))\/(r.2≠0/\e= .returned (.tuple #[.int .i64 0,.string ⟨#[]⟩,.int .i64 r.2])))
def oY (X:List Int) (n:bP) (k:Nat):Int:=if n.B.getD (k/64) 0=0 then 0 else ((qR (X.getD (1080+8*(n.B.getD (k/64) 0).toNat+k%64/8) 0).toNat (k%8):Nat):Int)
def qO (X:List Int) (n:bP):List Int:=(List.range n.S.toNat).map (oY X n)
def sS (X:List Int) (n:bP):Nd:=⟨n.K,n.L,if n.K=1 then qO X n else [],n.E⟩
theorem XY (X:List Int):sS X cr=vL:=rfl
theorem Jd (X:List Int)(n:bP)(k:Nat):0<=oY X n k/\oY X n k<256:=by
 unfold oY;split
 ·omega
 ·have :=Br (X.getD (1080+8*(n.B.getD (k/64) 0).toNat+k%64/8) 0).toNat (k%8)
  omega
theorem uA (X:List Int)(n:bP):(qO X n).length=n.S.toNat:=by simp[qO]
theorem Je (X:List Int)(n:bP){k:Nat}(h:k<n.S.toNat):(qO X n).getD k 0=oY X n k:=by
 simp[qO,h]
theorem Bc (W:n.B.length=13)(J:n.K=1->n.S<=832)(V:∀c∈dn n,∀j,j<8->Y.getD (1080+8*c+j) 0=X.getD (1080+8*c+j) 0):sS Y n=sS X n:=by
 unfold sS;by_cases z:n.K=1
 ·rw[aC z,aC z]
  have e:qO Y n=qO X n:=by
   unfold qO;apply dD;intro k G;rw[bX] at G;unfold oY;by_cases h:n.B.getD (k/64) 0=0
   ·rw[aC h,aC h]
   ·rw[aB h,aB h]
    have Ze:=J z;have U:(n.B.getD (k/64) 0).toNat∈dn n:=by
     unfold dn fx;refine bH.2 ⟨n.B.getD (k/64) 0,List.mem_filter.2 ⟨?_,by simpa using h⟩,rfl⟩;rw[aV (by omega),aj,aG (by omega)];exact bA _
    rw[V _ U (k%64/8) (by omega)]
  rw[e]
 ·rw[aB z,aB z]
structure lY (X:List Int) (T:List (bP×Value)) (own:Nat->List Nat) (ex:List Nat) (M:Nat->Nd):Prop where
 st:StX X T own ex
 abs:∀i,M i=sS X (nT T i)
 tree:eo M
theorem rZ (h:bZ n)(G:n.K=1):0<=n.S/\n.S<=832:=by
 rcases h.2.2 with z|z
 ·exact z.2.1
 ·omega
theorem lY.agree(h:lY X T own U M):Ks M T:=by
 refine⟨h.tree,λi=>by rw[h.abs];rfl,λi=>by rw[h.abs];rfl,λi G hF=>G ?_⟩;rw[h.abs];show(nT T i).K=0;rcases h.st.gots.form i with ⟨z,-⟩|⟨-,J,-⟩
 ·exact absurd hF z
 ·rw[J];rfl
theorem lY.few(h:lY X T own ex M):mK M:=by
 have V:∀i,bZ (nT T i)\/nT T i=cr:=λi=>by
  rcases h.st.gots.form i with ⟨-,-,z⟩|⟨-,U,-⟩
  ·exact .inl z.right
  ·exact .inr U
 refine⟨λi e G=> ?_,λi=> ?_,λi=> ?_,λi x J=> ?_⟩
 ·rw[h.abs] at G
  have G:e∈(nT T i).E:=G;rcases V i with z|z
  ·rcases z.2.2 with ⟨-,U⟩|⟨-,U⟩
   ·have :=List.length_eq_zero_iff.1 U.2.1
    rw[this] at G;simp at G
   ·obtain⟨k,W,rfl⟩:=cj G
    have :=(U.2.2.2 k W).1;rwa[show eU (nT T i).E k=(nT T i).E[k].1 by simp[eU,W]] at this
  ·rw[z] at G;simp[cr] at G
 ·rw[h.abs]
  exact h.st.gots.elen i
 ·rw[h.abs]
  unfold sS
  dsimp only
  split
  ·next hK=>
   rw[uA];rcases V i with z|z
   ·have :=rZ z hK;omega
   ·rw[z] at hK;simp[cr] at hK
  ·simp
 ·rw[h.abs] at J
  unfold sS at J
  dsimp only at J
  split at J
  ·obtain⟨k,-,rfl⟩:=bH.1 J
   exact Jd X _ k
  ·simp at J
theorem M8 (h:∀i,M i=sS X (nT T i))(i:Nat):∀k,I7 T k i=kI M k i:=by
 intro k;induction k with
 |zero=>rfl
 |succ k ih=>
  show I7 T k i+yC (nT T k).E (nT T k).E.length i=kI M k i+rX (M k).E i;rw[ih,h k]
  congr 1
  unfold yC rX;rw[gA];rfl
theorem Gh (h:∀i,M i=sS X (nT T i))(hN:TY T)(ho:∀i,32<=i->(nT T i).E=[])(i:Nat):Reach T 0 (i:Int)↔mP M 0 i:=by
 constructor
 ·intro W
  have V:∀x,Reach T 0 x->∃n:Nat,x=(n:Int)/\mP M 0 n:=by
   intro x hx;induction hx with
   |here=>exact⟨0,rfl,.here⟩
   | @step a b _ hb ih=>
    obtain⟨n,rfl,hn⟩:=ih;have J:=hN _ b hb;obtain⟨m,rfl⟩:∃m:Nat,b=(m:Int):=⟨b.toNat,by omega⟩;unfold pd at hb;split at hb
    ·obtain⟨e,U,z⟩:=bH.1 hb
     rw[aH] at U;exact⟨m,rfl,hn.step ⟨e,by rw[h];exact U,z⟩⟩
    ·simp at hb
  obtain⟨n,J,h2⟩:=V _ W;rw[show i=n by omega];exact h2
 ·intro hc
  induction hc with
  |here=>exact .here
  | @step a b _ U ih=>
   obtain⟨e,G,z⟩:=U;rw[h] at G;have G:e∈(nT T a).E:=G;have ha:a<32:=by
    rcases dG a 32 with J|J
    ·exact J
    ·rw[ho a J] at G;simp at G
   refine ih.step ?_;unfold pd;rw[aC (by omega),aH];exact bH.2 ⟨e,G,z⟩
theorem Gi (h:qJ X T own):∀i,32<=i->(nT T i).E=[]:=λi z=>by rw[h.zero z];rfl
theorem lY.free{W:List Nat}(h:lY X T own W M){i:Nat}(U:i<32):dP X (i:Int)↔(M i).K=0:=by
 rw[h.abs];show _↔(nT T i).K=0;rcases h.st.each U with ⟨G,z⟩|⟨G,z,-⟩
 ·refine⟨λJ=>absurd J z.notFree,λJ=> ?_⟩
  rcases z.right.2.2 with V|V<;>omega
 ·exact⟨λ_=>by rw[z];rfl,λ_=>G⟩
theorem lY.points(h:lY X T own [] M):∀j,j<7->rV X T own j:=by
 have U:=λi=>M8 h.abs i 32
 intro j hj;rcases (show j=0\/j=1\/j=2\/j=3\/j=4\/j=5\/j=6 by omega) with rfl|rfl|rfl|rfl|rfl|rfl|rfl
 ·exact h.st.sup
 ·exact h.st.all
 ·refine⟨by have :=h.tree.root;rw[h.abs] at this;exact this,λi G hl J=> ?_⟩
  have z:0<kI M 32 i:=by rw[<-U];exact hl
  obtain⟨a,-,W⟩:=qo.1 z;exact(h.tree.dir W).2.2.1 ((h.free G).1 J)
 ·intro i G
  have z:=h.tree.links i G;rw[<-U] at z;have e1:(M i).K=(nT T i).K:=by rw[h.abs];rfl
  have V:(M i).L=(nT T i).L:=by rw[h.abs];rfl
  rw[e1,V] at z;exact z
 ·intro i G J
  rw[Gh h.abs h.st.gots.tabN (Gi h.st.gots)];exact h.tree.reach i λh0=>J ((h.free G).2 h0)
 ·intro b hb
  have :=h.st.once b hb;rwa[List.count_nil,dR] at this
 ·exact h.st.tails
theorem adK (hl:X.length=3128)(ae:In64 X)(V:qJ X T own)(hp:∀j,j<7->rV X T own j):∃M,lY X T own [] M:=by
 refine⟨λi=>sS X (nT T i),⟨hl,ae,hp 0 (by omega),V,hp 1 (by omega),λb hb=>by rw[List.count_nil,dR];exact hp 5 (by omega) b hb,by simp,hp 6 (by omega),V.len,λ_=> .inl rfl⟩,λ_=>rfl,?_⟩;have ac:∀i,(λi=>sS X (nT T i)) i=sS X (nT T i):=λ_=>rfl
 have xH:=λi=>M8 ac i 32
 have h2:MN X T:=hp 2 (by omega);have h3:xC T:=hp 3 (by omega);have h4:F4 X T:=hp 4 (by omega);have J:∀i:Nat,i<32->(¬dP X (i:Int)↔(nT T i).K≠0):=λi G=>by
  rcases V.form i with ⟨-,-,z⟩|⟨z,h6,-⟩
  ·refine⟨λ_=> ?_,λ_=>z.notFree⟩
   rcases z.right.2.2 with W|W<;>omega
  ·rw[h6]
   refine⟨λW=> ?_,λW=>absurd rfl W⟩;rcases (show vK X T from hp 1 (by omega)) i G with U|U
   ·exact absurd U W
   ·exact absurd z U
 have aa:∀i,32<=i->sS X (nT T i)=vL:=λi G=>by rw[V.zero G];rfl
 refine⟨aa,λi=> ?_,h2.1,λi e he=> ?_,λi=> ?_,λi G=> ?_,λi G=> ?_⟩
 ·rcases V.form i with ⟨-,-,z⟩|⟨-,h6,-⟩
  ·rcases z.right.2.2 with ⟨W,U⟩|⟨W,U⟩
   ·exact .inr (.inl ⟨W,List.length_eq_zero_iff.1 U.2.1⟩)
   ·exact .inr (.inr ⟨W,aB (by rw[W];decide)⟩)
  ·exact .inl (by rw[h6];rfl)
 ·have he:e∈(nT T i).E:=he
  have G:i<32:=by
   rcases dG i 32 with h|h
   ·exact h
   ·rw[Gi V i h] at he;simp at he
  have z:=V.tabN (i:Int) e.2 (by
   unfold pd;rw[aC (by omega),aH];exact bH.2 ⟨e,he,rfl⟩)
  refine⟨z,?_⟩;have h6:0<lf T e.2.toNat:=by
   unfold lf;rw[xH];exact qo.2 ⟨i,G,e,he,by omega⟩
  exact(J _ (by omega)).1 (h2.2 _ (by omega) h6)
 ·show xB (nT T i).E
  rcases V.form i with ⟨-,-,z⟩|⟨-,h6,-⟩
  ·rcases z.right.2.2 with ⟨-,U⟩|⟨-,U⟩
   ·rw[List.length_eq_zero_iff.1 U.2.1];exact List.Pairwise.nil
   ·exact IZ U
  ·rw[h6];exact List.Pairwise.nil
 ·have z:=h3 i G
  unfold rU lf at z;rw[xH] at z;exact z
 ·have jK:i<32:=by
   rcases dG i 32 with h|h
   ·exact h
   ·rw[aa i h] at G;exact absurd rfl G
  exact(Gh ac V.tabN (Gi V) i).1 (h4 i jK ((J i jK).2 G))
theorem Uo (h:Et xs):aW xs=OU (xs.map Int.toNat):=by
 rw[OU,aW,List.map_map];apply dD;intro z G;have :=h z G;simp only[Function.comp_apply];rw[jr this.1]
theorem abr{gb:Nat}(h:Reads w v gb (aW xs))(z:Et xs):
  Calls prog 124 #[v] w λe w'=>e= .returned (.int .u32 (K6 (xs.map Int.toNat):Nat))/\az [] w w':=by
 rw[Uo z] at h;exact Wp h
def calm (xs:List Int) (d:Int):j0:={ now:=xs,last:=xs,fl:=List.replicate ((xs.length+7)/8*8) false,deeds:=d,fused:=false,left:=0 }
def Cr (n:Nat) (qs:List (Int×Int)):List Bool:=(List.range n).map λi=>qs.any λp=>p.1/8==((i/8:Nat):Int)
def gJ (xs:List Int) (ps qs:List (Int×Int)) (d:Int):j0:=
 { now:=aA xs ps,last:=xs,fl:=Cr ((xs.length+7)/8*8) qs,deeds:=d,fused:=false,left:=0 }
theorem M9 (n:Nat):Cr n []=List.replicate n false:=by
 apply ck;intro j;simp only[Cr,List.any_nil,bF,bo];by_cases h:j<n
 ·rw[cA h,aC h];rfl
 ·rw[aT (by simpa using h),aB h];rfl
theorem RD (xs:List Int)(d:Int):calm xs d=gJ xs [] [] d:=by simp[calm,gJ,M9,aA]
theorem lZ{qs:List (Int×Int)}(z:0<=i)(h:i<xs.length):(gJ xs ps qs d).refusal i=0:=by
 simp[j0.refusal,j0.gone,gJ,b7];omega
theorem Hn (xs:List Int)(ps:List (Int×Int))(d:Int)(i x:Int)(z:0<=i)(h:i<xs.length):(gJ xs ps [] d).store i x=gJ xs (ps++[(i,x)]) [] (d+1):=by
 rw[j0.store,aC (lZ z h)];simp only[gJ,j0.count,bD,nC,M9]
 congr 1
 apply ck;intro j;rw[fg];simp only[bo,bG];split
 ·rename_i e
  subst e;split<;>simp_all
 ·rfl
theorem Uq (n:Nat)(qs:List (Int×Int))(i x:Int)(G:0<=i):zh (Cr n qs) (i.toNat/8) 8=Cr n (qs++[(i,x)]):=by
 apply ck;intro j;simp only[zh,Cr,fZ,bF];by_cases z:j<n
 ·rw[cA z]
  simp only[fV,Option.some.injEq,List.any_append,List.any_cons,List.any_nil,Bool.or_false];by_cases h:i.toNat/8*8<=j/\j<i.toNat/8*8+8
  ·rw[aC h]
   have :(i/8==((j/8:Nat):Int))=true:=by simp;omega
   rw[this,Bool.or_true]
  ·rw[aB h]
   have :(i/8==((j/8:Nat):Int))=false:=by simp;omega
   rw[this,Bool.or_false]
 ·rw[aT (by simpa using z)];rfl
theorem Ur (n:Nat)(qs:List (Int×Int))(i x:Int)(h:i/8∈iP qs):Cr n (qs++[(i,x)])=Cr n qs:=by
 unfold Cr;apply dD;intro j _;rw[List.any_append];by_cases z:(qs.any λp=>p.1/8==((j/8:Nat):Int))=true
 ·rw[z];rfl
 ·have :(i/8==((j/8:Nat):Int))=false:=by
   rw[cQ];intro e;apply z;simp only[iP,bH] at h;obtain⟨p,G,J⟩:=h;exact List.any_eq_true.2 ⟨p,G,by rw[J,e];simp⟩
  simp only[List.any_cons,List.any_nil,this,Bool.or_false]
theorem Ho (xs:List Int)(ps qs:List (Int×Int))(d:Int)(i x:Int)(h:0<=i)(z:i<xs.length):(gJ xs ps qs d).flush i=gJ xs ps (qs++[(i,x)]) (d+1):=by
 rw[j0.flush,aC (lZ h z)];simp only[gJ,j0.count,Uq _ _ _ x h];rfl
theorem Kt (xs:List Int)(ps qs:List (Int×Int))(d:Int)(i x:Int)(h:i/8∈iP qs):gJ xs ps (qs++[(i,x)]) d=gJ xs ps qs d:=by
 simp only[gJ,Ur _ _ _ _ h]
theorem xK (xs:List Int)(ps qs:List (Int×Int))(d:Int)(z:0<=d)(h:d<4611686018427387904):(gJ xs ps qs d).fit:=by
 refine⟨z,h,?_,?_⟩<;>simp[gJ]
theorem Hp (xs:List Int)(ps:List (Int×Int))(d:Int)(h:∀p∈ps,0<=p.1):(gJ xs ps ps d).fence=calm (aA xs ps) (d+1)/\(gJ xs ps ps d).fenceE=0:=by
 have U:(gJ xs ps ps d).gone=false:=rfl;refine⟨?_,by rw[j0.fenceE,U];rfl⟩;rw[j0.fence,U,aB (by simp)];have e1:iH (gJ xs ps ps d) (gJ xs ps ps d).now.length=aA xs ps:=by
  show(xs.mapIdx λj x=>if j<(aA xs ps).length/\(Cr ((xs.length+7)/8*8) ps).getD j false=true then (aA xs ps).getD j 0 else x)=aA xs ps;apply ck;intro j;rw[fZ];by_cases G:j<xs.length
  ·have z:j<(aA xs ps).length:=by rw[b7];exact G
   rw[aG G,aG z,fV];by_cases J:(Cr ((xs.length+7)/8*8) ps).getD j false=true
   ·rw[aC ⟨z,J⟩,aj,aG z];rfl
   ·rw[aB λe=>J e.2]
    have :=ey ps j xs λp V e=>by
     apply J;have W:=h p V;rw[Cr,aj,bF,cA (by omega)];simp only[fV,gD,List.any_eq_true];exact⟨p,V,by simp;omega⟩
    rw[aj,aG z,aj,aG G] at this;simp only[gD] at this;rw[this]
  ·rw[aT (by omega),aT (by rw[b7];omega)];rfl
 rw[e1];simp only[gJ,j0.count,calm,b7,Cr,bS,eN];rfl
theorem vN (z:0<=i)(h:i<xs.length):(calm xs d).refusal i=0:=by rw[RD];exact lZ z h
theorem Jf (z:0<=i)(h:i<xs.length):(calm xs d).load i=xs.getD i.toNat 0:=by rw[j0.load,aC (vN z h)];rfl
theorem yc (h:fH w b gn gl gf (calm xs d))(i:Int)(G:0<=i)(z:i<xs.length):
  Calls prog 52 #[.pointer (some ⟨b,0,none⟩),.int .i64 i] w λe w'=>e= .returned (.tuple #[.int .u64 (xs.getD i.toNat 0),.int .i64 0])/\w=w':=by
 have :=QJ h i;rw[vN G z,Jf G z] at this;exact this
theorem PY (x:Int)(z:0<=x)(w:World):Calls prog 122 #[.int .u64 x] w λe w'=>e= .returned (.bool (rC x))/\w=w':=by
 by_cases h:x<3128
 ·by_cases G:x<8
  ·rw[mr.2 ⟨z,h,.inl G⟩]
   go_enter func122,ntmps122;go_wp2_with fail;go_ret;exact⟨rfl,rfl⟩
  ·by_cases J:816<=x
   ·rw[mr.2 ⟨z,h,.inr J⟩]
    go_enter func122,ntmps122;go_wp2_with fail;go_ret;exact⟨rfl,rfl⟩
   ·rw[show rC x=false by rw[Bool.eq_false_iff,ne_eq,mr];omega]
    go_enter func122,ntmps122;go_wp2_with fail;go_ret;exact⟨rfl,rfl⟩
 ·rw[show rC x=false by rw[Bool.eq_false_iff,ne_eq,mr];omega]
  go_enter func122,ntmps122;go_wp2_with fail;go_ret;exact⟨rfl,rfl⟩
theorem vO (ws:List Int)(k:Nat):lK ws (k+1)=(lK ws k&&rC (ws.getD (2*k) 0)):=by
 simp[lK,dS,List.all_append]
theorem Ku (h:lK ws k=false)(z:k<=m):lK ws m=false:=by
 induction m with
 |zero=>obtain rfl:k=0:=by omega
        exact h
 |succ m ih=>
  rw[vO];by_cases e:k=m+1
  ·subst e
   rw[vO] at h;exact h
  ·rw[ih (by omega)];rfl
theorem Bd (h:Reads w v g (aW ws))(V:Et ws)(m:Nat)(J:ws.length=2*m)(aa:m<=100000):
  Calls prog 68 #[v] w λe w'=>e= .returned (.bool (lK ws m))/\w=w':=by
 obtain⟨a,cap,rfl,h1,h2,H3⟩:=iB h;unfold maxLen at h2;have HX:=au V;have HM:=au J;rw[J] at h1 ⊢;clear h V J;go_enter func68,ntmps68;go_wp2_with fail;go_loopg [3] m (λg s3 wx=>∃k:Nat,k+g=m/\s3= .int .i64 ((2*k:Nat):Int)/\Hid (lK ws k=true)/\wx=w)
 case atStart=>exact⟨0,by omega,rfl,rfl,rfl⟩
 case round=>
  obtain⟨k,hk,rfl,W,rfl⟩:=hrel;cases gk with
  |zero=>
   obtain rfl:k=m:=by omega
   have U:¬((2*k:Nat):Int)<((2*k:Nat):Int):=by omega
   go_wp2_with fail;go_ret;exact⟨by rw[W.out];rfl,rfl⟩
  |succ gg=>
   have U:((2*k:Nat):Int)<((2*m:Nat):Int):=by omega
   obtain⟨hg,off,rfl,hc⟩:=H3.out (2*k) (by rw[HM.out];omega);have G:=au (λwz=>PY (ws.getD (2*k) 0) (Ev HX.out _).1 wz);have z:=au (vO ws k);have b0:0<=((2*k:Nat):Int):=by omega
   generalize ws.getD (2*k) 0=x at *;cases hp:rC x
   ·rw[hp] at G z
    clear hp;go_wp2_with(go_at_call 122;refine(G.out _).mono ?_;rintro e w' ⟨rfl,rfl⟩);go_ret;exact⟨by rw[Ku (k:=k+1) (by rw[z.out];simp) (by omega)];rfl,rfl⟩
   ·rw[hp] at G z
    clear hp;go_wp2_with(go_at_call 122;refine(G.out _).mono ?_;rintro e w' ⟨rfl,rfl⟩);go_roundg gg;case measure=>omega
    case rel=>exact⟨k+1,by omega,by rw[show((2*(k+1):Nat):Int)=2*(k:Int)+2 by omega],by show lK ws (k+1)=true;rw[z.out,W.out];rfl,rfl⟩
theorem abt (n s:Nat)(z:n<2147483648)(h:s<4294967296):bits .or .u64 ((n:Int)/2*4294967296) (s:Int)=(((n/2:Nat):Int)*4294967296+(s:Int)):=by
 rw[show(n:Int)/2*4294967296=((n/2*4294967296:Nat):Int) by omega,u64_or_nat _ _ (by omega) (by omega),nat_join 32 _ _ (by exact Nat.mul_mod_left _ _) h];omega
theorem yY (h:Reads w v g (aW ws))(G:Et ws)(aa:ws.length<=100000):
  Calls prog 72 #[v] w λe w'=>e= .returned (.int .u64 (qL ws))/\az [] w w':=by
 have V:=au (abr h G);obtain⟨a,cap,rfl,h1,W,-⟩:=iB h;unfold maxLen at W;have hs:=Jw (ws.map Int.toNat);unfold qL;have U:=au (abt ws.length (K6 (ws.map Int.toNat)) (by omega) hs);generalize K6 (ws.map Int.toNat)=s at *;clear h G;generalize ws.length=n at *;go_enter func72,ntmps72;go_wp2_with fail;refine V.out.mono ?_;rintro e w1 ⟨rfl,z⟩;have J:=au z;clear z;go_wp2_with fail;go_ret;refine⟨?_,J.out⟩;rw[<-U.out];rfl
theorem PZ (h:mX w v g ps)(aa:okP ps)(hn:ps.length<=400):
  Calls prog 67 #[v] w (jw w (fq ps)):=by
 obtain⟨i0,hi,ag,af,ah⟩:=cP Tryz.info_u64;have H:=au h;have wQ:=au aa;obtain⟨a,cap,rfl,h1,h2⟩:=h.val;unfold maxLen at h2;have ac:=Ac (2*ps.length) (by omega) (2*(ps.length:Int)) (by omega) 0 (.inl rfl) w;rw[Int.natCast_zero] at ac;have HO:Hid ((w.alloc (.cells (madeCells #[.int .u64 0] (2*ps.length)) 56)).ownsRow w.heap.size 56 1 (.slice (some ⟨w.heap.size,0,none⟩) 0 (2*ps.length)) 0 []):=
  World.ownsRow_made w _ _ (aI _) (by simp[maxLen];omega) (by simp[size_madeCells])
 clear h aa;go_enter func67,ntmps67;go_wp2_with fail;go_loopg [3,12] ps.length (λgh s3 s12 wx=>∃k:Nat,k+gh=ps.length/\s12= .int .i64 (k:Int)/\s3= .slice (some ⟨w.heap.size,0,none⟩) (2*k) (2*ps.length)/\
  Hid (wx.ownsRow w.heap.size 56 1 (.slice (some ⟨w.heap.size,0,none⟩) (2*k) (2*ps.length)) (2*k) (aW (fq (ps.take k)))/\az [] w wx))
 case atStart=>exact⟨0,by omega,rfl,rfl,HO.out,(az.refl _ _).alloc _⟩
 case round=>
  obtain⟨k,hk,rfl,rfl,W⟩:=hrel;cases gk with
  |zero=>
   obtain rfl:k=ps.length:=by omega
   have ae:¬(ps.length:Int)<(ps.length:Int):=by omega
   obtain⟨hr,U⟩:=W.out;rw[aV (aI _)] at hr;obtain⟨g',ho,-⟩:=fp.of_row hr;have hb:g'=w.heap.size\/ps.length=0:=by
    by_cases e:ps.length=0
    ·exact .inr e
    ·left
     obtain⟨-,⟨_,hv,-,-⟩,-,-⟩:=ho.cell (by omega);cases hv;rfl
   have HM:Hid (jw w (fq ps) (.returned (.slice (some ⟨w.heap.size,0,none⟩) (2*ps.length) (2*ps.length))) wr):=by
    rcases hb with rfl|hb
    ·exact⟨_,_,rfl,ho.reads,aI _,U⟩
    ·exact⟨_,w.heap.size,rfl,(ho.anyG (by omega) _).reads,aI _,U⟩
   clear hr ho hb U W;go_wp2_with fail;go_ret;exact HM.out
  |succ gg=>
   have ae:(k:Int)<(ps.length:Int):=by omega
   obtain⟨hg,off,rfl,c0,c1⟩:=(H.out.keep W.out.2 (by simp)).get (j:=k) (by omega);have b1:=QH wQ.out (k:=k) (by omega);have HW:=au (Bu ps k (by omega));generalize jS ps k=x at *;generalize qD ps k=y at *;obtain⟨J,U⟩:=W.out;have V:=au J;have iZ:=au U;clear J U W;go_wp2_with(at_builtin;refine wpList_append_fits _ rfl _ _ 71 rfl w.heap.size 56 i0 1 underlying71 hi af w.heap.size (2*k) (2*ps.length) _ rfl ((V.out.alloc _).alloc _) ⟨wr.heap.size+1,0,none⟩ 2 2 [.int .u64 (IntKind.u64.wrap x),.int .u64 y] rfl rfl ?c1 ?c2 (by omega) ?_);case c1=>exact jP _ [_,_] _ _ (by simp)
   case c2=>simp[Value.oneCell']
   intro w1 z G;have iU:Hid (az [] w w1):=((iZ.out.alloc _).alloc _).trans (az.of_grown (l:=[w.heap.size]) G (by intro q hq;cases hq;simp)) (by simp);have Dv:=au z;clear z G;go_wp2_with fail;go_roundg gg;case measure=>omega
   case rel=>
    refine⟨k+1,by omega,by go_num,rfl,?_,iU.out⟩;have :=Dv.out;rw[HW.out,nP];rw[gi] at this;exact this
theorem Kv (ws:List Int)(k:Nat)(h:k<ws.length):(mn ws)[k]'(by rw[nj];exact h)=(9+(k:Int),ws.getD k 0):=by
 simp[mn,h]
theorem XZ (h:Reads w v g (aW ws))(hn:ws.length<=800):
  Calls prog 70 #[v] w (l6 w (mn ws)):=by
 have H:=au h;obtain⟨a,cap,rfl,h1,h2,-⟩:=iB h;unfold maxLen at h2;have aa:=Oq ws.length (by omega) (ws.length:Int) rfl w;have G:=Ot w ws.length (by omega);rw[show List.replicate ws.length ((0:Int),(0:Int))=dW (0,0) (mn ws) 0 by rw[kN,nj]] at G;have G:=au G;generalize madeCells #[Value.int .i64 0,Value.int .u64 0] (ws.length*2)=mc at *;clear h;go_enter func70,ntmps70;go_wp2_with fail;go_loopg [11] ws.length (λgh KR wx=>∃k:Nat,k+gh=ws.length/\KR= .int .i64 (k:Int)/\
  Hid (fp wx (.slice (some ⟨w.heap.size,0,none⟩) ws.length ws.length) w.heap.size 58 2 ws.length (je (dW (0,0) (mn ws) k))/\az [] w wx))
 case atStart=>exact⟨0,by omega,rfl,G.out,(az.refl _ _).alloc _⟩
 case round=>
  obtain⟨k,hk,rfl,z⟩:=hrel;cases gk with
  |zero=>
   obtain rfl:k=ws.length:=by omega
   have U:¬(ws.length:Int)<(ws.length:Int):=by omega
   have HM:Hid (l6 w (mn ws) (.returned (.slice (some ⟨w.heap.size,0,none⟩) ws.length ws.length)) wr):=by
    obtain⟨W,fK⟩:=z.out;have e:dW (0,0) (mn ws) ws.length=mn ws:=by
     have :=lL ((0:Int),(0:Int)) (mn ws);rw[nj] at this;exact this
    rw[e] at W;exact l6.mk W (nj ws).symm (aI _) fK
   go_wp2_with fail;go_ret;exact HM.out
  |succ gg=>
   have U:(k:Int)<(ws.length:Int):=by omega
   obtain⟨_,_,hv,-,-,HC⟩:=iB (H.out.keep z.out.2 (by simp));cases hv;obtain⟨hg,off,rfl,c0⟩:=HC.out k (by omega);have hl:=kT ((0:Int),(0:Int)) (mn ws) k (by rw[nj];omega);rw[nj] at hl;obtain⟨-,-,J,V⟩:=z.out.1.cell (by omega);have d0:=(J (k*2) (by omega)).trans (pk (dW (0,0) (mn ws) k) k (by omega)).1;have d1:=(J (k*2+1) (by omega)).trans (pk (dW (0,0) (mn ws) k) k (by omega)).2;have f0:=V (k*2);have f1:=V (k*2+1);have HE:=au (kO ((0:Int),(0:Int)) (mn ws) k (by rw[nj];omega) _ (Kv ws k (by omega)));generalize jS (dW (0,0) (mn ws) k) k=o1 at *;generalize qD (dW (0,0) (mn ws) k) k=o2 at *;have HP:=au (z.out.1.pair k (9+(k:Int)) (ws.getD k 0));have iZ:=au z.out.2;generalize ws.getD k 0=x at *;clear J V hl HC z;go_wp2_with fail;go_roundg gg;case measure=>omega
   case rel=>
    refine⟨k+1,by omega,by go_num,?_,(iZ.out.setCell (.inr (aI _)) _).setCell (.inr (aI _)) _⟩;rw[<-HE.out];exact HP.out
def adL (ws:List Int) (m:Nat):List (Int×Int):=(List.range m).map λk=>(ws.getD (2*k) 0,ws.getD (2*k+1) 0)
def pM (xs:List Int) (m:Nat):List Int:=(List.range m).map λk=>xs.getD (9+k) 0
theorem qu (xs:List Int)(m:Nat):(pM xs m).length=m:=by simp[pM]
theorem Kw (xs:List Int)(m k:Nat)(h:k<m):(pM xs m)[k]'(by rw[qu];exact h)=xs.getD (9+k) 0:=by simp[pM]
theorem Na (h:Et xs)(m:Nat):Et (pM xs m):=by
 intro x z;simp only[pM,bH] at z;obtain⟨k,-,rfl⟩:=z;exact Ev h _
theorem Gj (w:World)(n:Nat)(h:n<=100000):fp (w.alloc (.cells (madeCells #[.int .u64 0] n) 56)) (.slice (some ⟨w.heap.size,0,none⟩) n n) w.heap.size 56 1 n (aW (List.replicate n 0)):=by
 refine⟨by simp[aW],_,n,rfl,aI _,by unfold maxLen;omega,λ_=>⟨rfl,_,bh.new _ _ _,by simp[size_madeCells],?_⟩⟩;rw[toList_madeCells_one,Ib,aV (by simp[aW])]
def qw (w:World) (ws:List Int) (e:Ending) (w':World):Prop:=
 ∃v g,e= .returned (.tuple #[v,.int .i64 0])/\Reads w' v g (aW ws)/\w.heap.size<=g/\az [] w w'
theorem X0 (h:fH w b gn gl gf (calm xs d))(m:Nat)(hm:m<=800)(hx:xs.length=3128):
  Calls prog 135 #[.pointer (some ⟨b,0,none⟩),.int .i64 9,.int .i64 (m:Int)] w (qw w (pM xs m)):=by
 have H:=au h;have HX:=au hx;have aa:=Ac m (by omega) (m:Int) rfl m (.inr rfl) w;have G:=Gj w m (by omega);rw[show List.replicate m (0:Int)=dW 0 (pM xs m) 0 by rw[kN,qu]] at G;have G:=au G;generalize madeCells #[Value.int .u64 0] m=mc at *;clear h hx;go_enter func135,ntmps135;go_wp2_with fail;go_loopg [16] m (λgh s16 wx=>∃k:Nat,k+gh=m/\s16= .int .i64 (k:Int)/\
  Hid (fp wx (.slice (some ⟨w.heap.size,0,none⟩) m m) w.heap.size 56 1 m (aW (dW 0 (pM xs m) k))/\az [] w wx))
 case atStart=>exact⟨0,by omega,rfl,G.out,(az.refl _ _).alloc _⟩
 case round=>
  obtain⟨k,hk,rfl,z⟩:=hrel;cases gk with
  |zero=>
   obtain rfl:k=m:=by omega
   have U:¬(k:Int)<(k:Int):=by omega
   have V:Hid (qw w (pM xs k) (.returned (.tuple #[.slice (some ⟨w.heap.size,0,none⟩) k k,.int .i64 0])) wr):=by
    obtain⟨W,fK⟩:=z.out;have e:dW 0 (pM xs k) k=pM xs k:=by
     have :=lL (0:Int) (pM xs k);rw[qu] at this;exact this
    rw[e] at W;exact⟨_,_,rfl,W.reads,aI _,fK⟩
   go_wp2_with fail;go_ret2;exact V.out
  |succ gg=>
   have U:(k:Int)<(m:Int):=by omega
   have HL:=au (yc (H.out.keep z.out.2 (by simp) (by simp)) (9+(k:Int)) (by omega) (by rw[HX.out];omega));rw[show(9+(k:Int)).toNat=9+k by omega] at HL;have hl:=kT (0:Int) (pM xs m) k (by rw[qu];omega);rw[qu] at hl;obtain⟨-,-,hc,hf⟩:=z.out.1.cell (by omega);have d0:=(hc k (by omega)).trans (dA (l:=dW 0 (pM xs m) k) (by omega));have f0:=hf k;have HE:=au (kO (0:Int) (pM xs m) k (by rw[qu];omega) _ (Kw xs m k (by omega)));generalize (dW 0 (pM xs m) k).getD k 0=o1 at *;have J:=z.out.1.set k (.int .u64 (xs.getD (9+k) 0));rw[lT] at J;have J:=au J;have iZ:=au z.out.2;generalize xs.getD (9+k) 0=x at *;clear hc hf hl z;go_wp2_with(go_at_call 52;refine HL.out.mono ?_;rintro e w' ⟨rfl,rfl⟩);go_roundg gg;case measure=>omega
   case rel=>
    refine⟨k+1,by omega,by go_num,?_,iZ.out.setCell (.inr (aI _)) _⟩;rw[<-HE.out];exact J.out
end Go.Proofs.YtepbpdipenedhaaGreatDoor
