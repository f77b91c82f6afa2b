/- Lemmas. -/
import Derived.Test.YtcecbdeamjigiaaGreatDoorH20
set_option maxHeartbeats 4000000
set_option maxRecDepth 100000
namespace Go.Proofs.YtcecbdeamjigiaaGreatDoor
open Go.RowKit
variable{B X Y ws xs:List Int}{J ex ex' l:List Nat}{T V:List (bM×Value)}{own:Nat->List Nat}{P:List ByteArray}{b g gf gl gn gp k m:Nat}{w:World}{v:Value}{ps:List (Int×Int)}{n:bM}{M:Nat->Nd}{d i:Int}
def nj (X Y:List Int) (l:List Nat):Prop:=∀c,c<256->c≠0->cT X c=true->c∉l->∀j,j<8->Y.getD (1080+8*c+j) 0=X.getD (1080+8*c+j) 0
theorem qF (h:k8 X)(z:∀k,k<8->Y.getD k 0=X.getD k 0)(J:∀k,820<=k->k<824->Y.getD k 0=X.getD k 0):k8 Y:=
 ⟨by rw[z 0 (by omega)];exact h.1,by rw[z 1 (by omega)];exact h.2.1,by rw[z 2 (by omega)];exact h.2.2.1,λi G y=>by rw[z i y];exact h.2.2.2.1 i G y,λi G y=>by rw[J i G y];exact h.2.2.2.2 i G y⟩
theorem np (h:l.Nodup)(b:Nat):l.count b=if b∈l then 1 else 0:=by
 split
 ·next h1=>
  have z:l.count b<=1:=List.nodup_iff_count.1 h b;have y:0<l.count b:=List.count_pos_iff.2 h1;omega
 ·next h1=>exact List.count_eq_zero.2 h1
theorem nV.put(h:nV X T V own ex){i:Nat}(W:i<32){n:bM}(hB:n.B.length=13)(hR:bP n)
  (hn:cN n<=(bb (az X (bQ X (own i)))).length) {ex':List Nat} (hc:∀b,b<256->(cP n).count b+ex'.count b=(cP (nT V i)).count b+ex.count b) (hx:∀c∈ex',c≠0/\c<256) (ht:iC X n):
  nV (az X (jI X i n (own i))) (kY T i n) (kY V i n) (Gq own i ((bb (az X (bQ X (own i)))).take (cN n))) ex'/\
   nj X (az X (jI X i n (own i))) (own i)/\(bb (az X (jI X i n (own i)))).length+cN n=(bb X).length+(own i).length/\∀k,k<816->(az X (jI X i n (own i))).getD k 0=X.getD k 0:=by
 have U:=Wp (i:=(i:Int)) h.w64 h.len hB (by omega) hR hn;rw[aH] at U;have sR:∀k,k<816->(az X (jI X i n (own i))).getD k 0=X.getD k 0:=λk hk=>eo _ _ _ λp hp=>by
  rcases yL W hR rfl hn hp with y|y|y<;>omega
 have hz:=TC h.w64 h.len (own:=own i) W hR hn;have ai:∀c∈own i,cT X c=true:=λc hc=>h.used W (bF _ hc)
 have ae:∀c∈own i,c≠0/\c<256:=λc hc=>h.rng W (bF _ hc)
 have sZ:(own i).Nodup:=by
  rcases h.each W with ⟨-,y⟩|⟨-,-,y⟩
  ·exact y.nodup
  ·rw[y];exact List.nodup_nil
 have uy:(bb (az X (jI X i n (own i)))).length+cN n=(bb X).length+(own i).length:=by
  rw[U.count,qz ae sZ ai λc hc af=>(iu (own i) X h.w64 h.len).2.1 c hc af]
 generalize (bb (az X (bQ X (own i)))).take (cN n)=o' at *;generalize az X (jI X i n (own i))=Y at *;clear hn;have nc:nj X Y (own i):=λc hc af hu aq j Z=>by
  refine U.other _ (by omega) (by rw[aH];omega) λy=> ?_
  have e:(1080+8*c+j-1080)/8=c:=by omega
  rw[e] at y;have z:=U.free c y.2;rw[hu,aT aq] at z;simp at z
 have ar:(kY T i n).length=32:=by unfold kY;rw[cG];exact h.gots.len
 have aa:=λj=>mg h.gots.len W n j
 -- what lies elsewhere
 have aj:∀j,j<32->j≠i->((nT T j).F≠0/\dT Y (j:Int) (nT T j) (own j))\/(dI Y (j:Int)/\nT T j=cB/\own j=[]):=λj Z KG=>by
  rcases h.each Z with ⟨y,z⟩|⟨y,z,h3⟩
  ·refine .inl ⟨y,U.keeps z (by omega) (λc hc=>h.used Z (bF _ hc)) λc hc ap=> ?_⟩
   exact h.apart Z W KG (bF _ hc) (bF _ ap)
  ·exact .inr ⟨U.free_keeps y (by omega) (by omega),z,h3⟩
 have xS:∀c∈cP n,c≠0/\c<256/\cT X c=true/\c∉own i:=λc G=>by
  have y:=oo hB hR c G;have z:=hc c y.2;have h3:0<(cP n).count c:=List.count_pos_iff.2 G;rcases eC (ex.count c) with h4|h4
  ·have h5:c∈cP (nT V i):=List.count_pos_iff.1 (by omega)
   exact⟨y.1,y.2,h.used W (bG _ h5),λJ=>h.inner W J h5⟩
  ·have h5:c∈ex:=List.count_pos_iff.1 h4
   exact⟨y.1,y.2,h.usedEx h5,λJ=>h.apartEx W (bF _ J) h5⟩
 have ac:=λj=>mg h.vlen W n j
 refine⟨⟨U.len,U.w64,?_,⟨ar,λj Z=> ?_⟩,λj Z=> ?_,λb hb=> ?_,hx,λj Z=> ?_,by unfold kY;rw[cG];exact h.vlen,λj=>by rw[aa,ac];split;exact .inl rfl;exact h.vir j⟩,nc,uy,sR⟩
 ·exact qF h.sup (λk hk=>sR k (by omega)) λk hk au=>U.other k hk (by rw[aH];omega) (by omega)
 ·rw[aa]
  by_cases e:i=j
  ·subst e
   rw[aB rfl,Gq,aB rfl];exact .inl U.st
  ·rw[aA e,Gq,aA (dx e)]
   rcases aj j Z (dx e) with y|⟨y,z,h3⟩
   ·exact .inl y.2
   ·exact .inr ⟨λ_ _ hs=>hs.notFree y,z,h3⟩
 ·rw[aa]
  by_cases e:i=j
  ·subst e
   rw[aB rfl]
   right
   rcases hR.1 with y|y<;>omega
  ·rw[aA e]
   rcases aj j Z (dx e) with y|y
   ·exact .inr y.1
   ·exact .inl y.1
 ·have y:=(CG h.vlen own W n o' b 32).2 W
  have z:=h.once b hb;have h3:=hc b hb;unfold sy at z ⊢;unfold kx at y;rw[eK,eK] at y;have h4:=np sZ b;have h5:=np U.st.nodup b;by_cases ak:b=0
  ·subst ak
   have g1:(0:Nat)∉own i:=λh=>(ae 0 h).1 rfl
   have g2:(0:Nat)∉o':=λh=>(U.st.mem 0 h).1 rfl
   rw[aA g1] at h4;rw[aA g2] at h5;have e:iB (kY V i n) (Gq own i o') 32 0+ex'.count 0=iB V own 32 0+ex.count 0:=by omega
   rw[hz,e];exact z
  ·have J:=U.used b hb ak
   by_cases g1:b∈own i
   ·rw[aB g1] at h4
    have h7:=ai b g1;rw[bj g1,h7] at J;have h8:=z.2.1 h7;by_cases g2:b∈o'
    ·rw[aB g2] at h5
     rw[bj g2] at J;refine⟨by omega,λ_=>by omega,λ_=>by rw[J];rfl⟩
    ·rw[aA g2] at h5
     rw[aT g2] at J;refine⟨by omega,λh=>by rw[J] at h;simp at h,λ_=>by omega⟩
   ·rw[aA g1] at h4
    rw[aT g1] at J;by_cases g2:b∈o'
    ·rw[aB g2] at h5
     have h7:=U.free b g2;rw[aT g1] at h7;have h8:cT X b=false:=by simpa using h7
     have h9:¬(iB V own 32 b+ex.count b=1):=λh=>by rw[z.2.2 h] at h8;cases h8
     rw[bj g2] at J;exact⟨by omega,λ_=>by omega,λ_=>by rw[J];simp⟩
    ·rw[aA g2] at h5
     rw[aT g2] at J;have h7:cT Y b=cT X b:=by rw[J];simp
     rw[h7];have e:iB (kY V i n) (Gq own i o') 32 b+ex'.count b=iB V own 32 b+ex.count b:=by omega
     rw[e];exact z
 ·rw[ac]
  by_cases e:i=j
  ·subst e
   rw[aB rfl];exact qE hB ht λc G k hk=>by
    have :=xS c G;exact nc c this.2.1 this.1 this.2.2.1 this.2.2.2 k hk
  ·rw[aA e]
   have ah:nT V j=cB->iC Y (nT V j):=λz=>by
    rw[z];intro hK;simp[cB] at hK
   rcases h.each Z with ⟨y,z⟩|⟨y,z,h3⟩
   ·by_cases ag:nT V j=cB
    ·exact ah ag
    have hv:=(h.vir j).resolve_right ag;refine qE (by rw[hv];exact z.len) (h.tails j Z) λc G k hk=> ?_
    have h4:=h.rng Z (bG _ G);exact nc c h4.2 h4.1 (h.used Z (bG _ G)) (λh5=>h.apart Z W (dx e) (bG _ G) (bF _ h5)) k hk
   ·exact ah ((h.vir j).elim (λhv=>by rw[hv];exact z) id)
theorem nV.change{z y:List (bM×Value)}{J:Nat->List Nat}(_:nV X T V own ex)(hl:Y.length=3128)(eT:dD Y)(U:k8 Y)(hT:z.length=32)(hV:y.length=32)(hv:∀j,nT y j=nT z j\/nT y j=cB)
  (G:∀j:Nat,j<32->((nT z j).F≠0/\dT Y (j:Int) (nT z j) (J j))\/(dI Y (j:Int)/\nT z j=cB/\J j=[]))
  (Z:∀b,b<256->sy y J b+ex'.count b<=1/\(cT Y b=true↔sy y J b+ex'.count b=1)) (hx:∀c∈ex',c≠0/\c<256) (MN:∀j,j<32->iC Y (nT y j)):nV Y z y J ex':=by
 refine⟨hl,eT,U,⟨hT,λj W=> ?_⟩,λj W=> ?_,Z,hx,MN,hV,hv⟩
 ·rcases G j W with h|⟨h,h2,h3⟩
  ·exact .inl h.2
  ·exact .inr ⟨λ_ _ hs=>hs.notFree h,h2,h3⟩
 ·rcases G j W with h|h
  ·exact .inr h.1
  ·exact .inl h.1
theorem nV.nodup(h:nV X T V own J){i:Nat}(z:i<32):(kx V own i).Nodup:=by
 rw[List.nodup_iff_count];intro b;by_cases y:b∈kx V own i
 ·have G:=(h.once b (h.rng z y).2).1
  have U:=CH (T:=V) (own:=own) (b:=b) 32 z;unfold sy at G;omega
 ·rw[List.count_eq_zero.2 y];omega
theorem nV.drop(h:StX X T own ex){i:Nat}(hi:i<32):
  StX (az X (yH X i (nT T i) (own i))) (kY T i cB) (Gq own i []) ex/\nj X (az X (yH X i (nT T i) (own i))) []/\
   (bb (az X (yH X i (nT T i) (own i)))).length=(bb X).length+(kx T own i).length/\∀k,k<816->(az X (yH X i (nT T i) (own i))).getD k 0=X.getD k 0:=by
 have EA:=h.nodup hi;have af:∀c∈kx T own i,cT X c=true:=λc V=>h.used hi V
 have ae:∀c∈kx T own i,c≠0/\c<256:=λc V=>h.rng hi V
 obtain⟨g1,g2,g3⟩:=iu (kx T own i) X h.w64 h.len;have gz:=yM (kx T own i) X h.w64 h.len;have aq:∀k,k<816->(az X (bQ X (kx T own i))).getD k 0=X.getD k 0:=λk z=>eo _ _ _ λp hp=>by have :=o5 _ _ p hp;omega
 have gl:=bO (bQ X (kx T own i)) X;have ah:yH X i (nT T i) (own i)=bQ X (kx T own i)++ir (824+8*i) (List.replicate 8 0) 8:=rfl;rw[ah,bo];have ap:=qz (Y:=az X (bQ X (kx T own i))) ae EA af λc V aa=>g2 c V aa
 generalize az X (bQ X (kx T own i))=Y at *;have y:∀k,(az Y (ir (824+8*i) (List.replicate 8 0) 8)).getD k 0=if 824+8*i<=k/\k<824+8*i+8 then 0 else Y.getD k 0:=by
  intro k;by_cases z:824+8*i<=k/\k<824+8*i+8
  ·rw[aB z]
   have ak:∀m,m<=8->∀j,j<m->(az Y (ir (824+8*i) (List.replicate 8 0) m)).getD (824+8*i+j) 0=0:=by
    intro m;induction m with
    |zero=>intro _ j U;omega
    |succ m ih=>
     intro hm j U;rw[vz,bo,k9,aH,iR _ _ _ _ (by rw[bO];have :=h.len;omega)];by_cases e:824+8*i+j=824+8*i+m
     ·rw[aB (by omega)]
      rw[aj,aY];split<;>rfl
     ·rw[aA (by omega)]
      exact ih (by omega) j (by omega)
   have :=ak 8 (aG _) (k-(824+8*i)) (by omega);rwa[show 824+8*i+(k-(824+8*i))=k by omega] at this
  ·rw[aA z]
   refine eo _ _ _ λp hp=> ?_
   obtain⟨j,U,J,-⟩:=jD hp;omega
 have ai:(az Y (ir (824+8*i) (List.replicate 8 0) 8)).length=3128:=by rw[bO,gl,h.len]
 generalize az Y (ir (824+8*i) (List.replicate 8 0) 8)=Z at *;have Jw:=yE (X:=Y) (Y:=Z) λk z=>by rw[y,aA (by omega)]
 have yN:∀k,820<=k->¬(824+8*i<=k/\k<824+8*i+8)->Z.getD k 0=X.getD k 0:=λk z hn=>by rw[y,aA hn,g3 k z]
 have sR:∀k,k<816->Z.getD k 0=X.getD k 0:=λk z=>by rw[y,aA (by omega),aq k z]
 have nc:nj X Z []:=λc V aa _ _ j U=>yN _ (by omega) (by omega)
 have ac:=λj=>mg h.gots.len hi cB j
 refine⟨h.change ai ?_ ?_ (by unfold kY;rw[cG];exact h.gots.len) (by unfold kY;rw[cG];exact h.gots.len) (λ_=> .inl rfl) (λj U=> ?_) (λb hb=> ?_) h.exr λj U=> ?_,nc,?_,sR⟩
 ·intro k
  rw[y];split
  ·omega
  ·exact g1 k
 ·exact qF h.sup (λk z=>sR k (by omega)) λk z ar=>yN k z (by omega)
 ·rw[ac]
  by_cases e:i=j
  ·subst e
   rw[aB rfl,Gq,aB rfl];refine .inr ⟨?_,rfl,rfl⟩;unfold dI eO;apply cr (by rw[fQ,bh]);intro k dc av;rw[fQ] at dc;have J:=iJ Z (824+8*i) k dc;rw[y,aB (by rw[aH] at *;omega)] at J;rw[List.getElem_replicate];rw[aj,aD (by rw[fQ];omega),eG] at J;rw[aH];exact J
  ·rw[aA e,Gq,aA (dx e)]
   rcases h.each U with ⟨J,G⟩|⟨J,G,h3⟩
   ·refine .inl ⟨J,G.same (λk z=> ?_) λc V k z=> ?_⟩
    ·rw[aH]
     exact yN _ (by omega) (by omega)
    ·exact yN _ (by omega) (by omega)
   ·refine .inr ⟨J.same λk z=> ?_,G,h3⟩
    rw[aH];exact yN _ (by omega) (by omega)
 ·have J:=(CG h.gots.len own hi cB [] b 32).2 hi
  have G:=h.once b hb;unfold sy at G ⊢;have e0:([]++cP cB).count b=0:=by
   have :([]++cP cB)=([]:List Nat):=by decide
   rw[this];rfl
  rw[e0] at J;have h4:=np EA b;rw[Jw.1 b hb];by_cases ag:b=0
  ·subst ag
   have W:(0:Nat)∉kx T own i:=λh=>(ae 0 h).1 rfl
   rw[aA W] at h4;rw[gz,show iB (kY T i cB) (Gq own i []) 32 0=iB T own 32 0 by omega];exact G
  ·have h6:=g2 b hb ag
   by_cases W:b∈kx T own i
   ·rw[aB W] at h4
    have h7:=af b W;have h8:=G.2.1 h7;rw[bj W,h7] at h6;refine⟨by omega,λh=>by rw[h6] at h;simp at h,λ_=>by omega⟩
   ·rw[aA W] at h4
    rw[aT W] at h6;rw[show cT Y b=cT X b by rw[h6];simp,show iB (kY T i cB) (Gq own i []) 32 b=iB T own 32 b by omega];exact G
 ·rw[ac]
  by_cases e:i=j
  ·rw[aB e]
   intro hK;simp[cB] at hK
  ·rw[aA e]
   rcases h.each U with ⟨J,G⟩|⟨J,G,h3⟩
   ·exact qE G.len (h.tails j U) λc au k z=>yN _ (by omega) (by omega)
   ·rw[G]
    intro hK;simp[cB] at hK
 ·rw[Jw.2,ap]
theorem nV.bits(h:nV X T V own ex)(hl:Y.length=3128)(eT:dD Y)(z:k8 Y)(W:∀k,824<=k->k<1080->Y.getD k 0=X.getD k 0)
  (y:∀i,i<32->∀c∈own i,∀j,j<8->Y.getD (1080+8*c+j) 0=X.getD (1080+8*c+j) 0) (hu:∀b,b<256->sy V own b+ex'.count b<=1/\(cT Y b=true↔sy V own b+ex'.count b=1)) (hx:∀c∈ex',c≠0/\c<256) (MN:∀j,j<32->iC Y (nT V j)):nV Y T V own ex':=by
 refine h.change hl eT z h.gots.len h.vlen h.vir (λj Z=> ?_) hu hx MN;rcases h.each Z with ⟨J,G⟩|⟨J,G,h3⟩
 ·refine .inl ⟨J,G.same (λk U=> ?_) λc hc k U=>y j Z c hc k U⟩
  rw[aH];exact W _ (by omega) (by omega)
 ·refine .inr ⟨J.same λk U=> ?_,G,h3⟩
  rw[aH];exact W _ (by omega) (by omega)
theorem nV.virLen{G:List Nat}(h:nV X T V own G){j:Nat}(J:j<32):(nT V j).B.length=13\/nT V j=cB:=by
 rcases h.vir j with y|y
 ·rcases h.each J with ⟨-,z⟩|⟨-,z,-⟩
  ·exact .inl (by rw[y];exact z.len)
  ·exact .inr (by rw[y];exact z)
 ·exact .inr y
theorem nV.tailsKeep(h:nV X T V own ex)(W:nj X Y l){j:Nat}(z:j<32)(Z:∀c∈cP (nT V j),c∉l):iC Y (nT V j):=by
 rcases h.virLen z with G|G
 ·refine qE G (h.tails j z) λc y k U=> ?_
  have J:=h.rng z (bG _ y);exact W c J.2 J.1 (h.used z (bG _ y)) (Z c y) k U
 ·rw[G]
  intro hK;simp[cB] at hK
theorem LN (l:List Nat):∀(X:List Int),X.length=3128->(∀c∈l,c<256)->∀c∈l,∀j,j<8->(az X (cL X l)).getD (1080+8*c+j) 0=0:=by
 induction l with
 |nil=>intro X _ _ c y;simp at y
 |cons b l ih=>
  intro X W Z c y j z;have e:cL X (b::l)=(dG X b true++fg b)++cL (az X (dG X b true++fg b)) l:=rfl;rw[e,bo];by_cases G:c∈l
  ·exact ih _ (by rw[bO,W]) (λc y=>Z c (by simp[y])) c G j z
  ·have U:c=b:=by
    rcases aS.1 y with h|h
    ·exact h
    ·exact absurd h G
   subst U;rw[eo _ _ _ λp hp=> ?_]
   ·rw[bo]
    have V:∀(Y:List Int),Y.length=3128->∀m,m<=8->∀j,j<m->(az Y (kd c m)).getD (1080+8*c+j) 0=0:=by
     intro Y hY m;induction m with
     |zero=>intro _ j z;omega
     |succ m ihm=>
      intro hm j z;have tq:=Z c (by simp);rw[wJ,bo,k9,aH,iR _ _ _ _ (by rw[bO];omega)];by_cases e2:j=m
      ·rw[aB (by omega)]
      ·rw[aA (by omega)]
       exact ihm (by omega) j (by omega)
    exact V _ (by rw[bO,W]) 8 (aG _) j z
   ·rcases o6 _ _ p hp with J|J
    ·omega
    ·intro e2
     have :(p.1.toNat-1080)/8=c:=by omega
     rw[this] at J;exact G J.2
theorem nV.take(h:nV X T V own ex)(n:Nat):
  nV (az X (cL X ((bb X).take n))) T V own (ex++(bb X).take n)/\nj X (az X (cL X ((bb X).take n))) []/\(∀c∈(bb X).take n,∀j,j<8->(az X (cL X ((bb X).take n))).getD (1080+8*c+j) 0=0)/\
   (bb (az X (cL X ((bb X).take n))))=(bb X).drop n/\∀k,k<816->(az X (cL X ((bb X).take n))).getD k 0=X.getD k 0:=by
 have hm:∀c∈(bb X).take n,c≠0/\c<256:=oP;have hn:((bb X).take n).Nodup:=qu;have uP:∀c∈(bb X).take n,cT X c=false:=λc z=>(iX.1 (bA z)).2.2
 obtain⟨t1,t2,t3⟩:=kA ((bb X).take n) X h.w64 h.len hm;obtain⟨-,-,t4⟩:=Bk h.w64 h.len n;have t5:=LN ((bb X).take n) X h.len λc z=>(hm c z).2
 have U:∀k,k<816\/(820<=k/\¬(1080<=k/\(k-1080)/8∈(bb X).take n))->(az X (cL X ((bb X).take n))).getD k 0=X.getD k 0:=λk G=>eo _ _ _ λp hp=>by
  rcases o6 _ _ p hp with y|y
  ·omega
  ·intro e
   rcases G with J|J
   ·omega
   ·exact J.2 (by rw[<-e];exact y)
 generalize (bb X).take n=l at *;generalize az X (cL X l)=Y at *;have Z:nj X Y []:=λc z aa hu _ j W=>U _ (.inr ⟨by omega,λy=>by
  have e:(1080+8*c+j-1080)/8=c:=by omega
  rw[e] at y;rw[uP c y.2] at hu;cases hu⟩)
 refine⟨h.bits t2 t1 (qF h.sup (λk G=>U k (.inl (by omega))) λk G ac=>U k (.inr ⟨G,by omega⟩)) (λk G ae=>U k (.inr ⟨by omega,by omega⟩)) (λi hi c z j W=> ?_) (λb hb=> ?_) (λc z=> ?_) λj W=>h.tailsKeep Z W (by simp),Z,t5,t4,λk G=>U k (.inl G)⟩
 ·have y:=h.rng hi (bF _ z)
  exact Z c y.2 y.1 (h.used hi (bF _ z)) (by simp) j W
 ·have J:=h.once b hb
  have h4:=np hn b;rw[eK,t3 b hb];by_cases g:b∈l
  ·rw[aB g] at h4
   have h5:=uP b g;have h6:¬(sy V own b+ex.count b=1):=λe=>by rw[J.2.2 e] at h5;cases h5
   rw[bj g,Bool.or_true];exact⟨by omega,λ_=>by omega,λ_=>rfl⟩
  ·rw[aA g] at h4
   rw[aT g,Bool.or_false,h4,dH];exact J
 ·rcases aP.1 z with y|y
  ·exact h.exr c y
  ·exact hm c y
theorem nV.give(h:nV X T V own ex)(hl:∀b,b<256->l.count b+ex'.count b=ex.count b)(y:∀c∈l,c≠0/\c<256)(hx:∀c∈ex',c≠0/\c<256):
  nV (az X (bQ X l)) T V own ex'/\nj X (az X (bQ X l)) []/\(bb (az X (bQ X l))).length=(bb X).length+l.length/\∀k,k<816\/820<=k->(az X (bQ X l)).getD k 0=X.getD k 0:=by
 obtain⟨g1,g2,g3⟩:=iu l X h.w64 h.len;have gz:=yM l X h.w64 h.len;have EA:l.Nodup:=by
  rw[List.nodup_iff_count];intro b;by_cases G:b∈l
  ·have h1:=(h.once b (y b G).2).1
   have h2:=hl b (y b G).2;omega
  ·rw[List.count_eq_zero.2 G];omega
 have aa:∀c∈l,cT X c=true:=λc z=>by
  have h1:=h.once c (y c z).2;have h2:=hl c (y c z).2;have h3:0<l.count c:=List.count_pos_iff.2 z;exact h1.2.2 (by omega)
 have ae:=qz y EA aa λc z Z=>g2 c z Z
 have U:∀k,k<816\/820<=k->(az X (bQ X l)).getD k 0=X.getD k 0:=λk hk=>eo _ _ _ λp hp=>by have :=o5 _ _ p hp;omega
 have W:(az X (bQ X l)).length=3128:=by rw[bO,h.len]
 generalize az X (bQ X l)=Y at *;have nc:nj X Y []:=λc z Z hu _ j hj=>U _ (.inr (by omega))
 refine⟨h.bits W g1 (qF h.sup (λk hk=>U k (.inl (by omega))) λk hk af=>U k (.inr hk)) (λk hk ag=>U k (.inr (by omega))) (λi hi c z j hj=>U _ (.inr (by omega))) (λb G=> ?_) hx λj hj=>h.tailsKeep nc hj (by simp),nc,ae,U⟩;have h2:=h.once b G;have h3:=hl b G;have h4:=np EA b;by_cases ac:b=0
 ·subst ac
  have J:(0:Nat)∉l:=λh=>(y 0 h).1 rfl
  rw[aA J] at h4;rw[gz,show ex'.count 0=ex.count 0 by omega];exact h2
 ·have h6:=g2 b G ac
  by_cases J:b∈l
  ·rw[aB J] at h4
   have h7:=aa b J;have h8:=h2.2.1 h7;rw[bj J,h7] at h6;refine⟨by omega,λh=>by rw[h6] at h;simp at h,λ_=>by omega⟩
  ·rw[aA J] at h4
   rw[aT J] at h6;rw[show cT Y b=cT X b by rw[h6];simp,show ex'.count b=ex.count b by omega];exact h2
theorem nV.words(h:nV X T V own ex){i:Nat}(hi:i<32){qs:List (Int×Int)}(hq:∀p∈qs,1080<=p.1.toNat/\((p.1.toNat-1080)/8∈cP (nT V i)\/(p.1.toNat-1080)/8∈ex))(eT:dD (az X qs))(ht:iC (az X qs) (nT V i)):
  nV (az X qs) T V own ex/\nj X (az X qs) (cP (nT V i)++ex)/\bb (az X qs)=bb X/\∀k,k<1080->(az X qs).getD k 0=X.getD k 0:=by
 have oU:∀k,k<1080->(az X qs).getD k 0=X.getD k 0:=λk J=>eo _ _ _ λp hp=>by have :=(hq p hp).1;omega
 have y:∀c,c∉cP (nT V i)->c∉ex->∀j,j<8->(az X qs).getD (1080+8*c+j) 0=X.getD (1080+8*c+j) 0:=λc G Z j z=>eo _ _ _ λp hp e=>by
  have U:=(hq p hp).2;have e2:(p.1.toNat-1080)/8=c:=by omega
  rw[e2] at U;rcases U with U|U
  ·exact G U
  ·exact Z U
 have Jw:=yE (X:=X) (Y:=az X qs) λk J=>oU k (by omega)
 have W:(az X qs).length=3128:=by rw[bO,h.len]
 generalize az X qs=Y at *;refine⟨h.bits W eT (qF h.sup (λk J=>oU k (by omega)) λk J ae=>oU k (by omega)) (λk J ac=>oU k ac) (λj z c hc k J=> ?_) (λb hb=>by rw[Jw.1 b hb];exact h.once b hb) h.exr λj z=> ?_,λc _ _ _ hn j z=>y c (λh=>hn (bF _ h)) (λh=>hn (bG _ h)) j z,Jw.2,oU⟩
 ·refine y c (λG=> ?_) (λG=>h.apartEx z (bF _ hc) G) k J
  by_cases e:j=i
  ·subst e;exact h.inner z hc G
  ·exact h.apart z hi e (bF _ hc) (bG _ G)
 ·by_cases e:j=i
  ·subst e;exact ht
  ·rcases h.virLen z with Z|Z
   ·exact qE Z (h.tails j z) λc aa k J=>y c (λG=>h.apart z hi e (bG _ aa) (bG _ G)) (λG=>h.apartEx z (bG _ aa) G) k J
   ·rw[Z]
    intro hK;simp[cB] at hK
def jQ (w:World) (v:Value) (g:Nat) (P:List ByteArray):Prop:=Reads w v g (P.map Value.string)
def o7 (P:List ByteArray) (k:Nat):ByteArray:=P.getD k ByteArray.empty
theorem TD (h:k<P.length):o7 P k∈P:=by
 have :P.getD k ByteArray.empty=P[k]:=by simp[h]
 rw[o7,this];exact bp h
theorem WN (h:k<P.length):P.drop k=o7 P k::P.drop (k+1):=by
 have :P.getD k ByteArray.empty=P[k]:=by simp[h]
 rw[eH h,o7,this]
theorem jQ.keep{w':World}(h:jQ w v g P){l:List Nat}(y:ay l w w')(z:g∉l):jQ w' v g P:=Reads.keep h y z
theorem jQ.open(h:jQ w v g P):∃a cap,v= .slice a P.length cap/\P.length<=cap/\cap<=maxLen/\
  Hid (∀k,k<P.length->g<w.heap.size/\∃off,a=some ⟨g,off,none⟩/\w.cell? ⟨g,off+k,none⟩=some (.string (o7 P k))):=by
 obtain⟨a,cap,U,J,Z,W⟩:=h;rw[bJ] at *;refine⟨a,cap,U,J,Z,λk y=> ?_⟩;obtain⟨z,off,V,G⟩:=W (by intro e;rw[List.map_eq_nil_iff] at e;rw[e] at y;simp at y);refine⟨z,off,V,(G k y).trans ?_⟩;rw[bD,aD y,o7,aj,aD y];rfl
theorem jQ.init{a:Option Addr}{cap:Nat}(h:jQ w (.slice a m cap) g P):jQ w (.slice a (m-1) cap) g P.dropLast:=by
 obtain⟨a',z,V,h2,h3,Z⟩:=h;cases V;rw[bJ] at *;refine⟨a,cap,by rw[bJ,gO],by rw[bJ,gO];omega,h3,λhx=> ?_⟩;have G:P.dropLast≠[]:=λe=>hx (by rw[e];rfl)
 have y:0<P.dropLast.length:=List.length_pos_iff.2 G;rw[gO] at y;obtain⟨J,off,W,U⟩:=Z (by intro e;rw[List.map_eq_nil_iff] at e;rw[e] at y;simp at y);refine⟨J,off,W,λj hj=> ?_⟩;rw[bJ,gO] at hj;rw[U j (by omega),bD,bD,aD (show j<P.length by omega),aD (show j<P.dropLast.length by rw[gO];omega),List.getElem_dropLast]
theorem CI (P:List ByteArray):j6 P=true↔∀k,k<P.length->fN (bl (o7 P k))=true:=by
 unfold j6;rw[eP];constructor
 ·exact λh k y=>h _ (TD y)
 ·intro h s z
  obtain⟨k,y,rfl⟩:=bR z;have :=h k y;rwa[o7,show P.getD k ByteArray.empty=P[k] by simp[y]] at this
theorem LO (h:jQ w v g P)(hs:∀s∈P,s.size<=9223372036854775807):
  Calls Tryz.prog 177 #[v] w λe w'=>e= .returned (.bool (j6 P))/\w=w':=by
 obtain⟨a,cap,rfl,nz,nB,Z⟩:=h.open;have V:Hid (∀k,k<P.length->∀z,Calls Tryz.prog 167 #[.string (o7 P k)] z λe w'=>e= .returned (.bool (fN (bl (o7 P k))))/\z=w'):=λk U z=>FD _ (hs _ (TD U)) z
 have W:Hid ((∀k,k<P.length->fN (bl (o7 P k))=true)->j6 P=true):=(CI P).2;have J:Hid (∀k,k<P.length->fN (bl (o7 P k))=false->j6 P=false):=λk U hf=>by
  cases e:j6 P
  ·rfl
  ·rw[(CI P).1 e k U] at hf;cases hf
 unfold maxLen at nB;clear h hs;generalize j6 P=gP at *;generalize hm:P.length=m at *;clear hm;go_enter Tryz.func177,Tryz.ntmps177;go_wp2_with fail;go_loopg [7] m (λgh s7 z=>∃k:Nat,k+gh=m/\s7= .int .i64 (k:Int)/\z=w/\Hid (∀j,j<k->fN (bl (o7 P j))=true))
 case atStart=>exact⟨0,by omega,rfl,rfl,λj hj=>by omega⟩
 case round=>
  obtain⟨k,U,rfl,rfl,G⟩:=hrel;cases gk with
  |zero=>
   obtain rfl:k=m:=by omega
   have HR:=ar (W.out G.out);clear W J G V;go_wp2_with fail;go_ret;exact⟨by rw[HR.out];rfl,rfl⟩
  |succ gg=>
   have GN:k<m:=by omega
   have aa:(k:Int)<(m:Int):=by omega
   have ez:(0:Int)<=(k:Int):=by omega
   obtain⟨ue,off,rfl,c0⟩:=Z.out k GN;have y:=ar (V.out k GN);cases hb:fN (bl (o7 P k)) with
   |false=>
    have HR:=ar (J.out k GN hb);rw[hb] at y;clear W J G V Z hb;generalize o7 P k=nk at *;go_wp2_with fail;refine(y.out _).mono ?_;rintro e w' ⟨rfl,rfl⟩;go_wp2_with fail;go_ret;exact⟨by rw[HR.out];rfl,rfl⟩
   |true=>
    have nZ:Hid (∀j,j<k+1->fN (bl (o7 P j))=true):=λj hj=>by
     by_cases e:j=k
     ·rw[e];exact hb
     ·exact G.out j (by omega)
    rw[hb] at y;clear W J G V Z hb;generalize o7 P k=nk at *;go_wp2_with fail;refine(y.out _).mono ?_;rintro e w' ⟨rfl,rfl⟩;go_wp2_with fail;go_roundg gg;case measure=>omega
    case rel=>exact⟨k+1,by omega,by go_num,rfl,nZ.out⟩
def rG (w:World) (n:bM) (e:Ending) (w':World):Prop:=
 ay [] w w'/\((n.K=2/\∃v g,e= .returned (.tuple #[.agg (aU n v),.int .i64 0])/\n.B.length=13/\bz w' v g n.E/\w.heap.size<=g)\/(n.K≠2/\e= .returned (.tuple #[.agg (aU cB (.slice none 0 0)),.int .i64 4])))
theorem xw (h:fG w b gp B ps T own){i:Nat}(hi:i<32)(hF:(nT T i).F≠0):
  Calls Tryz.prog 179 #[.pointer (some ⟨b,0,none⟩),.int .i64 (i:Int)] w (rG w (nT T i)):=by
 have ez:ay [] w (w.alloc (.cells (aU cB (.slice none 0 0)) 110)):=(ay.refl _ _).alloc _;have hG:=(h.keep0 ez).get hi;unfold AR at hG;have HG:=ar hG;have xe:=ar (bm.new w (aU cB (.slice none 0 0)) 110);have xf:=eV;have vC:=ar (cm w (.cells (aU cB (.slice none 0 0)) 110));have HP:Hid (∀e w',rG w (nT T i) e w'->rG w (nT T i) e w'):=λ_ _ h=>h
 have VS:=ar hF;clear h hF hG;generalize nT T i=n at *;generalize J:aU cB (.slice none 0 0)=Z0 at *;have AO:=ar J;have Ja:Hid (Z0.size=18):=by show _=_;rw[<-J];rfl
 clear J;obtain⟨W0,G⟩:∃W0,w.alloc (.cells Z0 110)=W0:=⟨_,rfl⟩;rw[G] at HG xe ez vC;have nv:=ar G;have Z:=ar ez;clear G ez;go_enter Tryz.func179,Tryz.ntmps179;go_wp2_with fail;rw[nv.out];refine HG.out.mono ?_;rintro e w1 ⟨v,g,va,ga,r,rfl,y,hE,hg,-,-,dc,hr⟩;have QR:r=0:=by
  have :=VS.out;omega
 subst QR;clear hr;obtain⟨w2,p1,p2,p3⟩:=fF (n:=n) (v:=v) (bm.new w1 Z0 110) Ja.out y hE.one;have V:ay [] W0 w2:=(dc.alloc _).trans p3 (by intro x z;rw[au] at z;have :=dc.size;omega);have wk:=ar p1;have pw:=ar (cH p2 y);have UK:bz w2 v g n.E:=hE.keep ((((ay.refl [] w1).alloc _).mono (by simp)).trans' p3) (λh0=>hE.apart (l:=[w1.heap.size]) (λx z=>by rw[au] at z;omega) h0);have c1:w2.cell? ⟨w1.heap.size,1,none⟩=some (.int .i64 n.K):=by rw[p2.cell];exact(jo v y).f1
 have fj:=ar V;have W:=ar UK;have HB:=ar y;have Ss:=ar hg;clear p1 p2 p3 V UK hE hg dc HG;by_cases U:n.K=2
 ·obtain⟨w3,q1,q2,q3⟩:=fF (n:=n) (v:=v) (xe.out.keep fj.out (by simp)) Ja.out y W.out.one
  have uf:=ar q1;have zC:=ar (cH q2 y);have HF:Hid (rG w n (.returned (.tuple #[.agg (aU n v),.int .i64 0])) w3):=by
   have h1:=Z.out.size;have h2:=Ss.out;have h3:=vC.out;refine⟨(Z.out.trans' fj.out).trans q3 (by intro x z;rw[au] at z;omega),.inl ⟨U,v,g,rfl,y,W.out.keep q3 (λ_=>by rw[au];omega),by omega⟩⟩
  rw[U] at c1;clear q1 q2 q3 y U HP HB;generalize aU n v=ZN at *;go_wp2_with(first|(with_reducible refine gS 110 wk.out ?_)|(with_reducible refine gL 110 pw.out ?_)|(with_reducible refine gS 110 uf.out ?_));exact aK (dn Tryz.results179 rfl zC.out rfl) rfl HF.out
 ·obtain⟨w3,q1,q2,q3⟩:=fF (n:=cB) (v:= .slice none 0 0) (xe.out.keep fj.out (by simp)) Ja.out rfl rfl
  have OS:=cH q2 rfl;have HF:Hid (rG w n (.returned (.tuple #[.agg (aU cB (.slice none 0 0)),.int .i64 4])) w3):=by
   have h1:=Z.out.size;have h3:=vC.out;exact⟨(Z.out.trans' fj.out).trans q3 (by intro x z;rw[au] at z;omega),.inr ⟨U,rfl⟩⟩
  rw[AO.out] at q1 OS HF;have uf:=ar q1;have zC:=ar OS;have bK:(n.K==2)=false:=by simpa using U
  clear q1 q2 q3 y U HP HB OS;generalize aU n v=ZN at *;generalize n.K=K at *;go_wp2_with(first|(with_reducible refine gS 110 wk.out ?_)|(with_reducible refine gS 110 uf.out ?_));exact aK (dn Tryz.results179 rfl zC.out rfl) rfl HF.out
structure LP (M:Nat->Nd) (T:List (bM×Value)):Prop where
 tree:eb M
 kind:∀i,(M i).K=(nT T i).K
 ents:∀i,(M i).E=(nT T i).E
 form:∀i,(M i).K≠0->(nT T i).F≠0
theorem Jy {M:Nat->Nd}:∀(p:List ByteArray) (a:Nat),(gG M a p).2≠0->(gG M a p).1=0
 | [],a,h=>absurd rfl h
 |x::p,a,h=>by
  have e:gG M a (x::p)=if (M a).K=2 then (if bZ (M a).E x<0 then (0,2) else gG M (bZ (M a).E x).toNat p) else (0,4):=rfl
  rw[e] at h ⊢;split at h
  ·next h1=>
   rw[aB h1];split at h
   ·next h2=>rw[aB h2]
   ·next h2=>rw[aA h2];exact Jy p _ h
  ·next h1=>rw[aA h1]
theorem LQ (M:Nat->Nd)(a:Nat)(x:ByteArray)(p:List ByteArray):gG M a (x::p)=if (M a).K=2 then (if bZ (M a).E x<0 then (0,2) else gG M (bZ (M a).E x).toNat p) else (0,4):=rfl
def Jz (w:World) (r:Nat×Int) (e:Ending) (w':World):Prop:=e= .returned (.tuple #[.int .i64 (r.1:Int),.int .i64 r.2])/\ay [] w w'
theorem TE (h:fG w b gp B ps T own){M:Nat->Nd}(V:LP M T){v:Value}{g:Nat}{P:List ByteArray}(hP:jQ w v g P):
  Calls Tryz.prog 178 #[.pointer (some ⟨b,0,none⟩),v] w (Jz w (gG M 0 P)):=by
 obtain⟨a,cap,rfl,nz,nB,uv⟩:=hP.open;have HD:Hid (∀x,(M x).K≠0->∀U,ay [] w U->Calls Tryz.prog 179 #[.pointer (some ⟨b,0,none⟩),.int .i64 (x:Int)] U (rG U (nT T x))):=λx W U hk=>
  xw (h.keep0 hk) (V.tree.rng W) (V.form x W)
 have Aj:Hid (∀x,(M x).K=2->∀U v g s,bz U v g (nT T x).E->(nT T x).B.length=13->Calls Tryz.prog 153 #[.agg (aU (nT T x) v),.string s] U λe w'=>
   ∃(r:Int) (ok:Bool),e= .returned (.tuple #[.int .i64 r,.bool ok])/\ay [] U w'/\((bZ (M x).E s<0/\ok=false)\/(0<=bZ (M x).E s/\ok=true/\r=bZ (M x).E s))):=λx W U v g s hE hB=>by
  obtain⟨A,X,B',hs⟩:=jF (V.tree.rises x) s;have h1:=jk hs λq hq=>(V.tree.lead x q hq).1.1
  rw[V.ents x] at hs;have hl:=h.gots.elen x;refine(M6 (nT T x) hB hE hs (by omega)).mono ?_;rintro e w' ⟨rfl,hk⟩;refine⟨_,_,rfl,hk,?_⟩;rcases Int.lt_or_le (bZ (M x).E s) 0 with h2|h2
  ·exact .inl ⟨h2,by rw[h1.1.1 h2];rfl⟩
  ·exact .inr ⟨h2,by rw[h1.2 h2];rfl,by rw[h1.2 h2];rfl⟩
 have af:Hid (∀x k,k<P.length->gG M x (P.drop k)=if (M x).K=2 then (if bZ (M x).E (o7 P k)<0 then (0,2) else gG M (bZ (M x).E (o7 P k)).toNat (P.drop (k+1))) else (0,4)):=λx k hk=>by rw[WN hk,LQ]
 have OY:Hid (∀x,gG M x (P.drop P.length)=(x,0)):=λx=>by rw[List.drop_length];rfl
 have lO:Hid (∀x s,(M x).K=2->0<=bZ (M x).E s->(M (bZ (M x).E s).toNat).K≠0/\(((bZ (M x).E s).toNat:Nat):Int)=bZ (M x).E s):=λx s _ hf=>⟨(oq V.tree hf).2.1,(oq V.tree hf).2.2.1⟩
 have ap:Hid (∀x,(nT T x).K=(M x).K):=λx=>(V.kind x).symm
 have h0:Hid (gG M 0 P=gG M 0 (P.drop 0)/\(M 0).K≠0):=⟨rfl,by rw[V.tree.root];omega⟩;have xf:=eV;have G:Hid (∀(r:Nat×Int) w',gG M 0 P=r->ay [] w w'->Jz w (gG M 0 P) (.returned (.tuple #[.int .i64 (r.1:Int),.int .i64 r.2])) w'):=λr w' h1 h2=>by rw[h1];exact⟨rfl,h2⟩
 unfold maxLen at nB;clear h V hP;generalize hS:gG M 0 P=S at *;clear hS;generalize hm:P.length=m at *;clear hm;generalize ag:aU cB (.slice none 0 0)=Z0 at *;have AO:=ar ag;have Ja:Hid (Z0.size=18):=by show _=_;rw[<-ag];rfl
 clear ag;go_enter Tryz.func178,Tryz.ntmps178;go_wp2_with fail;go_loopg [6,15] m (λgh s6 s15 U=>∃k x:Nat,k+gh=m/\s15= .int .i64 (k:Int)/\s6= .int .i64 (x:Int)/\Hid (ay [] w U)/\Hid (S=gG M x (P.drop k)/\(M x).K≠0))
 case atStart=>exact⟨0,0,by omega,rfl,rfl,ay.refl _ _,h0.out⟩
 case round=>
  clear h0;obtain⟨k,x,hk,rfl,rfl,nR,HP⟩:=hrel;cases gk with
  |zero=>
   obtain rfl:k=m:=by omega
   have HF:=ar (G.out (x,0) _ (HP.out.1.trans (OY.out x)) nR.out);clear HP G OY lO af Aj HD uv;go_wp2_with fail;go_ret2;exact HF.out
  |succ gg=>
   have GN:k<m:=by omega
   have aq:(k:Int)<(m:Int):=by omega
   have ez:(0:Int)<=(k:Int):=by omega
   obtain⟨ue,off,rfl,c0⟩:=uv.out k GN;have av:=(aL (w:=w) (a:=⟨g,off+k,none⟩) (nR.out.block g ue (by simp))).trans c0;have ai:=ar (HD.out x HP.out.2 _ nR.out);have z:=ar (HP.out.1.trans (af.out x k GN));have ae:=ar (Aj.out x);have Z:=ar (lO.out x (o7 P k));have J:=ap.out x;clear HD Aj af lO HP OY c0 ue;generalize o7 P k=nk at *;generalize nT T x=n at *;go_wp2_with fail;refine ai.out.mono ?_;rintro e w1 ⟨dc,⟨hK,v,g1,rfl,hB,hE,ak⟩|⟨hK,rfl⟩⟩
   ·obtain⟨w2,p1,p2,p3⟩:=fF (n:=n) (v:=v) (bm.new w1 Z0 110) Ja.out hB hE.one
    have wk:=ar p1;have pw:=ar (cH p2 hB);have UK:bz w2 v g1 n.E:=hE.keep ((((ay.refl [] w1).alloc _).mono (by simp)).trans' p3) (λh0=>hE.apart (l:=[w1.heap.size]) (λx W=>by rw[au] at W;omega) h0);have fj:Hid (ay [] w w2):=(nR.out.trans' dc).trans (((ay.refl [] w1).alloc _).trans p3 (by intro x W;rw[au] at W;omega)) (by simp);have ah:=ar (ae.out (J▸hK) w2 v g1 nk UK hB);have aa:(M x).K=2:=by rw[<-J];exact hK
    rw[aB aa] at z;clear p1 p2 p3 hE UK hB ak dc ae ai hK J;generalize aU n v=ZN at *;go_wp2_with(first|(with_reducible refine gS 110 wk.out ?_)|(with_reducible refine gL 110 pw.out ?_));refine ah.out.mono ?_;rintro e w3 ⟨r,ok,rfl,ac,⟨hf,rfl⟩|⟨hf,rfl,rfl⟩⟩
    ·have HF:=ar (G.out (0,2) w3 (by rw[z.out,aB hf]) (fj.out.trans' ac))
     clear z G Z ac hf aa ah;go_wp2_with fail;go_ret2;exact HF.out
    ·obtain⟨aj,Yg⟩:=Z.out aa hf
     have HN:Hid (ay [] w w3/\S=gG M (bZ (M x).E nk).toNat (P.drop (k+1))/\(M (bZ (M x).E nk).toNat).K≠0):=⟨fj.out.trans' ac,by rw[z.out,aA (by omega)],aj⟩;clear z G Z ac hf aa ah aj;rw[<-Yg];generalize (bZ (M x).E nk).toNat=y at *;clear Yg;go_wp2_with fail;go_roundg gg;case measure=>omega
     case rel=>exact⟨k+1,y,by omega,by go_num,rfl,HN.out.1,HN.out.2⟩
   ·obtain⟨w2,p1,p2,p3⟩:=fF (n:=cB) (v:= .slice none 0 0) (bm.new w1 Z0 110) Ja.out rfl rfl
    have wk:=ar p1;have fj:Hid (ay [] w w2):=(nR.out.trans' dc).trans (((ay.refl [] w1).alloc _).trans p3 (by intro x W;rw[au] at W;omega)) (by simp);have HF:=ar (G.out (0,4) w2 (by rw[z.out,aA (by rw[<-J];exact hK)]) fj.out);clear p1 p2 p3 dc ae ai hK J z G Z;go_wp2_with(with_reducible refine gS 110 wk.out ?_);go_ret2;exact HF.out
def nW (w:World) (r:Nat×Int) (nm:ByteArray) (e:Ending) (w':World):Prop:=
 ay [] w w'/\((r.2=0/\e= .returned (.tuple #[.int .i64 (r.1:Int),.string nm,.int .i64 0]))\/(r.2≠0/\e= .returned (.tuple #[.int .i64 0,.string ⟨#[]⟩,.int .i64 r.2])))
def kJ (X:List Int) (n:bM) (k:Nat):Int:=if n.B.getD (k/64) 0=0 then 0 else ((nO (X.getD (1080+8*(n.B.getD (k/64) 0).toNat+k%64/8) 0).toNat (k%8):Nat):Int)
def qG (X:List Int) (n:bM):List Int:=(List.range n.S.toNat).map (kJ X n)
def sB (X:List Int) (n:bM):Nd:=⟨n.K,n.L,if n.K=1 then qG X n else [],n.E⟩
theorem TF (X:List Int):sB X cB=sA:=rfl
theorem Fa (X:List Int)(n:bM)(k:Nat):0<=kJ X n k/\kJ X n k<256:=by
 unfold kJ;split
 ·omega
 ·have :=xN (X.getD (1080+8*(n.B.getD (k/64) 0).toNat+k%64/8) 0).toNat (k%8)
  omega
theorem lJ (X:List Int)(n:bM):(qG X n).length=n.S.toNat:=by simp[qG]
theorem ot (X:List Int)(n:bM){k:Nat}(h:k<n.S.toNat):(qG X n).getD k 0=kJ X n k:=by
 simp[qG,h]
theorem CJ (V:n.B.length=13)(z:n.K=1->n.S<=832)(G:∀c∈cP n,∀j,j<8->Y.getD (1080+8*c+j) 0=X.getD (1080+8*c+j) 0):sB Y n=sB X n:=by
 unfold sB;by_cases y:n.K=1
 ·rw[aB y,aB y]
  have e:qG Y n=qG X n:=by
   unfold qG;apply dQ;intro k J;rw[bS] at J;unfold kJ;by_cases h:n.B.getD (k/64) 0=0
   ·rw[aB h,aB h]
   ·rw[aA h,aA h]
    have W:=z y;have U:(n.B.getD (k/64) 0).toNat∈cP n:=by
     unfold cP dB;refine bB.2 ⟨n.B.getD (k/64) 0,List.mem_filter.2 ⟨?_,by simpa using h⟩,rfl⟩;rw[aQ (by omega),aj,aD (by omega)];exact bp _
    rw[G _ U (k%64/8) (by omega)]
  rw[e]
 ·rw[aA y,aA y]
structure lQ (X:List Int) (T:List (bM×Value)) (own:Nat->List Nat) (ex:List Nat) (M:Nat->Nd):Prop where
 st:StX X T own ex
 abs:∀i,M i=sB X (nT T i)
 tree:eb M
theorem rH (h:bP n)(z:n.K=1):0<=n.S/\n.S<=832:=by
 rcases h.2.2 with y|y
 ·exact y.2.1
 ·omega
theorem lQ.agree(h:lQ X T own J M):LP M T:=by
 refine⟨h.tree,λi=>by rw[h.abs];rfl,λi=>by rw[h.abs];rfl,λi G hF=>G ?_⟩;rw[h.abs];show(nT T i).K=0;rcases h.st.gots.form i with ⟨z,-⟩|⟨-,y,-⟩
 ·exact absurd hF z
 ·rw[y];rfl
theorem lQ.few{W:List Nat}(h:lQ X T own W M):kS M:=by
 have U:∀i,bP (nT T i)\/nT T i=cB:=λi=>by
  rcases h.st.gots.form i with ⟨-,-,y⟩|⟨-,J,-⟩
  ·exact .inl y.right
  ·exact .inr J
 refine⟨λi e z=> ?_,λi=> ?_,λi=> ?_,λi x G=> ?_⟩
 ·rw[h.abs] at z
  have z:e∈(nT T i).E:=z;rcases U i with y|y
  ·rcases y.2.2 with ⟨-,J⟩|⟨-,J⟩
   ·have :=List.length_eq_zero_iff.1 J.2.1
    rw[this] at z;simp at z
   ·obtain⟨k,V,rfl⟩:=bR z
    have :=(J.2.2.2 k V).1;rwa[show eh (nT T i).E k=(nT T i).E[k].1 by simp[eh,V]] at this
  ·rw[y] at z;simp[cB] at z
 ·rw[h.abs]
  exact h.st.gots.elen i
 ·rw[h.abs]
  unfold sB
  dsimp only
  split
  ·next hK=>
   rw[lJ];rcases U i with y|y
   ·have :=rH y hK;omega
   ·rw[y] at hK;simp[cB] at hK
  ·simp
 ·rw[h.abs] at G
  unfold sB at G
  dsimp only at G
  split at G
  ·obtain⟨k,-,rfl⟩:=bB.1 G
   exact Fa X _ k
  ·simp at G
theorem JA (h:∀i,M i=sB X (nT T i))(i:Nat):∀k,EW T k i=jh M k i:=by
 intro k;induction k with
 |zero=>rfl
 |succ k ih=>
  show EW T k i+uB (nT T k).E (nT T k).E.length i=jh M k i+pK (M k).E i;rw[ih,h k]
  congr 1
  unfold uB pK;rw[fz];rfl
theorem CK (h:∀i,M i=sB X (nT T i))(hN:Ph T)(ho:∀i,32<=i->(nT T i).E=[])(i:Nat):Reach T 0 (i:Int)↔kG M 0 i:=by
 constructor
 ·intro Z
  have U:∀x,Reach T 0 x->∃n:Nat,x=(n:Int)/\kG M 0 n:=by
   intro x hx;induction hx with
   |here=>exact⟨0,rfl,.here⟩
   | @step a b _ hb ih=>
    obtain⟨n,rfl,V⟩:=ih;have G:=hN _ b hb;obtain⟨m,rfl⟩:∃m:Nat,b=(m:Int):=⟨b.toNat,by omega⟩;unfold mj at hb;split at hb
    ·obtain⟨e,J,y⟩:=bB.1 hb
     rw[aH] at J;exact⟨m,rfl,V.step ⟨e,by rw[h];exact J,y⟩⟩
    ·simp at hb
  obtain⟨n,G,W⟩:=U _ Z;rw[show i=n by omega];exact W
 ·intro hc
  induction hc with
  |here=>exact .here
  | @step a b _ J ih=>
   obtain⟨e,z,y⟩:=J;rw[h] at z;have z:e∈(nT T a).E:=z;have ha:a<32:=by
    rcases dr a 32 with G|G
    ·exact G
    ·rw[ho a G] at z;simp at z
   refine ih.step ?_;unfold mj;rw[aB (by omega),aH];exact bB.2 ⟨e,z,y⟩
theorem CL (h:nE X T own):∀i,32<=i->(nT T i).E=[]:=λi y=>by rw[h.zero y];rfl
theorem lQ.free{V:List Nat}(h:lQ X T own V M){i:Nat}(J:i<32):dI X (i:Int)↔(M i).K=0:=by
 rw[h.abs];show _↔(nT T i).K=0;rcases h.st.each J with ⟨z,y⟩|⟨z,y,-⟩
 ·refine⟨λG=>absurd G y.notFree,λG=> ?_⟩
  rcases y.right.2.2 with U|U<;>omega
 ·exact⟨λ_=>by rw[y];rfl,λ_=>z⟩
theorem lQ.points(h:lQ X T own [] M):∀j,j<7->oZ X T own j:=by
 have J:=λi=>JA h.abs i 32
 intro j hj;rcases (show j=0\/j=1\/j=2\/j=3\/j=4\/j=5\/j=6 by omega) with rfl|rfl|rfl|rfl|rfl|rfl|rfl
 ·exact h.st.sup
 ·exact h.st.all
 ·refine⟨by have :=h.tree.root;rw[h.abs] at this;exact this,λi z hl G=> ?_⟩
  have y:0<jh M 32 i:=by rw[<-J];exact hl
  obtain⟨a,-,U⟩:=ng.1 y;exact(h.tree.dir U).2.2.1 ((h.free z).1 G)
 ·intro i z
  have y:=h.tree.links i z;rw[<-J] at y;have e1:(M i).K=(nT T i).K:=by rw[h.abs];rfl
  have Z:(M i).L=(nT T i).L:=by rw[h.abs];rfl
  rw[e1,Z] at y;exact y
 ·intro i z G
  rw[CK h.abs h.st.gots.tabN (CL h.st.gots)];exact h.tree.reach i λV=>G ((h.free z).2 V)
 ·intro b W
  have :=h.st.once b W;rwa[List.count_nil,dH] at this
 ·exact h.st.tails
theorem aay (hl:X.length=3128)(eT:dD X)(U:nE X T own)(V:∀j,j<7->oZ X T own j):∃M,lQ X T own [] M:=by
 refine⟨λi=>sB X (nT T i),⟨hl,eT,V 0 (by omega),U,V 1 (by omega),λb hb=>by rw[List.count_nil,dH];exact V 5 (by omega) b hb,by simp,V 6 (by omega),U.len,λ_=> .inl rfl⟩,λ_=>rfl,?_⟩;have aa:∀i,(λi=>sB X (nT T i)) i=sB X (nT T i):=λ_=>rfl
 have tN:=λi=>JA aa i 32
 have h2:Jh X T:=V 2 (by omega);have h3:tJ T:=V 3 (by omega);have h4:Cx X T:=V 4 (by omega);have H4:∀i:Nat,i<32->(¬dI X (i:Int)↔(nT T i).K≠0):=λi z=>by
  rcases U.form i with ⟨-,-,y⟩|⟨y,Z,-⟩
  ·refine⟨λ_=> ?_,λ_=>y.notFree⟩
   rcases y.right.2.2 with J|J<;>omega
  ·rw[Z]
   refine⟨λJ=> ?_,λJ=>absurd rfl J⟩;rcases (show uk X T from V 1 (by omega)) i z with G|G
   ·exact absurd G J
   ·exact absurd y G
 have W:∀i,32<=i->sB X (nT T i)=sA:=λi z=>by rw[U.zero z];rfl
 refine⟨W,λi=> ?_,h2.1,λi e he=> ?_,λi=> ?_,λi z=> ?_,λi z=> ?_⟩
 ·rcases U.form i with ⟨-,-,y⟩|⟨-,Z,-⟩
  ·rcases y.right.2.2 with ⟨J,G⟩|⟨J,G⟩
   ·exact .inr (.inl ⟨J,List.length_eq_zero_iff.1 G.2.1⟩)
   ·exact .inr (.inr ⟨J,aA (by rw[J];decide)⟩)
  ·exact .inl (by rw[Z];rfl)
 ·have he:e∈(nT T i).E:=he
  have z:i<32:=by
   rcases dr i 32 with h|h
   ·exact h
   ·rw[CL U i h] at he;simp at he
  have y:=U.tabN (i:Int) e.2 (by
   unfold mj;rw[aB (by omega),aH];exact bB.2 ⟨e,he,rfl⟩)
  refine⟨y,?_⟩;have Z:0<ju T e.2.toNat:=by
   unfold ju;rw[tN];exact ng.2 ⟨i,z,e,he,by omega⟩
  exact(H4 _ (by omega)).1 (h2.2 _ (by omega) Z)
 ·show tI (nT T i).E
  rcases U.form i with ⟨-,-,y⟩|⟨-,Z,-⟩
  ·rcases y.right.2.2 with ⟨-,G⟩|⟨-,G⟩
   ·rw[List.length_eq_zero_iff.1 G.2.1];exact List.Pairwise.nil
   ·exact EO G
  ·rw[Z];exact List.Pairwise.nil
 ·have y:=h3 i z
  unfold oY ju at y;rw[tN] at y;exact y
 ·have jt:i<32:=by
   rcases dr i 32 with h|h
   ·exact h
   ·rw[W i h] at z;exact absurd rfl z
  exact(CK aa U.tabN (CL U) i).1 (h4 i jt ((H4 i jt).2 z))
theorem PG (h:A8 xs):aR xs=KP (xs.map Int.toNat):=by
 rw[KP,aR,List.map_map];apply dQ;intro z y;have :=h z y;simp only[Function.comp_apply];rw[fW this.1]
theorem WO{gb:Nat}(h:Reads w v gb (aR xs))(y:A8 xs):
  Calls Tryz.prog 122 #[v] w λe w'=>e= .returned (.int .u32 (G1 (xs.map Int.toNat):Nat))/\ay [] w w':=by
 rw[PG y] at h;exact RR h
def calm (xs:List Int) (d:Int):ic:={ now:=xs,last:=xs,fl:=List.replicate ((xs.length+7)/8*8) false,deeds:=d,fused:=false,left:=0 }
def yO (n:Nat) (qs:List (Int×Int)):List Bool:=(List.range n).map λi=>qs.any λp=>p.1/8==((i/8:Nat):Int)
def eW (xs:List Int) (ps qs:List (Int×Int)) (d:Int):ic:=
 { now:=az xs ps,last:=xs,fl:=yO ((xs.length+7)/8*8) qs,deeds:=d,fused:=false,left:=0 }
theorem JB (n:Nat):yO n []=List.replicate n false:=by
 apply b8;intro j;simp only[yO,List.any_nil,bD,aY];by_cases h:j<n
 ·rw[b7 h,aB h];rfl
 ·rw[aO (by simpa using h),aA h];rfl
theorem Nj (xs:List Int)(d:Int):calm xs d=eW xs [] [] d:=by simp[calm,eW,JB,az]
theorem jS{qs:List (Int×Int)}(h:0<=i)(y:i<xs.length):(eW xs ps qs d).refusal i=0:=by
 simp[ic.refusal,ic.gone,eW,bO];omega
theorem DL (xs:List Int)(ps:List (Int×Int))(d:Int)(i x:Int)(h:0<=i)(y:i<xs.length):(eW xs ps [] d).store i x=eW xs (ps++[(i,x)]) [] (d+1):=by
 rw[ic.store,aB (jS h y)];simp only[eW,ic.count,bo,k9,JB]
 congr 1
 apply b8;intro j;rw[er];simp only[aY,bh];split
 ·rename_i e
  subst e;split<;>simp_all
 ·rfl
theorem PH (n:Nat)(qs:List (Int×Int))(i x:Int)(z:0<=i):vg (yO n qs) (i.toNat/8) 8=yO n (qs++[(i,x)]):=by
 apply b8;intro j;simp only[vg,yO,eQ,bD];by_cases y:j<n
 ·rw[b7 y]
  simp only[e9,Option.some.injEq,List.any_append,List.any_cons,List.any_nil,Bool.or_false];by_cases h:i.toNat/8*8<=j/\j<i.toNat/8*8+8
  ·rw[aB h]
   have :(i/8==((j/8:Nat):Int))=true:=by simp;omega
   rw[this,Bool.or_true]
  ·rw[aA h]
   have :(i/8==((j/8:Nat):Int))=false:=by simp;omega
   rw[this,Bool.or_false]
 ·rw[aO (by simpa using y)];rfl
theorem PI (n:Nat)(qs:List (Int×Int))(i x:Int)(h:i/8∈gi qs):yO n (qs++[(i,x)])=yO n qs:=by
 unfold yO;apply dQ;intro j _;rw[List.any_append];by_cases y:(qs.any λp=>p.1/8==((j/8:Nat):Int))=true
 ·rw[y];rfl
 ·have :(i/8==((j/8:Nat):Int))=false:=by
   rw[cg];intro e;apply y;simp only[gi,bB] at h;obtain⟨p,z,G⟩:=h;exact List.any_eq_true.2 ⟨p,z,by rw[G,e];simp⟩
  simp only[List.any_cons,List.any_nil,this,Bool.or_false]
theorem DM (xs:List Int)(ps qs:List (Int×Int))(d:Int)(i x:Int)(h:0<=i)(y:i<xs.length):(eW xs ps qs d).flush i=eW xs ps (qs++[(i,x)]) (d+1):=by
 rw[ic.flush,aB (jS h y)];simp only[eW,ic.count,PH _ _ _ x h];rfl
theorem Gr (xs:List Int)(ps qs:List (Int×Int))(d:Int)(i x:Int)(h:i/8∈gi qs):eW xs ps (qs++[(i,x)]) d=eW xs ps qs d:=by
 simp only[eW,PI _ _ _ _ h]
theorem tQ (xs:List Int)(ps qs:List (Int×Int))(d:Int)(h:0<=d)(y:d<4611686018427387904):(eW xs ps qs d).fit:=by
 refine⟨h,y,?_,?_⟩<;>simp[eW]
theorem DN (xs:List Int)(ps:List (Int×Int))(d:Int)(h:∀p∈ps,0<=p.1):(eW xs ps ps d).fence=calm (az xs ps) (d+1)/\(eW xs ps ps d).fenceE=0:=by
 have U:(eW xs ps ps d).gone=false:=rfl;refine⟨?_,by rw[ic.fenceE,U];rfl⟩;rw[ic.fence,U,aA (by simp)];have V:fV (eW xs ps ps d) (eW xs ps ps d).now.length=az xs ps:=by
  show(xs.mapIdx λj x=>if j<(az xs ps).length/\(yO ((xs.length+7)/8*8) ps).getD j false=true then (az xs ps).getD j 0 else x)=az xs ps;apply b8;intro j;rw[eQ];by_cases G:j<xs.length
  ·have y:j<(az xs ps).length:=by rw[bO];exact G
   rw[aD G,aD y,e9];by_cases z:(yO ((xs.length+7)/8*8) ps).getD j false=true
   ·rw[aB ⟨y,z⟩,aj,aD y];rfl
   ·rw[aA λe=>z e.2]
    have :=eo ps j xs λp J e=>by
     apply z;have W:=h p J;rw[yO,aj,bD,b7 (by omega)];simp only[e9,eG,List.any_eq_true];exact⟨p,J,by simp;omega⟩
    rw[aj,aD y,aj,aD G] at this;simp only[eG] at this;rw[this]
  ·rw[aO (by omega),aO (by rw[bO];omega)];rfl
 rw[V];simp only[eW,ic.count,calm,bO,yO,bJ,eJ];rfl
theorem rI (h:0<=i)(y:i<xs.length):(calm xs d).refusal i=0:=by rw[Nj];exact jS h y
theorem Fb (h:0<=i)(y:i<xs.length):(calm xs d).load i=xs.getD i.toNat 0:=by rw[ic.load,aB (rI h y)];rfl
theorem um (h:dO w b gn gl gf (calm xs d))(i:Int)(y:0<=i)(z:i<xs.length):
  Calls Tryz.prog 52 #[.pointer (some ⟨b,0,none⟩),.int .i64 i] w λe w'=>e= .returned (.tuple #[.int .u64 (xs.getD i.toNat 0),.int .i64 0])/\w=w':=by
 have :=Fp h i;rw[rI y z,Fb y z] at this;exact this
theorem LR (x:Int)(h:0<=x)(w:World):Calls Tryz.prog 120 #[.int .u64 x] w λe w'=>e= .returned (.bool (ov x))/\w=w':=by
 by_cases y:x<3128
 ·by_cases z:x<8
  ·rw[kj.2 ⟨h,y,.inl z⟩]
   go_enter Tryz.func120,Tryz.ntmps120;go_wp2_with fail;go_ret;exact⟨rfl,rfl⟩
  ·by_cases G:816<=x
   ·rw[kj.2 ⟨h,y,.inr G⟩]
    go_enter Tryz.func120,Tryz.ntmps120;go_wp2_with fail;go_ret;exact⟨rfl,rfl⟩
   ·rw[show ov x=false by rw[Bool.eq_false_iff,ne_eq,kj];omega]
    go_enter Tryz.func120,Tryz.ntmps120;go_wp2_with fail;go_ret;exact⟨rfl,rfl⟩
 ·rw[show ov x=false by rw[Bool.eq_false_iff,ne_eq,kj];omega]
  go_enter Tryz.func120,Tryz.ntmps120;go_wp2_with fail;go_ret;exact⟨rfl,rfl⟩
theorem rJ (ws:List Int)(k:Nat):jJ ws (k+1)=(jJ ws k&&ov (ws.getD (2*k) 0)):=by
 simp[jJ,dL,List.all_append]
theorem Gs (h:jJ ws k=false)(y:k<=m):jJ ws m=false:=by
 induction m with
 |zero=>obtain rfl:k=0:=by omega
        exact h
 |succ m ih=>
  rw[rJ];by_cases e:k=m+1
  ·subst e
   rw[rJ] at h;exact h
  ·rw[ih (by omega)];rfl
theorem xx (h:Reads w v g (aR ws))(U:A8 ws)(m:Nat)(J:ws.length=2*m)(W:m<=100000):
  Calls Tryz.prog 69 #[v] w λe w'=>e= .returned (.bool (jJ ws m))/\w=w':=by
 obtain⟨a,cap,rfl,h1,h2,H3⟩:=fM h;unfold maxLen at h2;have HX:=ar U;have HM:=ar J;rw[J] at h1 ⊢;clear h U J;go_enter Tryz.func69,Tryz.ntmps69;go_wp2_with fail;go_loopg [3] m (λg s3 wx=>∃k:Nat,k+g=m/\s3= .int .i64 ((2*k:Nat):Int)/\Hid (jJ ws k=true)/\wx=w)
 case atStart=>exact⟨0,by omega,rfl,rfl,rfl⟩
 case round=>
  obtain⟨k,hk,rfl,V,rfl⟩:=hrel;cases gk with
  |zero=>
   obtain rfl:k=m:=by omega
   have G:¬((2*k:Nat):Int)<((2*k:Nat):Int):=by omega
   go_wp2_with fail;go_ret;exact⟨by rw[V.out];rfl,rfl⟩
  |succ gg=>
   have G:((2*k:Nat):Int)<((2*m:Nat):Int):=by omega
   obtain⟨hg,off,rfl,hc⟩:=H3.out (2*k) (by rw[HM.out];omega);have z:=ar (λZ=>LR (ws.getD (2*k) 0) (Ba HX.out _).1 Z);have y:=ar (rJ ws k);have b0:0<=((2*k:Nat):Int):=by omega
   generalize ws.getD (2*k) 0=x at *;cases hp:ov x
   ·rw[hp] at z y
    clear hp;go_wp2_with(go_at_call 120;refine(z.out _).mono ?_;rintro e w' ⟨rfl,rfl⟩);go_ret;exact⟨by rw[Gs (k:=k+1) (by rw[y.out];simp) (by omega)];rfl,rfl⟩
   ·rw[hp] at z y
    clear hp;go_wp2_with(go_at_call 120;refine(z.out _).mono ?_;rintro e w' ⟨rfl,rfl⟩);go_roundg gg;case measure=>omega
    case rel=>exact⟨k+1,by omega,by rw[show((2*(k+1):Nat):Int)=2*(k:Int)+2 by omega],by show jJ ws (k+1)=true;rw[y.out,V.out];rfl,rfl⟩
theorem WQ (n s:Nat)(y:n<2147483648)(h:s<4294967296):bits .or .u64 ((n:Int)/2*4294967296) (s:Int)=(((n/2:Nat):Int)*4294967296+(s:Int)):=by
 rw[show(n:Int)/2*4294967296=((n/2*4294967296:Nat):Int) by omega,u64_or_nat _ _ (by omega) (by omega),nat_join 32 _ _ (by exact Nat.mul_mod_left _ _) h];omega
theorem uT (h:Reads w v g (aR ws))(z:A8 ws)(Z:ws.length<=100000):
  Calls Tryz.prog 73 #[v] w λe w'=>e= .returned (.int .u64 (nI ws))/\ay [] w w':=by
 have G:=ar (WO h z);obtain⟨a,cap,rfl,h1,U,-⟩:=fM h;unfold maxLen at U;have W:=Fm (ws.map Int.toNat);unfold nI;have V:=ar (WQ ws.length (G1 (ws.map Int.toNat)) (by omega) W);generalize G1 (ws.map Int.toNat)=s at *;clear h z;generalize ws.length=n at *;go_enter Tryz.func73,Tryz.ntmps73;go_wp2_with fail;refine G.out.mono ?_;rintro e w1 ⟨rfl,y⟩;have J:=ar y;clear y;go_wp2_with fail;go_ret;refine⟨?_,J.out⟩;rw[<-V.out];rfl
theorem LS (h:kN w v g ps)(gW:Xn ps)(hn:ps.length<=400):
  Calls Tryz.prog 68 #[v] w (gC w (ey ps)):=by
 obtain⟨i0,hi,ae,aa,ac⟩:=cJ Tryz.info_u64;have H:=ar h;have GW:=ar gW;obtain⟨a,cap,rfl,h1,h2⟩:=h.val;unfold maxLen at h2;have rO:=sM (2*ps.length) (by omega) (2*(ps.length:Int)) (by omega) 0 (.inl rfl) w;rw[Int.natCast_zero] at rO;have HO:Hid ((w.alloc (.cells (madeCells #[.int .u64 0] (2*ps.length)) 55)).ownsRow w.heap.size 55 1 (.slice (some ⟨w.heap.size,0,none⟩) 0 (2*ps.length)) 0 []):=
  World.ownsRow_made w _ _ (aG _) (by simp[maxLen];omega) (by simp[size_madeCells])
 clear h gW;go_enter Tryz.func68,Tryz.ntmps68;go_wp2_with fail;go_loopg [3,12] ps.length (λgh s3 s12 wx=>∃k:Nat,k+gh=ps.length/\s12= .int .i64 (k:Int)/\s3= .slice (some ⟨w.heap.size,0,none⟩) (2*k) (2*ps.length)/\
  Hid (wx.ownsRow w.heap.size 55 1 (.slice (some ⟨w.heap.size,0,none⟩) (2*k) (2*ps.length)) (2*k) (aR (ey (ps.take k)))/\ay [] w wx))
 case atStart=>exact⟨0,by omega,rfl,rfl,HO.out,(ay.refl _ _).alloc _⟩
 case round=>
  obtain⟨k,hk,rfl,rfl,V⟩:=hrel;cases gk with
  |zero=>
   obtain rfl:k=ps.length:=by omega
   have Z:¬(ps.length:Int)<(ps.length:Int):=by omega
   obtain⟨hr,U⟩:=V.out;rw[aQ (aG _)] at hr;obtain⟨g',W,-⟩:=eE.of_row hr;have hb:g'=w.heap.size\/ps.length=0:=by
    by_cases e:ps.length=0
    ·exact .inr e
    ·left
     obtain⟨-,⟨_,hv,-,-⟩,-,-⟩:=W.cell (by omega);cases hv;rfl
   have HM:Hid (gC w (ey ps) (.returned (.slice (some ⟨w.heap.size,0,none⟩) (2*ps.length) (2*ps.length))) wr):=by
    rcases hb with rfl|hb
    ·exact⟨_,_,rfl,W.reads,aG _,U⟩
    ·exact⟨_,w.heap.size,rfl,(W.anyG (by omega) _).reads,aG _,U⟩
   clear hr W hb U V;go_wp2_with fail;go_ret;exact HM.out
  |succ gg=>
   have Z:(k:Int)<(ps.length:Int):=by omega
   obtain⟨hg,off,rfl,c0,c1⟩:=(H.out.keep V.out.2 (by simp)).get (j:=k) (by omega);have b1:=Mq GW.out (k:=k) (by omega);have HW:=ar (xP ps k (by omega));generalize iD ps k=x at *;generalize nw ps k=y at *;obtain⟨J,U⟩:=V.out;have zZ:=ar J;have gI:=ar U;clear J U V;go_wp2_with(at_builtin;refine wpList_append_fits _ rfl _ _ 69 rfl w.heap.size 55 i0 1 Tryz.underlying69 hi aa w.heap.size (2*k) (2*ps.length) _ rfl ((zZ.out.alloc _).alloc _) ⟨wr.heap.size+1,0,none⟩ 2 2 [.int .u64 (IntKind.u64.wrap x),.int .u64 y] rfl rfl ?c1 ?c2 (by omega) ?_);case c1=>exact iP _ [_,_] _ _ (by simp)
   case c2=>simp[Value.oneCell']
   intro w1 z G;have iH:Hid (ay [] w w1):=((gI.out.alloc _).alloc _).trans (ay.of_grown (l:=[w.heap.size]) G (by intro q hq;cases hq;simp)) (by simp);have z6:=ar z;clear z G;go_wp2_with fail;go_roundg gg;case measure=>omega
   case rel=>
    refine⟨k+1,by omega,by go_num,rfl,?_,iH.out⟩;have :=z6.out;rw[HW.out,lr];rw[fu] at this;exact this
theorem Gt (ws:List Int)(k:Nat)(h:k<ws.length):(kf ws)[k]'(by rw[kT];exact h)=(9+(k:Int),ws.getD k 0):=by
 simp[kf,h]
theorem TG (h:Reads w v g (aR ws))(hn:ws.length<=800):
  Calls Tryz.prog 71 #[v] w (jU w (kf ws)):=by
 have H:=ar h;obtain⟨a,cap,rfl,h1,h2,-⟩:=fM h;unfold maxLen at h2;have rO:=Ko ws.length (by omega) (ws.length:Int) rfl w;have z:=Kp w ws.length (by omega);rw[show List.replicate ws.length ((0:Int),(0:Int))=cU (0,0) (kf ws) 0 by rw[iM,kT]] at z;have z:=ar z;generalize madeCells #[Value.int .i64 0,Value.int .u64 0] (ws.length*2)=mc at *;clear h;go_enter Tryz.func71,Tryz.ntmps71;go_wp2_with fail;go_loopg [11] ws.length (λgh NY wx=>∃k:Nat,k+gh=ws.length/\NY= .int .i64 (k:Int)/\
  Hid (eE wx (.slice (some ⟨w.heap.size,0,none⟩) ws.length ws.length) w.heap.size 61 2 ws.length (gQ (cU (0,0) (kf ws) k))/\ay [] w wx))
 case atStart=>exact⟨0,by omega,rfl,z.out,(ay.refl _ _).alloc _⟩
 case round=>
  obtain⟨k,hk,rfl,y⟩:=hrel;cases gk with
  |zero=>
   obtain rfl:k=ws.length:=by omega
   have G:¬(ws.length:Int)<(ws.length:Int):=by omega
   have HM:Hid (jU w (kf ws) (.returned (.slice (some ⟨w.heap.size,0,none⟩) ws.length ws.length)) wr):=by
    obtain⟨W,eI⟩:=y.out;have e:cU (0,0) (kf ws) ws.length=kf ws:=by
     have :=jl ((0:Int),(0:Int)) (kf ws);rw[kT] at this;exact this
    rw[e] at W;exact jU.mk W (kT ws).symm (aG _) eI
   go_wp2_with fail;go_ret;exact HM.out
  |succ gg=>
   have G:(k:Int)<(ws.length:Int):=by omega
   obtain⟨_,_,hv,-,-,V⟩:=fM (H.out.keep y.out.2 (by simp));cases hv;obtain⟨hg,off,rfl,c0⟩:=V.out k (by omega);have Z:=iU ((0:Int),(0:Int)) (kf ws) k (by rw[kT];omega);rw[kT] at Z;obtain⟨-,-,J,U⟩:=y.out.1.cell (by omega);have d0:=(J (k*2) (by omega)).trans (mn (cU (0,0) (kf ws) k) k (by omega)).1;have d1:=(J (k*2+1) (by omega)).trans (mn (cU (0,0) (kf ws) k) k (by omega)).2;have f0:=U (k*2);have f1:=U (k*2+1);have HE:=ar (iN ((0:Int),(0:Int)) (kf ws) k (by rw[kT];omega) _ (Gt ws k (by omega)));generalize iD (cU (0,0) (kf ws) k) k=o1 at *;generalize nw (cU (0,0) (kf ws) k) k=o2 at *;have HP:=ar (y.out.1.pair k (9+(k:Int)) (ws.getD k 0));have gI:=ar y.out.2;generalize ws.getD k 0=x at *;clear J U Z V y;go_wp2_with fail;go_roundg gg;case measure=>omega
   case rel=>
    refine⟨k+1,by omega,by go_num,?_,(gI.out.setCell (.inr (aG _)) _).setCell (.inr (aG _)) _⟩;rw[<-HE.out];exact HP.out
def aaz (ws:List Int) (m:Nat):List (Int×Int):=(List.range m).map λk=>(ws.getD (2*k) 0,ws.getD (2*k+1) 0)
def mK (xs:List Int) (m:Nat):List Int:=(List.range m).map λk=>xs.getD (9+k) 0
theorem nr (xs:List Int)(m:Nat):(mK xs m).length=m:=by simp[mK]
theorem Gu (xs:List Int)(m k:Nat)(h:k<m):(mK xs m)[k]'(by rw[nr];exact h)=xs.getD (9+k) 0:=by simp[mK]
theorem JC (h:A8 xs)(m:Nat):A8 (mK xs m):=by
 intro x y;simp only[mK,bB] at y;obtain⟨k,-,rfl⟩:=y;exact Ba h _
theorem vT (w:World)(n:Nat)(h:n<=100000):eE (w.alloc (.cells (madeCells #[.int .u64 0] n) 55)) (.slice (some ⟨w.heap.size,0,none⟩) n n) w.heap.size 55 1 n (aR (List.replicate n 0)):=by
 refine⟨by simp[aR],_,n,rfl,aG _,by unfold maxLen;omega,λ_=>⟨rfl,_,bm.new _ _ _,by simp[size_madeCells],?_⟩⟩;rw[toList_madeCells_one,D5,aQ (by simp[aR])]
def nt (w:World) (ws:List Int) (e:Ending) (w':World):Prop:=
 ∃v g,e= .returned (.tuple #[v,.int .i64 0])/\Reads w' v g (aR ws)/\w.heap.size<=g/\ay [] w w'
theorem TH (h:dO w b gn gl gf (calm xs d))(m:Nat)(hm:m<=800)(W:xs.length=3128):
  Calls Tryz.prog 132 #[.pointer (some ⟨b,0,none⟩),.int .i64 9,.int .i64 (m:Int)] w (nt w (mK xs m)):=by
 have H:=ar h;have HX:=ar W;have rO:=sM m (by omega) (m:Int) rfl m (.inr rfl) w;have z:=vT w m (by omega);rw[show List.replicate m (0:Int)=cU 0 (mK xs m) 0 by rw[iM,nr]] at z;have z:=ar z;generalize madeCells #[Value.int .u64 0] m=mc at *;clear h W;go_enter Tryz.func132,Tryz.ntmps132;go_wp2_with fail;go_loopg [16] m (λgh s16 wx=>∃k:Nat,k+gh=m/\s16= .int .i64 (k:Int)/\
  Hid (eE wx (.slice (some ⟨w.heap.size,0,none⟩) m m) w.heap.size 55 1 m (aR (cU 0 (mK xs m) k))/\ay [] w wx))
 case atStart=>exact⟨0,by omega,rfl,z.out,(ay.refl _ _).alloc _⟩
 case round=>
  obtain⟨k,hk,rfl,y⟩:=hrel;cases gk with
  |zero=>
   obtain rfl:k=m:=by omega
   have J:¬(k:Int)<(k:Int):=by omega
   have U:Hid (nt w (mK xs k) (.returned (.tuple #[.slice (some ⟨w.heap.size,0,none⟩) k k,.int .i64 0])) wr):=by
    obtain⟨ho,eI⟩:=y.out;have e:cU 0 (mK xs k) k=mK xs k:=by
     have :=jl (0:Int) (mK xs k);rw[nr] at this;exact this
    rw[e] at ho;exact⟨_,_,rfl,ho.reads,aG _,eI⟩
   go_wp2_with fail;go_ret2;exact U.out
  |succ gg=>
   have J:(k:Int)<(m:Int):=by omega
   have Z:=ar (um (H.out.keep y.out.2 (by simp) (by simp)) (9+(k:Int)) (by omega) (by rw[HX.out];omega));rw[show(9+(k:Int)).toNat=9+k by omega] at Z;have hl:=iU (0:Int) (mK xs m) k (by rw[nr];omega);rw[nr] at hl;obtain⟨-,-,V,hf⟩:=y.out.1.cell (by omega);have d0:=(V k (by omega)).trans (cC (l:=cU 0 (mK xs m) k) (by omega));have f0:=hf k;have HE:=ar (iN (0:Int) (mK xs m) k (by rw[nr];omega) _ (Gu xs m k (by omega)));generalize (cU 0 (mK xs m) k).getD k 0=o1 at *;have G:=y.out.1.set k (.int .u64 (xs.getD (9+k) 0));rw[jw] at G;have G:=ar G;have gI:=ar y.out.2;generalize xs.getD (9+k) 0=x at *;clear V hf hl y;go_wp2_with(go_at_call 52;refine Z.out.mono ?_;rintro e w' ⟨rfl,rfl⟩);go_roundg gg;case measure=>omega
   case rel=>
    refine⟨k+1,by omega,by go_num,?_,gI.out.setCell (.inr (aG _)) _⟩;rw[<-HE.out];exact G.out
end Go.Proofs.YtcecbdeamjigiaaGreatDoor
