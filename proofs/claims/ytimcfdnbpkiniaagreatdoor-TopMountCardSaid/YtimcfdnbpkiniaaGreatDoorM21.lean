/- Lemmas. -/
import Derived.Test.YtimcfdnbpkiniaaGreatDoorM20
set_option maxHeartbeats 4000000
set_option maxRecDepth 100000
namespace Go.Proofs.YtimcfdnbpkiniaaGreatDoor
open Go.Proofs.Tryz
open Go.RowKit
variable{B X Y ws xs:List Int}{J W ex ex' l:List Nat}{T V:List (bT×Value)}{own:Nat->List Nat}{P:List ByteArray}{b g gp k m:Nat}{w:World}{v:Value}{ps:List (Int×Int)}{n:bT}{M:Nat->Nd}{d i:Int}
def pd (X Y:List Int) (l:List Nat):Prop:=∀c,c<256->c≠0->dG X c=true->c∉l->∀j,j<8->Y.getD (1080+8*c+j) 0=X.getD (1080+8*c+j) 0
theorem vI (h:lu X)(G:∀k,k<8->Y.getD k 0=X.getD k 0)(U:∀k,820<=k->k<824->Y.getD k 0=X.getD k 0):lu Y:=
 ⟨by rw[G 0 (by omega)];exact h.1,by rw[G 1 (by omega)];exact h.2.1,by rw[G 2 (by omega)];exact h.2.2.1,λi J z=>by rw[G i z];exact h.2.2.2.1 i J z,λi J z=>by rw[U i J z];exact h.2.2.2.2 i J z⟩
theorem ra (h:l.Nodup)(b:Nat):l.count b=if b∈l then 1 else 0:=by
 split
 ·next h1=>
  have G:l.count b<=1:=List.nodup_iff_count.1 h b;have z:0<l.count b:=List.count_pos_iff.2 h1;omega
 ·next h1=>exact List.count_eq_zero.2 h1
theorem rB.put(h:rB X T V own ex){i:Nat}(U:i<32){n:bT}(hB:n.B.length=13)(hR:ct n)
  (hn:dx n<=(aZ (az X (cm X (own i)))).length) {ex':List Nat} (hc:∀b,b<256->(dn n).count b+ex'.count b=(dn (nT V i)).count b+ex.count b) (hx:∀c∈ex',c≠0/\c<256) (ht:jX X n):
  rB (az X (mj X i n (own i))) (nW T i n) (nW V i n) (I7 own i ((aZ (az X (cm X (own i)))).take (dx n))) ex'/\
   pd X (az X (mj X i n (own i))) (own i)/\(aZ (az X (mj X i n (own i)))).length+dx n=(aZ X).length+(own i).length/\∀k,k<816->(az X (mj X i n (own i))).getD k 0=X.getD k 0:=by
 have W:=abR (i:=(i:Int)) h.w64 h.len hB (by omega) hR hn;rw[aG] at W;have xP:∀k,k<816->(az X (mj X i n (own i))).getD k 0=X.getD k 0:=λk hk=>dX _ _ _ λp hp=>by
  rcases zb U hR rfl hn hp with z|z|z<;>omega
 have hz:=Y9 h.w64 h.len (own:=own i) U hR hn;have af:∀c∈own i,dG X c=true:=λc hc=>h.used U (bV _ hc)
 have ah:∀c∈own i,c≠0/\c<256:=λc hc=>h.rng U (bV _ hc)
 have xd:(own i).Nodup:=by
  rcases h.each U with ⟨-,z⟩|⟨-,-,z⟩
  ·exact z.nodup
  ·rw[z];exact List.nodup_nil
 have zF:(aZ (az X (mj X i n (own i)))).length+dx n=(aZ X).length+(own i).length:=by
  rw[W.count,sA ah xd af λc hc ak=>(iB (own i) X h.w64 h.len).2.1 c hc ak]
 generalize (aZ (az X (cm X (own i)))).take (dx n)=o',az X (mj X i n (own i))=Y at *;clear hn;have o6:pd X Y (own i):=λc hc ak hu ax j hj=>by
  refine W.other _ (by omega) (by rw[aG];omega) λz=> ?_
  have e:(1080+8*c+j-1080)/8=c:=by omega
  rw[e] at z;have G:=W.free c z.2;rw[hu,aQ ax] at G;simp at G
 have au:(nW T i n).length=32:=by unfold nW;rw[cY];exact h.gots.len
 have aa:=λj=>pW h.gots.len U n j
 -- what lies elsewhere
 have aj:∀j,j<32->j≠i->((nT T j).F≠0/\eH Y (j:Int) (nT T j) (own j))\/(dS Y (j:Int)/\nT T j=ck/\own j=[]):=λj hj Qe=>by
  rcases h.each hj with ⟨z,G⟩|⟨z,G,h3⟩
  ·refine .inl ⟨z,W.keeps G (by omega) (λc hc=>h.used hj (bV _ hc)) λc hc av=> ?_⟩
   exact h.apart hj U Qe (bV _ hc) (bV _ av)
  ·exact .inr ⟨W.free_keeps z (by omega) (by omega),G,h3⟩
 have ar:∀c∈dn n,c≠0/\c<256/\dG X c=true/\c∉own i:=λc J=>by
  have z:=qC hB hR c J;have G:=hc c z.2;have h3:0<(dn n).count c:=List.count_pos_iff.2 J;rcases dZ (ex.count c) with h4|h4
  ·have h5:c∈dn (nT V i):=List.count_pos_iff.1 (by omega)
   exact⟨z.1,z.2,h.used U (bX _ h5),λh6=>h.inner U h6 h5⟩
  ·have h5:c∈ex:=List.count_pos_iff.1 h4
   exact⟨z.1,z.2,h.usedEx h5,λh6=>h.apartEx U (bV _ h6) h5⟩
 have ai:=λj=>pW h.vlen U n j
 refine⟨⟨W.len,W.w64,?_,⟨au,λj hj=> ?_⟩,λj hj=> ?_,λb hb=> ?_,hx,λj hj=> ?_,by unfold nW;rw[cY];exact h.vlen,λj=>by rw[aa,ai];split;exact .inl rfl;exact h.vir j⟩,o6,zF,xP⟩
 ·exact vI h.sup (λk hk=>xP k (by omega)) λk hk ay=>W.other k hk (by rw[aG];omega) (by omega)
 ·rw[aa]
  by_cases e:i=j
  ·subst e
   rw[aB rfl,I7,aB rfl];exact .inl W.st
  ·rw[aA e,I7,aA (cZ e)]
   rcases aj j hj (cZ e) with z|⟨z,G,h3⟩
   ·exact .inl z.2
   ·exact .inr ⟨λ_ _ hs=>hs.notFree z,G,h3⟩
 ·rw[aa]
  by_cases e:i=j
  ·subst e
   rw[aB rfl]
   right
   rcases hR.1 with z|z<;>omega
  ·rw[aA e]
   rcases aj j hj (cZ e) with z|z
   ·exact .inr z.1
   ·exact .inl z.1
 ·have z:=(Hk h.vlen own U n o' b 32).2 U
  have G:=h.once b hb;have h3:=hc b hb;unfold xz at G ⊢;unfold nH at z;rw[fM,fM] at z;have h4:=ra xd b;have h5:=ra W.st.nodup b;by_cases ac:b=0
  ·subst ac
   have g1:(0:Nat)∉own i:=λh=>(ah 0 h).1 rfl
   have g2:(0:Nat)∉o':=λh=>(W.st.mem 0 h).1 rfl
   rw[aA g1] at h4;rw[aA g2] at h5;have e:km (nW V i n) (I7 own i o') 32 0+ex'.count 0=km V own 32 0+ex.count 0:=by omega
   rw[hz,e];exact G
  ·have h6:=W.used b hb ac
   by_cases g1:b∈own i
   ·rw[aB g1] at h4
    have h7:=af b g1;rw[bu g1,h7] at h6;have h8:=G.2.1 h7;by_cases g2:b∈o'
    ·rw[aB g2] at h5
     rw[bu g2] at h6;refine⟨by omega,λ_=>by omega,λ_=>by rw[h6];rfl⟩
    ·rw[aA g2] at h5
     rw[aQ g2] at h6;refine⟨by omega,λh=>by rw[h6] at h;simp at h,λ_=>by omega⟩
   ·rw[aA g1] at h4
    rw[aQ g1] at h6;by_cases g2:b∈o'
    ·rw[aB g2] at h5
     have h7:=W.free b g2;rw[aQ g1] at h7;have h8:dG X b=false:=by simpa using h7
     have h9:¬(km V own 32 b+ex.count b=1):=λh=>by rw[G.2.2 h] at h8;cases h8
     rw[bu g2] at h6;exact⟨by omega,λ_=>by omega,λ_=>by rw[h6];simp⟩
    ·rw[aA g2] at h5
     rw[aQ g2] at h6;have h7:dG Y b=dG X b:=by rw[h6];simp
     rw[h7];have e:km (nW V i n) (I7 own i o') 32 b+ex'.count b=km V own 32 b+ex.count b:=by omega
     rw[e];exact G
 ·rw[ai]
  by_cases e:i=j
  ·subst e
   rw[aB rfl];exact vH hB ht λc J k hk=>by
    have :=ar c J;exact o6 c this.2.1 this.1 this.2.2.1 this.2.2.2 k hk
  ·rw[aA e]
   have ag:nT V j=ck->jX Y (nT V j):=λG=>by
    rw[G];intro hK;simp[ck] at hK
   rcases h.each hj with ⟨z,G⟩|⟨z,G,h3⟩
   ·by_cases ae:nT V j=ck
    ·exact ag ae
    have hv:=(h.vir j).resolve_right ae;refine vH (by rw[hv];exact G.len) (h.tails j hj) λc J k hk=> ?_
    have h4:=h.rng hj (bX _ J);exact o6 c h4.2 h4.1 (h.used hj (bX _ J)) (λh5=>h.apart hj U (cZ e) (bX _ J) (bV _ h5)) k hk
   ·exact ag ((h.vir j).elim (λhv=>by rw[hv];exact G) id)
theorem rB.change{G z:List (bT×Value)}{J:Nat->List Nat}(_:rB X T V own ex)(hl:Y.length=3128)(ac:In64 Y)(aa:lu Y)(hT:G.length=32)(hV:z.length=32)(hv:∀j,nT z j=nT G j\/nT z j=ck)
  (U:∀j:Nat,j<32->((nT G j).F≠0/\eH Y (j:Int) (nT G j) (J j))\/(dS Y (j:Int)/\nT G j=ck/\J j=[]))
  (xd:∀b,b<256->xz z J b+ex'.count b<=1/\(dG Y b=true↔xz z J b+ex'.count b=1)) (hx:∀c∈ex',c≠0/\c<256) (W:∀j,j<32->jX Y (nT z j)):rB Y G z J ex':=by
 refine⟨hl,ac,aa,⟨hT,λj hj=> ?_⟩,λj hj=> ?_,xd,hx,W,hV,hv⟩
 ·rcases U j hj with h|⟨h,h2,h3⟩
  ·exact .inl h.2
  ·exact .inr ⟨λ_ _ hs=>hs.notFree h,h2,h3⟩
 ·rcases U j hj with h|h
  ·exact .inr h.1
  ·exact .inl h.1
theorem rB.nodup(h:rB X T V own J){i:Nat}(z:i<32):(nH V own i).Nodup:=by
 rw[List.nodup_iff_count];intro b;by_cases G:b∈nH V own i
 ·have U:=(h.once b (h.rng z G).2).1
  have W:=Hl (T:=V) (own:=own) (b:=b) 32 z;unfold xz at U;omega
 ·rw[List.count_eq_zero.2 G];omega
theorem rB.drop(h:StX X T own ex){i:Nat}(hi:i<32):
  StX (az X (wK X i (nT T i) (own i))) (nW T i ck) (I7 own i []) ex/\pd X (az X (wK X i (nT T i) (own i))) []/\
   (aZ (az X (wK X i (nT T i) (own i)))).length=(aZ X).length+(nH T own i).length/\∀k,k<816->(az X (wK X i (nT T i) (own i))).getD k 0=X.getD k 0:=by
 have ac:=h.nodup hi;have af:∀c∈nH T own i,dG X c=true:=λc W=>h.used hi W
 have ah:∀c∈nH T own i,c≠0/\c<256:=λc W=>h.rng hi W
 obtain⟨g1,g2,g3⟩:=iB (nH T own i) X h.w64 h.len;have gz:=Df (nH T own i) X h.w64 h.len;have ax:∀k,k<816->(az X (cm X (nH T own i))).getD k 0=X.getD k 0:=λk G=>dX _ _ _ λp hp=>by have :=tG _ _ p hp;omega
 have gl:=cj (cm X (nH T own i)) X;have ae:wK X i (nT T i) (own i)=cm X (nH T own i)++jP (824+8*i) (List.replicate 8 0) 8:=rfl;rw[ae,bz];have ar:=sA (Y:=az X (cm X (nH T own i))) ah ac af λc W ak=>g2 c W ak
 generalize az X (cm X (nH T own i))=Y at *;have z:∀k,(az Y (jP (824+8*i) (List.replicate 8 0) 8)).getD k 0=if 824+8*i<=k/\k<824+8*i+8 then 0 else Y.getD k 0:=by
  intro k;by_cases G:824+8*i<=k/\k<824+8*i+8
  ·rw[aB G]
   have au:∀m,m<=8->∀j,j<m->(az Y (jP (824+8*i) (List.replicate 8 0) m)).getD (824+8*i+j) 0=0:=by
    intro m;induction m with
    |zero=>intro _ j V;omega
    |succ m ih=>
     intro hm j V;rw[Ap,bz,lO,aG,jl _ _ _ _ (by rw[cj];have :=h.len;omega)];by_cases e:824+8*i+j=824+8*i+m
     ·rw[aB]
      rw[aj,bj];split<;>rfl
     ·rw[aA]
      exact ih (by omega) j (by omega)
   have :=au 8 (aH _) (k-(824+8*i)) (by omega);rwa[show 824+8*i+(k-(824+8*i))=k by omega] at this
  ·rw[aA G]
   refine dX _ _ _ λp hp=> ?_
   obtain⟨j,V,J,-⟩:=mh hp;omega
 have av:(az Y (jP (824+8*i) (List.replicate 8 0) 8)).length=3128:=by rw[cj,gl,h.len]
 generalize az Y (jP (824+8*i) (List.replicate 8 0) 8)=Z at *;have Ot:=C9 (X:=Y) (Y:=Z) λk G=>by rw[z,aA]
 have Dg:∀k,820<=k->¬(824+8*i<=k/\k<824+8*i+8)->Z.getD k 0=X.getD k 0:=λk G hn=>by rw[z,aA hn,g3 k G]
 have xP:∀k,k<816->Z.getD k 0=X.getD k 0:=λk G=>by rw[z,aA,ax k G]
 have o6:pd X Z []:=λc W ak _ _ j V=>Dg _ (by omega) (by omega)
 have ai:=λj=>pW h.gots.len hi ck j
 refine⟨h.change av ?_ ?_ (by unfold nW;rw[cY];exact h.gots.len) (by unfold nW;rw[cY];exact h.gots.len) (λ_=> .inl rfl) (λj V=> ?_) (λb hb=> ?_) h.exr λj V=> ?_,o6,?_,xP⟩
 ·intro k
  rw[z];split
  ·omega
  ·exact g1 k
 ·exact vI h.sup (λk G=>xP k (by omega)) λk G aC=>Dg k G (by omega)
 ·rw[ai]
  by_cases e:i=j
  ·subst e
   rw[aB rfl,I7,aB rfl];refine .inr ⟨?_,rfl,rfl⟩;unfold dS fT;apply cV (by rw[iF,bE]);intro k ag ay;rw[iF] at ag;have J:=kD Z (824+8*i) k ag;rw[z,aB (by rw[aG] at *;omega)] at J;rw[List.getElem_replicate];rw[aj,aD (by rw[iF];omega),fc] at J;rw[aG];exact J
  ·rw[aA e,I7,aA (cZ e)]
   rcases h.each V with ⟨J,U⟩|⟨J,U,h3⟩
   ·refine .inl ⟨J,U.same (λk G=> ?_) λc W k G=> ?_⟩
    ·rw[aG]
     exact Dg _ (by omega) (by omega)
    ·exact Dg _ (by omega) (by omega)
   ·refine .inr ⟨J.same λk G=> ?_,U,h3⟩
    rw[aG];exact Dg _ (by omega) (by omega)
 ·have J:=(Hk h.gots.len own hi ck [] b 32).2 hi
  have U:=h.once b hb;unfold xz at U ⊢;have e0:([]++dn ck).count b=0:=by
   have :([]++dn ck)=([]:List Nat):=by decide
   rw[this];rfl
  rw[e0] at J;have h4:=ra ac b;rw[Ot.1 b hb];by_cases aa:b=0
  ·subst aa
   have g4:(0:Nat)∉nH T own i:=λh=>(ah 0 h).1 rfl
   rw[aA g4] at h4;rw[gz,show km (nW T i ck) (I7 own i []) 32 0=km T own 32 0 by omega];exact U
  ·have h6:=g2 b hb aa
   by_cases g4:b∈nH T own i
   ·rw[aB g4] at h4
    have h7:=af b g4;have h8:=U.2.1 h7;rw[bu g4,h7] at h6;refine⟨by omega,λh=>by rw[h6] at h;simp at h,λ_=>by omega⟩
   ·rw[aA g4] at h4
    rw[aQ g4] at h6;rw[show dG Y b=dG X b by rw[h6];simp,show km (nW T i ck) (I7 own i []) 32 b=km T own 32 b by omega];exact U
 ·rw[ai]
  by_cases e:i=j
  ·rw[aB e]
   intro hK;simp[ck] at hK
  ·rw[aA e]
   rcases h.each V with ⟨J,U⟩|⟨J,U,h3⟩
   ·exact vH U.len (h.tails j V) λc aF k G=>Dg _ (by omega) (by omega)
   ·rw[U]
    intro hK;simp[ck] at hK
 ·rw[Ot.2,ar]
theorem rB.bits(h:rB X T V own ex)(hl:Y.length=3128)(ac:In64 Y)(aa:lu Y)(z:∀k,824<=k->k<1080->Y.getD k 0=X.getD k 0)
  (G:∀i,i<32->∀c∈own i,∀j,j<8->Y.getD (1080+8*c+j) 0=X.getD (1080+8*c+j) 0) (hu:∀b,b<256->xz V own b+ex'.count b<=1/\(dG Y b=true↔xz V own b+ex'.count b=1)) (hx:∀c∈ex',c≠0/\c<256) (W:∀j,j<32->jX Y (nT V j)):rB Y T V own ex':=by
 refine h.change hl ac aa h.gots.len h.vlen h.vir (λj hj=> ?_) hu hx W;rcases h.each hj with ⟨U,h2⟩|⟨U,h2,h3⟩
 ·refine .inl ⟨U,h2.same (λk J=> ?_) λc hc k J=>G j hj c hc k J⟩
  rw[aG];exact z _ (by omega) (by omega)
 ·refine .inr ⟨U.same λk J=> ?_,h2,h3⟩
  rw[aG];exact z _ (by omega) (by omega)
theorem rB.virLen(h:rB X T V own J){j:Nat}(U:j<32):(nT V j).B.length=13\/nT V j=ck:=by
 rcases h.vir j with z|z
 ·rcases h.each U with ⟨-,G⟩|⟨-,G,-⟩
  ·exact .inl (by rw[z];exact G.len)
  ·exact .inr (by rw[z];exact G)
 ·exact .inr z
theorem rB.tailsKeep(h:rB X T V own W)(hk:pd X Y l){j:Nat}(G:j<32)(hl:∀c∈dn (nT V j),c∉l):jX Y (nT V j):=by
 rcases h.virLen G with J|J
 ·refine vH J (h.tails j G) λc z k uA=> ?_
  have U:=h.rng G (bX _ z);exact hk c U.2 U.1 (h.used G (bX _ z)) (hl c z) k uA
 ·rw[J]
  intro hK;simp[ck] at hK
theorem Rg (l:List Nat):∀(X:List Int),X.length=3128->(∀c∈l,c<256)->∀c∈l,∀j,j<8->(az X (dm X l)).getD (1080+8*c+j) 0=0:=by
 induction l with
 |nil=>intro X _ _ c G;simp at G
 |cons b l ih=>
  intro X hX hr c G j J;have e:dm X (b::l)=(eI X b true++gW b)++dm (az X (eI X b true++gW b)) l:=rfl;rw[e,bz];by_cases z:c∈l
  ·exact ih _ (by rw[cj,hX]) (λc G=>hr c (by simp[G])) c z j J
  ·have V:c=b:=by
    rcases aL.1 G with h|h
    ·exact h
    ·exact absurd h z
   subst V;rw[dX _ _ _ λp hp=> ?_]
   ·rw[bz]
    have W:∀(Y:List Int),Y.length=3128->∀m,m<=8->∀j,j<m->(az Y (nj c m)).getD (1080+8*c+j) 0=0:=by
     intro Y hY m;induction m with
     |zero=>intro _ j J;omega
     |succ m ihm=>
      intro hm j J;have aa:=hr c (by simp);rw[Bh,bz,lO,aG,jl _ _ _ _ (by rw[cj];omega)];by_cases e2:j=m
      ·rw[aB]
      ·rw[aA]
       exact ihm (by omega) j (by omega)
    exact W _ (by rw[cj,hX]) 8 (aH _) j J
   ·rcases qD _ _ p hp with U|U
    ·omega
    ·intro e2
     have :(p.1.toNat-1080)/8=c:=by omega
     rw[this] at U;exact z U.2
theorem rB.take(h:rB X T V own ex)(n:Nat):
  rB (az X (dm X ((aZ X).take n))) T V own (ex++(aZ X).take n)/\pd X (az X (dm X ((aZ X).take n))) []/\(∀c∈(aZ X).take n,∀j,j<8->(az X (dm X ((aZ X).take n))).getD (1080+8*c+j) 0=0)/\
   (aZ (az X (dm X ((aZ X).take n))))=(aZ X).drop n/\∀k,k<816->(az X (dm X ((aZ X).take n))).getD k 0=X.getD k 0:=by
 have hm:∀c∈(aZ X).take n,c≠0/\c<256:=qy;have hn:((aZ X).take n).Nodup:=sx;have po:∀c∈(aZ X).take n,dG X c=false:=λc J=>(ku.1 (bO J)).2.2
 obtain⟨t1,t2,t3⟩:=nP ((aZ X).take n) X h.w64 h.len hm;obtain⟨-,-,t4⟩:=FP h.w64 h.len n;have t5:=Rg ((aZ X).take n) X h.len λc J=>(hm c J).2
 have z:∀k,k<816\/(820<=k/\¬(1080<=k/\(k-1080)/8∈(aZ X).take n))->(az X (dm X ((aZ X).take n))).getD k 0=X.getD k 0:=λk U=>dX _ _ _ λp hp=>by
  rcases qD _ _ p hp with G|G
  ·omega
  ·intro e
   rcases U with W|W
   ·omega
   ·exact W.2 (by rw[<-e];exact G)
 generalize (aZ X).take n=l at *;generalize az X (dm X l)=Y at *;have o6:pd X Y []:=λc J ae hu _ j hj=>z _ (.inr ⟨by omega,λG=>by
  have e:(1080+8*c+j-1080)/8=c:=by omega
  rw[e] at G;rw[po c G.2] at hu;cases hu⟩)
 refine⟨h.bits t2 t1 (vI h.sup (λk U=>z k (.inl (by omega))) λk U ac=>z k (.inr ⟨U,by omega⟩)) (λk U aa=>z k (.inr ⟨by omega,by omega⟩)) (λi hi c J j hj=> ?_) (λb hb=> ?_) (λc J=> ?_) λj hj=>h.tailsKeep o6 hj (by simp),o6,t5,t4,λk U=>z k (.inl U)⟩
 ·have G:=h.rng hi (bV _ J)
  exact o6 c G.2 G.1 (h.used hi (bV _ J)) (by simp) j hj
 ·have W:=h.once b hb
  have h4:=ra hn b;rw[fM,t3 b hb];by_cases g:b∈l
  ·rw[aB g] at h4
   have h5:=po b g;have h6:¬(xz V own b+ex.count b=1):=λe=>by rw[W.2.2 e] at h5;cases h5
   rw[bu g,Bool.or_true];exact⟨by omega,λ_=>by omega,λ_=>rfl⟩
  ·rw[aA g] at h4
   rw[aQ g,Bool.or_false,h4,dC];exact W
 ·rcases aT.1 J with G|G
  ·exact h.exr c G
  ·exact hm c G
theorem rB.give(h:rB X T V own ex)(hl:∀b,b<256->l.count b+ex'.count b=ex.count b)(G:∀c∈l,c≠0/\c<256)(hx:∀c∈ex',c≠0/\c<256):
  rB (az X (cm X l)) T V own ex'/\pd X (az X (cm X l)) []/\(aZ (az X (cm X l))).length=(aZ X).length+l.length/\∀k,k<816\/820<=k->(az X (cm X l)).getD k 0=X.getD k 0:=by
 obtain⟨g1,g2,g3⟩:=iB l X h.w64 h.len;have gz:=Df l X h.w64 h.len;have ac:l.Nodup:=by
  rw[List.nodup_iff_count];intro b;by_cases W:b∈l
  ·have h1:=(h.once b (G b W).2).1
   have h2:=hl b (G b W).2;omega
  ·rw[List.count_eq_zero.2 W];omega
 have ae:∀c∈l,dG X c=true:=λc J=>by
  have h1:=h.once c (G c J).2;have h2:=hl c (G c J).2;have h3:0<l.count c:=List.count_pos_iff.2 J;exact h1.2.2 (by omega)
 have ah:=sA G ac ae λc J ag=>g2 c J ag
 have z:∀k,k<816\/820<=k->(az X (cm X l)).getD k 0=X.getD k 0:=λk hk=>dX _ _ _ λp hp=>by have :=tG _ _ p hp;omega
 have af:(az X (cm X l)).length=3128:=by rw[cj,h.len]
 generalize az X (cm X l)=Y at *;have o6:pd X Y []:=λc J ag hu _ j hj=>z _ (.inr (by omega))
 refine⟨h.bits af g1 (vI h.sup (λk hk=>z k (.inl (by omega))) λk hk aj=>z k (.inr hk)) (λk hk ai=>z k (.inr (by omega))) (λi hi c J j hj=>z _ (.inr (by omega))) (λb W=> ?_) hx λj hj=>h.tailsKeep o6 hj (by simp),o6,ah,z⟩;have h2:=h.once b W;have h3:=hl b W;have h4:=ra ac b;by_cases aa:b=0
 ·subst aa
  have U:(0:Nat)∉l:=λh=>(G 0 h).1 rfl
  rw[aA U] at h4;rw[gz,show ex'.count 0=ex.count 0 by omega];exact h2
 ·have h6:=g2 b W aa
  by_cases U:b∈l
  ·rw[aB U] at h4
   have h7:=ae b U;have h8:=h2.2.1 h7;rw[bu U,h7] at h6;refine⟨by omega,λh=>by rw[h6] at h;simp at h,λ_=>by omega⟩
  ·rw[aA U] at h4
   rw[aQ U] at h6;rw[show dG Y b=dG X b by rw[h6];simp,show ex'.count b=ex.count b by omega];exact h2
theorem rB.words(h:rB X T V own ex){i:Nat}(hi:i<32){qs:List (Int×Int)}(hq:∀p∈qs,1080<=p.1.toNat/\((p.1.toNat-1080)/8∈dn (nT V i)\/(p.1.toNat-1080)/8∈ex))(af:In64 (az X qs))(ht:jX (az X qs) (nT V i)):
  rB (az X qs) T V own ex/\pd X (az X qs) (dn (nT V i)++ex)/\aZ (az X qs)=aZ X/\∀k,k<1080->(az X qs).getD k 0=X.getD k 0:=by
 have z:∀k,k<1080->(az X qs).getD k 0=X.getD k 0:=λk W=>dX _ _ _ λp hp=>by have :=(hq p hp).1;omega
 have G:∀c,c∉dn (nT V i)->c∉ex->∀j,j<8->(az X qs).getD (1080+8*c+j) 0=X.getD (1080+8*c+j) 0:=λc U h2 j J=>dX _ _ _ λp hp e=>by
  have h3:=(hq p hp).2;have e2:(p.1.toNat-1080)/8=c:=by omega
  rw[e2] at h3;rcases h3 with h3|h3
  ·exact U h3
  ·exact h2 h3
 have Ot:=C9 (X:=X) (Y:=az X qs) λk W=>z k (by omega)
 have ac:(az X qs).length=3128:=by rw[cj,h.len]
 generalize az X qs=Y at *;refine⟨h.bits ac af (vI h.sup (λk W=>z k (by omega)) λk W ag=>z k (by omega)) (λk W ae=>z k ae) (λj J c hc k W=> ?_) (λb hb=>by rw[Ot.1 b hb];exact h.once b hb) h.exr λj J=> ?_,λc _ _ _ hn j J=>G c (λh=>hn (bV _ h)) (λh=>hn (bX _ h)) j J,Ot.2,z⟩
 ·refine G c (λU=> ?_) (λU=>h.apartEx J (bV _ hc) U) k W
  by_cases e:j=i
  ·subst e;exact h.inner J hc U
  ·exact h.apart J hi e (bV _ hc) (bX _ U)
 ·by_cases e:j=i
  ·subst e;exact ht
  ·rcases h.virLen J with h2|h2
   ·exact vH h2 (h.tails j J) λc aa k W=>G c (λU=>h.apart J hi e (bX _ aa) (bX _ U)) (λU=>h.apartEx J (bX _ aa) U) k W
   ·rw[h2]
    intro hK;simp[ck] at hK
theorem rB.heads(h:rB X T V own W){qs:List (Int×Int)}(hq:∀p∈qs,p.1=1\/p.1=2)(U:In64 (az X qs))(hs:lu (az X qs)):
  rB (az X qs) T V own W/\pd X (az X qs) []/\aZ (az X qs)=aZ X:=by
 have z:∀k,3<=k->(az X qs).getD k 0=X.getD k 0:=λk hk=>dX _ _ _ λp hp=>by have :=hq p hp;omega
 have G:(az X qs).length=3128:=by rw[cj,h.len]
 have hu:(∀c,c<256->dG (az X qs) c=dG X c):=λc hc=>by
  unfold dG bw;rw[z _ (by omega)]
 have J:aZ (az X qs)=aZ X:=uF λc hc _=>hu c hc
 generalize az X qs=Y at *;have o6:pd X Y []:=λc _ _ _ _ j _=>z _ (by omega)
 exact⟨h.bits G U hs (λk hk _=>z k (by omega)) (λi _ c _ j _=>z _ (by omega)) (λb hb=>by rw[hu b hb];exact h.once b hb) h.exr λj hj=>h.tailsKeep o6 hj (by simp),o6,J⟩
def gN (w:World) (v:Value) (g:Nat) (P:List ByteArray):Prop:=Reads w v g (P.map Value.string)
def lF (P:List ByteArray) (k:Nat):ByteArray:=P.getD k ByteArray.empty
theorem Za (h:k<P.length):lF P k∈P:=by
 have :P.getD k ByteArray.empty=P[k]:=by simp[h]
 rw[lF,this];exact bF h
theorem ab8 (h:k<P.length):P.drop k=lF P k::P.drop (k+1):=by
 have :P.getD k ByteArray.empty=P[k]:=by simp[h]
 rw[fG h,lF,this]
theorem gN.keep{w':World}(h:gN w v g P){l:List Nat}(G:ay l w w')(z:g∉l):gN w' v g P:=Reads.keep h G z
theorem gN.open(h:gN w v g P):∃a cap,v= .slice a P.length cap/\P.length<=cap/\cap<=maxLen/\
  Hid (∀k,k<P.length->g<w.heap.size/\∃off,a=some ⟨g,off,none⟩/\w.cell? ⟨g,off+k,none⟩=some (.string (lF P k))):=by
 obtain⟨a,cap,J,W,V,U⟩:=h;rw[bY] at *;refine⟨a,cap,J,W,V,λk z=> ?_⟩;obtain⟨h5,off,h6,G⟩:=U (by intro e;rw[List.map_eq_nil_iff] at e;rw[e] at z;simp at z);refine⟨h5,off,h6,(G k z).trans ?_⟩;rw[bJ,aD z,lF,aj,aD z];rfl
theorem gN.init{a:Option Addr}{cap:Nat}(h:gN w (.slice a m cap) g P):gN w (.slice a (m-1) cap) g P.dropLast:=by
 obtain⟨a',J,V,h2,h3,W⟩:=h;cases V;rw[bY] at *;refine⟨a,cap,by rw[bY,jg],by rw[bY,jg];omega,h3,λhx=> ?_⟩;have z:P.dropLast≠[]:=λe=>hx (by rw[e];rfl)
 have G:0<P.dropLast.length:=List.length_pos_iff.2 z;rw[jg] at G;obtain⟨h5,off,h6,U⟩:=W (by intro e;rw[List.map_eq_nil_iff] at e;rw[e] at G;simp at G);refine⟨h5,off,h6,λj hj=> ?_⟩;rw[bY,jg] at hj;rw[U j (by omega),bJ,bJ,aD (show j<P.length by omega),aD (show j<P.dropLast.length by rw[jg];omega),List.getElem_dropLast]
theorem Hm (P:List ByteArray):ml P=true↔∀k,k<P.length->iu (bl (lF P k))=true:=by
 unfold ml;rw[eQ];constructor
 ·exact λh k z=>h _ (Za z)
 ·intro h s G
  obtain⟨k,z,rfl⟩:=bW G;have :=h k z;rwa[lF,show P.getD k ByteArray.empty=P[k] by simp[z]] at this
theorem Hn (h:gN w v g P)(hs:∀s∈P,s.size<=9223372036854775807):
  Calls prog 194 #[v] w λe w'=>e=(ml P:Bool)/\w=w':=by
 obtain⟨a,cap,rfl,aa,U,zB⟩:=h.open;have HG:Hid (∀k,k<P.length->∀G,Calls prog 176 #[.string (lF P k)] G λe w'=>e=(iu (bl (lF P k)):Bool)/\G=w'):=λk V G=>KV _ (hs _ (Za V)) G
 have HT:Hid ((∀k,k<P.length->iu (bl (lF P k))=true)->ml P=true):=(Hm P).2;have W:Hid (∀k,k<P.length->iu (bl (lF P k))=false->ml P=false):=λk V hf=>by
  cases e:ml P
  ·rfl
  ·rw[(Hm P).1 e k V] at hf;cases hf
 unfold maxLen at U;clear h hs;generalize ml P=gP,hm:P.length=m at *;clear hm;go_in;go_wp2_with fail;go_loopg [7] m (λgh s7 G=>∃k:Nat,k+gh=m/\s7= .int .i64 (k:Int)/\G=w/\Hid (∀j,j<k->iu (bl (lF P j))=true))
 case atStart=>exact⟨0,by omega,rfl,rfl,λj hj=>by omega⟩
 case round=>
  obtain⟨k,V,rfl,rfl,J⟩:=hrel;cases gk with
  |zero=>
   obtain rfl:k=m:=by omega
   have HR:=ar (HT.out J.out);clear HT W J HG;go_wp2_with fail;go_ret;exact⟨by rw[HR.out];rfl,rfl⟩
  |succ gg=>
   have JK:k<m:=by omega
   have ae:(k:Int)<(m:Int):=by omega
   have cM:(0:Int)<=(k:Int):=by omega
   obtain⟨ac,off,rfl,c0⟩:=zB.out k JK;have z:=ar (HG.out k JK);cases hb:iu (bl (lF P k)) with
   |false=>
    have HR:=ar (W.out k JK hb);rw[hb] at z;clear HT W J HG zB hb;generalize lF P k=nk at *;go_wp2_with fail;refine C' (z.out _) ?_;go_wp2_with fail;go_ret;exact⟨by rw[HR.out];rfl,rfl⟩
   |true=>
    have mA:Hid (∀j,j<k+1->iu (bl (lF P j))=true):=λj hj=>by
     by_cases e:j=k
     ·rw[e];exact hb
     ·exact J.out j (by omega)
    rw[hb] at z;clear HT W J HG zB hb;generalize lF P k=nk at *;go_wp2_with fail;refine C' (z.out _) ?_;go_wp2_with fail;go_roundg gg;case measure=>omega
    case rel=>exact⟨k+1,by omega,by go_num,rfl,mA.out⟩
def wO (w:World) (n:bT) (e:Ending) (w':World):Prop:=
 ay [] w w'/\((n.K=2/\∃v g,e= .returned (.tuple #[aM n v,(0:Int)])/\n.B.length=13/\bD w' v g n.E/\w.heap.size<=g)\/(n.K≠2/\e= .returned (.tuple #[aM ck (.slice none 0 0),(4:Int)])))
theorem BP (h:gU w b gp B ps T own){i:Nat}(hi:i<32)(hF:(nT T i).F≠0):
  Calls prog 196 #[b,(i:Int)] w (wO w (nT T i)):=by
 have cM:ay [] w (w.alloc (.cells (aM ck (.slice none 0 0)) 75)):=(ay.refl _ _).alloc _;have hG:=(h.keep0 cM).get hi;unfold za at hG;obtain⟨HG,CX⟩:=hh2 hG (bh.new w (aM ck (.slice none 0 0)) 75);have rH:=dA;have lU:=ar (aX w (.cells (aM ck (.slice none 0 0)) 75));have HP:Hid (∀e w',wO w (nT T i) e w'->wO w (nT T i) e w'):=λ_ _ h=>h
 have Qy:=ar hF;clear h hF hG;generalize nT T i=n,W:aM ck (.slice none 0 0)=Z0 at *;have jy:=ar W;have Fq:Hid (Z0.size=18):=by show _=_;rw[<-W];rfl
 clear W;obtain⟨W0,J⟩:∃W0,w.alloc (.cells Z0 75)=W0:=⟨_,rfl⟩;rw[J] at HG CX cM lU;obtain⟨ry,fJ⟩:=hh2 J cM;clear J cM;go_in;go_wp2_with fail;rw[ry.out];refine HG.out.mono ?_;rintro e w1 ⟨v,g,va,ga,r,rfl,z,hE,hg,-,-,V,hr⟩;have LD:r=0:=by
  have :=Qy.out;omega
 subst LD;clear hr;obtain⟨w2,p1,p2,p3⟩:=cz (n:=n) (v:=v) (bh.new w1 Z0 75) Fq.out z hE.one;have aa:ay [] W0 w2:=(V.alloc _).trans p3 (by intro x U;rw[au] at U;have :=V.size;omega);obtain⟨jw,rN⟩:=hh2 p1 (cg p2 z);have Ml:bD w2 v g n.E:=hE.keep ((((ay.refl [] w1).alloc _).mono (by simp)).trans' p3) (λh0=>hE.apart (l:=[w1.heap.size]) (λx U=>by rw[au] at U;omega) h0);have c1:w2.cell? ⟨w1.heap.size,1,none⟩=some (.int .i64 n.K):=by rw[p2.cell];exact(gG v z).f1
 obtain⟨fo,rO,HB,UN⟩:=hh4 aa Ml z hg;clear p1 p2 p3 aa Ml hE hg V HG;by_cases hK:n.K=2
 ·obtain⟨w3,q1,q2,q3⟩:=cz (n:=n) (v:=v) (CX.out.keep fo.out (by simp)) Fq.out z rO.out.one
  obtain⟨pq,uJ⟩:=hh2 q1 (cg q2 z);have HF:Hid (wO w n (.returned (.tuple #[aM n v,(0:Int)])) w3):=by
   have h1:=fJ.out.size;have h2:=UN.out;have h3:=lU.out;refine⟨(fJ.out.trans' fo.out).trans q3 (by intro x U;rw[au] at U;omega),.inl ⟨hK,v,g,rfl,z,rO.out.keep q3 (λ_=>by rw[au];omega),by omega⟩⟩
  rw[hK] at c1;clear q1 q2 q3 z hK HP HB;generalize aM n v=ZN at *;go_wp2_with(with_reducible first|refine gS 75 jw.out ?_|refine gL 75 rN.out ?_|refine gS 75 pq.out ?_);exact aI (eG results196 rfl uJ.out rfl) rfl HF.out
 ·obtain⟨w3,q1,q2,q3⟩:=cz (n:=ck) (v:= .slice none 0 0) (CX.out.keep fo.out (by simp)) Fq.out rfl rfl
  have G:=cg q2 rfl;have HF:Hid (wO w n (.returned (.tuple #[aM ck (.slice none 0 0),(4:Int)])) w3):=by
   have h1:=fJ.out.size;have h3:=lU.out;exact⟨(fJ.out.trans' fo.out).trans q3 (by intro x U;rw[au] at U;omega),.inr ⟨hK,rfl⟩⟩
  rw[jy.out] at q1 G HF;obtain⟨pq,uJ⟩:=hh2 q1 G;have bK:(n.K==2)=false:=by simpa using hK
  clear q1 q2 q3 z hK HP HB G;generalize aM n v=ZN,n.K=K at *;go_wp2_with(with_reducible first|refine gS 75 jw.out ?_|refine gS 75 pq.out ?_);exact aI (eG results196 rfl uJ.out rfl) rfl HF.out
structure LL (M:Nat->Nd) (T:List (bT×Value)):Prop where
 tree:dw M
 kind:∀i,(M i).K=(nT T i).K
 ents:∀i,(M i).E=(nT T i).E
 form:∀i,(M i).K≠0->(nT T i).F≠0
theorem Ou {M:Nat->Nd}:∀(p:List ByteArray) (a:Nat),(iP M a p).2≠0->(iP M a p).1=0
 | [],a,h=>absurd rfl h
 |x::p,a,h=>by
  have e:iP M a (x::p)=if (M a).K=2 then (if bg (M a).E x<0 then (0,2) else iP M (bg (M a).E x).toNat p) else (0,4):=rfl
  rw[e] at h ⊢;split at h
  ·next h1=>
   rw[aB h1];split at h
   ·next h2=>rw[aB h2]
   ·next h2=>rw[aA h2];exact Ou p _ h
  ·next h1=>rw[aA h1]
theorem Rh (M:Nat->Nd)(a:Nat)(x:ByteArray)(p:List ByteArray):iP M a (x::p)=if (M a).K=2 then (if bg (M a).E x<0 then (0,2) else iP M (bg (M a).E x).toNat p) else (0,4):=rfl
def Ho (w:World) (r:Nat×Int) (e:Ending) (w':World):Prop:=e= .returned (.tuple #[(r.1:Int),.int .i64 r.2])/\ay [] w w'
theorem Ov (h:gU w b gp B ps T own){M:Nat->Nd}(V:LL M T){v:Value}{g:Nat}{P:List ByteArray}(hP:gN w v g P):
  Calls prog 195 #[b,v] w (Ho w (iP M 0 P)):=by
 obtain⟨a,cap,rfl,aD,az,zB⟩:=hP.open;have HD:Hid (∀x,(M x).K≠0->∀J,ay [] w J->Calls prog 196 #[b,(x:Int)] J (wO J (nT T x))):=λx hx J hk=>
  BP (h.keep0 hk) (V.tree.rng hx) (V.form x hx)
 have qV:Hid (∀x,(M x).K=2->∀J v g s,bD J v g (nT T x).E->(nT T x).B.length=13->Calls prog 162 #[aM (nT T x) v,.string s] J λe w'=>
   ∃(r:Int) (ok:Bool),e= .returned (.tuple #[(r:Int),ok])/\ay [] J w'/\((bg (M x).E s<0/\ok=false)\/(0<=bg (M x).E s/\ok=true/\r=bg (M x).E s))):=λx hx J v g s hE hB=>by
  obtain⟨A,X,B',hs⟩:=lJ (V.tree.rises x) s;have h1:=lK hs λq hq=>(V.tree.lead x q hq).1.1
  rw[V.ents x] at hs;have hl:=h.gots.elen x;refine Rr (S4 (nT T x) hB hE hs (by omega)) λw' hk=> ?_;refine⟨_,_,rfl,hk,?_⟩;rcases Int.lt_or_le (bg (M x).E s) 0 with h2|h2
  ·exact .inl ⟨h2,by rw[h1.1.1 h2];rfl⟩
  ·exact .inr ⟨h2,by rw[h1.2 h2];rfl,by rw[h1.2 h2];rfl⟩
 have af:Hid (∀x k,k<P.length->iP M x (P.drop k)=if (M x).K=2 then (if bg (M x).E (lF P k)<0 then (0,2) else iP M (bg (M x).E (lF P k)).toNat (P.drop (k+1))) else (0,4)):=λx k hk=>by rw[ab8 hk,Rh]
 have ET:Hid (∀x,iP M x (P.drop P.length)=(x,0)):=λx=>by rw[List.drop_length];rfl
 have nE:Hid (∀x s,(M x).K=2->0<=bg (M x).E s->(M (bg (M x).E s).toNat).K≠0/\(((bg (M x).E s).toNat:Nat):Int)=bg (M x).E s):=λx s _ hf=>⟨(iZ V.tree hf).2.1,(iZ V.tree hf).2.2.1⟩
 have PH:Hid (∀x,(nT T x).K=(M x).K):=λx=>(V.kind x).symm
 have h0:Hid (iP M 0 P=iP M 0 (P.drop 0)/\(M 0).K≠0):=⟨rfl,by rw[V.tree.root];omega⟩;have rH:=dA;have z:Hid (∀(r:Nat×Int) w',iP M 0 P=r->ay [] w w'->Ho w (iP M 0 P) (.returned (.tuple #[(r.1:Int),.int .i64 r.2])) w'):=λr w' h1 h2=>by rw[h1];exact⟨rfl,h2⟩
 unfold maxLen at az;clear h V hP;generalize hS:iP M 0 P=S at *;clear hS;generalize hm:P.length=m at *;clear hm;generalize ah:aM ck (.slice none 0 0)=Z0 at *;have jy:=ar ah;have Fq:Hid (Z0.size=18):=by show _=_;rw[<-ah];rfl
 clear ah;go_in;go_wp2_with fail;go_loopg [6,15] m (λgh s6 s15 J=>∃k x:Nat,k+gh=m/\s15= .int .i64 (k:Int)/\s6= .int .i64 (x:Int)/\Hid (ay [] w J)/\Hid (S=iP M x (P.drop k)/\(M x).K≠0))
 case atStart=>exact⟨0,0,by omega,rfl,rfl,ay.refl _ _,h0.out⟩
 case round=>
  clear h0;obtain⟨k,x,hk,rfl,rfl,uf,HP⟩:=hrel;cases gk with
  |zero=>
   obtain rfl:k=m:=by omega
   have HF:=ar (z.out (x,0) _ (HP.out.1.trans (ET.out x)) uf.out);clear HP z ET nE af qV HD zB;go_wp2_with fail;go_ret2;exact HF.out
  |succ gg=>
   have JK:k<m:=by omega
   have aF:(k:Int)<(m:Int):=by omega
   have cM:(0:Int)<=(k:Int):=by omega
   obtain⟨ak,off,rfl,c0⟩:=zB.out k JK;have aG:=(aO (w:=w) (a:=⟨g,off+k,none⟩) (uf.out.block g ak (by simp))).trans c0;obtain⟨ai,G,ag,ac⟩:=hh4 (HD.out x HP.out.2 _ uf.out) (HP.out.1.trans (af.out x k JK)) (qV.out x) (nE.out x (lF P k));have U:=PH.out x;clear HD qV af nE HP ET c0 ak;generalize lF P k=nk,nT T x=n at *;go_wp2_with fail;refine ai.out.mono ?_;rintro e w1 ⟨aa,⟨hK,v,g1,rfl,hB,hE,aC⟩|⟨hK,rfl⟩⟩
   ·obtain⟨w2,p1,p2,p3⟩:=cz (n:=n) (v:=v) (bh.new w1 Z0 75) Fq.out hB hE.one
    obtain⟨jw,rN⟩:=hh2 p1 (cg p2 hB);have Ml:bD w2 v g1 n.E:=hE.keep ((((ay.refl [] w1).alloc _).mono (by simp)).trans' p3) (λh0=>hE.apart (l:=[w1.heap.size]) (λx hx=>by rw[au] at hx;omega) h0);have fo:Hid (ay [] w w2):=(uf.out.trans' aa).trans (((ay.refl [] w1).alloc _).trans p3 (by intro x hx;rw[au] at hx;omega)) (by simp);have aj:=ar (ag.out (U▸hK) w2 v g1 nk Ml hB);have ae:(M x).K=2:=by rw[<-U];exact hK
    rw[aB ae] at G;clear p1 p2 p3 hE Ml hB aC aa ag ai hK U;generalize aM n v=ZN at *;go_wp2_with(with_reducible first|refine gS 75 jw.out ?_|refine gL 75 rN.out ?_);refine aj.out.mono ?_;rintro e w3 ⟨r,ok,rfl,W,⟨hf,rfl⟩|⟨hf,rfl,rfl⟩⟩
    ·have HF:=ar (z.out (0,2) w3 (by rw[G.out,aB hf]) (fo.out.trans' W))
     clear G z ac W hf ae aj;go_wp2_with fail;go_ret2;exact HF.out
    ·obtain⟨av,ax⟩:=ac.out ae hf
     have HN:Hid (ay [] w w3/\S=iP M (bg (M x).E nk).toNat (P.drop (k+1))/\(M (bg (M x).E nk).toNat).K≠0):=⟨fo.out.trans' W,by rw[G.out,aA],av⟩;clear G z ac W hf ae aj av;rw[<-ax];generalize (bg (M x).E nk).toNat=y at *;clear ax;go_wp2_with fail;go_roundg gg;case measure=>omega
     case rel=>exact⟨k+1,y,by omega,by go_num,rfl,HN.out.1,HN.out.2⟩
   ·obtain⟨w2,p1,p2,p3⟩:=cz (n:=ck) (v:= .slice none 0 0) (bh.new w1 Z0 75) Fq.out rfl rfl
    have jw:=ar p1;have fo:Hid (ay [] w w2):=(uf.out.trans' aa).trans (((ay.refl [] w1).alloc _).trans p3 (by intro x hx;rw[au] at hx;omega)) (by simp);have HF:=ar (z.out (0,4) w2 (by rw[G.out,aA (by rw[<-U];exact hK)]) fo.out);clear p1 p2 p3 aa ag ai hK U G z ac;go_wp2_with(with_reducible refine gS 75 jw.out ?_);go_ret2;exact HF.out
theorem Zb (h:gU w b gp B ps T own){M:Nat->Nd}(W:LL M T){v:Value}{g:Nat}{P:List ByteArray}(G:gN w v g P)(U:∀s∈P,s.size<=9223372036854775807):
  Calls prog 165 #[b,v] w (Ho w (cN M P)):=by
 obtain⟨HG,V⟩:=hh2 (Hn G U) (Ov h W G);obtain⟨a,cap,rfl,-,-,-⟩:=G.open;have z:Hid (cN M P=if ml P=true then iP M 0 P else (0,1)):=rfl;clear h W G U;generalize cN M P=R,iP M 0 P=S,ml P=gP at *;cases gP with
 |true=>
  have e:R=S:=z.out;subst e;clear z;go_in;go_wp2_with fail;refine C' HG.out ?_;go_wp2_with fail;refine Rr V.out λw' J=> ?_;have HK:=ar J;clear J;go_wp2_with fail;go_ret2;exact⟨rfl,HK.out⟩
 |false=>
  have e:R=(0,1):=z.out;subst e;clear z V;go_in;go_wp2_with fail;refine C' HG.out ?_;go_wp2_with fail;go_ret2;exact⟨rfl,ay.refl _ _⟩
def rW (w:World) (r:Nat×Int) (nm:ByteArray) (e:Ending) (w':World):Prop:=
 ay [] w w'/\((r.2=0/\e= .returned (.tuple #[(r.1:Int),.string nm,(0:Int)]))\/(r.2≠0/\e= .returned (.tuple #[(0:Int),.string ⟨#[]⟩,.int .i64 r.2])))
def mq (X:List Int) (n:bT) (k:Nat):Int:=if n.B.getD (k/64) 0=0 then 0 else ((rJ (X.getD (1080+8*(n.B.getD (k/64) 0).toNat+k%64/8) 0).toNat (k%8):Nat):Int)
def qc (X:List Int) (n:bT):List Int:=(List.range n.S.toNat).map (mq X n)
def tH (X:List Int) (n:bT):Nd:=⟨n.K,n.L,if n.K=1 then qc X n else [],n.E⟩
theorem Zc (X:List Int):tH X ck=vU:=rfl
theorem Kj (X:List Int)(n:bT)(k:Nat):0<=mq X n k/\mq X n k<256:=by
 unfold mq;split
 ·omega
 ·have :=Cm (X.getD (1080+8*(n.B.getD (k/64) 0).toNat+k%64/8) 0).toNat (k%8)
  omega
theorem nX (X:List Int)(n:bT):(qc X n).length=n.S.toNat:=by simp[qc]
theorem sD (X:List Int)(n:bT){k:Nat}(h:k<n.S.toNat):(qc X n).getD k 0=mq X n k:=by
 simp[qc,h]
theorem BQ (hB:n.B.length=13)(G:n.K=1->n.S<=832)(U:∀c∈dn n,∀j,j<8->Y.getD (1080+8*c+j) 0=X.getD (1080+8*c+j) 0):tH Y n=tH X n:=by
 unfold tH;by_cases h:n.K=1
 ·rw[aB h,aB h]
  have e:qc Y n=qc X n:=by
   unfold qc;apply dP;intro k J;rw[b7] at J;unfold mq;by_cases z:n.B.getD (k/64) 0=0
   ·rw[aB z,aB z]
   ·rw[aA z,aA z]
    have W:=G h;have V:(n.B.getD (k/64) 0).toNat∈dn n:=by
     unfold dn ez;refine bH.2 ⟨n.B.getD (k/64) 0,List.mem_filter.2 ⟨?_,by simpa using z⟩,rfl⟩;rw[aW (by omega),aj,aD (by omega)];exact bF _
    rw[U _ V (k%64/8) (by omega)]
  rw[e]
 ·rw[aA h,aA h]
structure mN (X:List Int) (T:List (bT×Value)) (own:Nat->List Nat) (ex:List Nat) (M:Nat->Nd):Prop where
 st:StX X T own ex
 abs:∀i,M i=tH X (nT T i)
 tree:dw M
theorem tI (h:ct n)(G:n.K=1):0<=n.S/\n.S<=832:=by
 rcases h.2.2 with z|z
 ·exact z.2.1
 ·omega
theorem mN.agree{z:List Nat}(h:mN X T own z M):LL M T:=by
 refine⟨h.tree,λi=>by rw[h.abs];rfl,λi=>by rw[h.abs];rfl,λi J hF=>J ?_⟩;rw[h.abs];show(nT T i).K=0;rcases h.st.gots.form i with ⟨G,-⟩|⟨-,U,-⟩
 ·exact absurd hF G
 ·rw[U];rfl
theorem mN.few(h:mN X T own ex M):ni M:=by
 have W:∀i,ct (nT T i)\/nT T i=ck:=λi=>by
  rcases h.st.gots.form i with ⟨-,-,z⟩|⟨-,U,-⟩
  ·exact .inl z.right
  ·exact .inr U
 refine⟨λi e G=> ?_,λi=> ?_,λi=> ?_,λi x J=> ?_⟩
 ·rw[h.abs] at G
  have G:e∈(nT T i).E:=G;rcases W i with z|z
  ·rcases z.2.2 with ⟨-,U⟩|⟨-,U⟩
   ·have :=List.length_eq_zero_iff.1 U.2.1
    rw[this] at G;simp at G
   ·obtain⟨k,V,rfl⟩:=bW G
    have :=(U.2.2.2 k V).1;rwa[show eX (nT T i).E k=(nT T i).E[k].1 by simp[eX,V]] at this
  ·rw[z] at G;simp[ck] at G
 ·rw[h.abs]
  exact h.st.gots.elen i
 ·rw[h.abs]
  unfold tH
  dsimp only
  split
  ·next hK=>
   rw[nX];rcases W i with z|z
   ·have :=tI z hK;omega
   ·rw[z] at hK;simp[ck] at hK
  ·simp
 ·rw[h.abs] at J
  unfold tH at J
  dsimp only at J
  split at J
  ·obtain⟨k,-,rfl⟩:=bH.1 J
   exact Kj X _ k
  ·simp at J
theorem Ow (h:∀i,M i=tH X (nT T i))(i:Nat):∀k,Kc T k i=lC M k i:=by
 intro k;induction k with
 |zero=>rfl
 |succ k ih=>
  show Kc T k i+zI (nT T k).E (nT T k).E.length i=lC M k i+tE (M k).E i;rw[ih,h k]
  congr 1
  unfold zI tE;rw[gy];rfl
theorem Hp (h:∀i,M i=tH X (nT T i))(hN:Q5 T)(ho:∀i,32<=i->(nT T i).E=[])(i:Nat):Reach T 0 (i:Int)↔kR M 0 i:=by
 constructor
 ·intro hr
  have V:∀x,Reach T 0 x->∃n:Nat,x=(n:Int)/\kR M 0 n:=by
   intro x hx;induction hx with
   |here=>exact⟨0,rfl,.here⟩
   | @step a b _ hb ih=>
    obtain⟨n,rfl,W⟩:=ih;have J:=hN _ b hb;obtain⟨m,rfl⟩:∃m:Nat,b=(m:Int):=⟨b.toNat,by omega⟩;unfold o7 at hb;split at hb
    ·obtain⟨e,U,z⟩:=bH.1 hb
     rw[aG] at U;exact⟨m,rfl,W.step ⟨e,by rw[h];exact U,z⟩⟩
    ·simp at hb
  obtain⟨n,J,h2⟩:=V _ hr;rw[show i=n by omega];exact h2
 ·intro hc
  induction hc with
  |here=>exact .here
  | @step a b _ U ih=>
   obtain⟨e,G,z⟩:=U;rw[h] at G;have G:e∈(nT T a).E:=G;have ha:a<32:=by
    rcases dE a 32 with J|J
    ·exact J
    ·rw[ho a J] at G;simp at G
   refine ih.step ?_;unfold o7;rw[aB,aG];exact bH.2 ⟨e,G,z⟩
theorem BR (h:rI X T own):∀i,32<=i->(nT T i).E=[]:=λi z=>by rw[h.zero z];rfl
theorem mN.free{U:List Nat}(h:mN X T own U M){i:Nat}(W:i<32):dS X (i:Int)↔(M i).K=0:=by
 rw[h.abs];show _↔(nT T i).K=0;rcases h.st.each W with ⟨G,z⟩|⟨G,z,-⟩
 ·refine⟨λJ=>absurd J z.notFree,λJ=> ?_⟩
  rcases z.right.2.2 with V|V<;>omega
 ·exact⟨λ_=>by rw[z];rfl,λ_=>G⟩
theorem mN.points(h:mN X T own [] M):∀j,j<7->tC X T own j:=by
 have U:=λi=>Ow h.abs i 32
 intro j hj;rcases (show j=0\/j=1\/j=2\/j=3\/j=4\/j=5\/j=6 by omega) with rfl|rfl|rfl|rfl|rfl|rfl|rfl
 ·exact h.st.sup
 ·exact h.st.all
 ·refine⟨by have :=h.tree.root;rw[h.abs] at this;exact this,λi G hl J=> ?_⟩
  have z:0<lC M 32 i:=by rw[<-U];exact hl
  obtain⟨a,-,he⟩:=qZ.1 z;exact(h.tree.dir he).2.2.1 ((h.free G).1 J)
 ·intro i G
  have z:=h.tree.links i G;rw[<-U] at z;have e1:(M i).K=(nT T i).K:=by rw[h.abs];rfl
  have W:(M i).L=(nT T i).L:=by rw[h.abs];rfl
  rw[e1,W] at z;exact z
 ·intro i G J
  rw[Hp h.abs h.st.gots.tabN (BR h.st.gots)];exact h.tree.reach i λV=>J ((h.free G).2 V)
 ·intro b hb
  have :=h.st.once b hb;rwa[List.count_nil,dC] at this
 ·exact h.st.tails
theorem aeF (hl:X.length=3128)(ae:In64 X)(V:rI X T own)(hp:∀j,j<7->tC X T own j):∃M,mN X T own [] M:=by
 refine⟨λi=>tH X (nT T i),⟨hl,ae,hp 0 (by omega),V,hp 1 (by omega),λb hb=>by rw[List.count_nil,dC];exact hp 5 (by omega) b hb,by simp,hp 6 (by omega),V.len,λ_=> .inl rfl⟩,λ_=>rfl,?_⟩;have ac:∀i,(λi=>tH X (nT T i)) i=tH X (nT T i):=λ_=>rfl
 have yz:=λi=>Ow ac i 32
 have h2:N6 X T:=hp 2 (by omega);have h3:yr T:=hp 3 (by omega);have h4:He X T:=hp 4 (by omega);have G:∀i:Nat,i<32->(¬dS X (i:Int)↔(nT T i).K≠0):=λi J=>by
  rcases V.form i with ⟨-,-,z⟩|⟨z,h6,-⟩
  ·refine⟨λ_=> ?_,λ_=>z.notFree⟩
   rcases z.right.2.2 with W|W<;>omega
  ·rw[h6]
   refine⟨λW=> ?_,λW=>absurd rfl W⟩;rcases (show wN X T from hp 1 (by omega)) i J with U|U
   ·exact absurd U W
   ·exact absurd z U
 have aa:∀i,32<=i->tH X (nT T i)=vU:=λi J=>by rw[V.zero J];rfl
 refine⟨aa,λi=> ?_,h2.1,λi e he=> ?_,λi=> ?_,λi J=> ?_,λi J=> ?_⟩
 ·rcases V.form i with ⟨-,-,z⟩|⟨-,h6,-⟩
  ·rcases z.right.2.2 with ⟨W,U⟩|⟨W,U⟩
   ·exact .inr (.inl ⟨W,List.length_eq_zero_iff.1 U.2.1⟩)
   ·exact .inr (.inr ⟨W,aA (by rw[W];decide)⟩)
  ·exact .inl (by rw[h6];rfl)
 ·have he:e∈(nT T i).E:=he
  have J:i<32:=by
   rcases dE i 32 with h|h
   ·exact h
   ·rw[BR V i h] at he;simp at he
  have z:=V.tabN (i:Int) e.2 (by
   unfold o7;rw[aB,aG];exact bH.2 ⟨e,he,rfl⟩)
  refine⟨z,?_⟩;have h6:0<lX T e.2.toNat:=by
   unfold lX;rw[yz];exact qZ.2 ⟨i,J,e,he,by omega⟩
  exact(G _ (by omega)).1 (h2.2 _ (by omega) h6)
 ·show yq (nT T i).E
  rcases V.form i with ⟨-,-,z⟩|⟨-,h6,-⟩
  ·rcases z.right.2.2 with ⟨-,U⟩|⟨-,U⟩
   ·rw[List.length_eq_zero_iff.1 U.2.1];exact List.Pairwise.nil
   ·exact J4 U
  ·rw[h6];exact List.Pairwise.nil
 ·have z:=h3 i J
  unfold tB lX at z;rw[yz] at z;exact z
 ·have jD:i<32:=by
   rcases dE i 32 with h|h
   ·exact h
   ·rw[aa i h] at J;exact absurd rfl J
  exact(Hp ac V.tabN (BR V) i).1 (h4 i jD ((G i jD).2 J))
theorem VI (h:Cq xs):aY xs=Qm (xs.map Int.toNat):=by
 rw[Qm,aY,List.map_map];apply dP;intro z G;have :=h z G;simp only[Function.comp_apply];rw[jC this.1]
theorem ab9{gb:Nat}(h:Reads w v gb (aY xs))(z:Cq xs):
  Calls prog 134 #[v] w λe w'=>e= .returned (.int .u32 (Ms (xs.map Int.toNat):Nat))/\ay [] w w':=by
 rw[VI z] at h;exact XS h
def calm (xs:List Int) (d:Int):kp:={ now:=xs,last:=xs,fl:=List.replicate ((xs.length+7)/8*8) false,deeds:=d,fused:=false,left:=0 }
def Dh (n:Nat) (qs:List (Int×Int)):List Bool:=(List.range n).map λi=>qs.any λp=>p.1/8==((i/8:Nat):Int)
def iC (xs:List Int) (ps qs:List (Int×Int)) (d:Int):kp:=
 { now:=az xs ps,last:=xs,fl:=Dh ((xs.length+7)/8*8) qs,deeds:=d,fused:=false,left:=0 }
theorem Ox (n:Nat):Dh n []=List.replicate n false:=by
 apply cE;intro j;simp only[Dh,List.any_nil,bJ,bj];by_cases h:j<n
 ·rw[cC h,aB h];rfl
 ·rw[aP (by simpa using h),aA h];rfl
theorem Te (xs:List Int)(d:Int):calm xs d=iC xs [] [] d:=by simp[calm,iC,Ox,az]
theorem mO{qs:List (Int×Int)}(z:0<=i)(h:i<xs.length):(iC xs ps qs d).refusal i=0:=by
 simp[kp.refusal,kp.gone,iC,cj];omega
theorem I8 (xs:List Int)(ps:List (Int×Int))(d:Int)(i x:Int)(z:0<=i)(h:i<xs.length):(iC xs ps [] d).store i x=iC xs (ps++[(i,x)]) [] (d+1):=by
 rw[kp.store,aB (mO z h)];simp only[iC,kp.count,bz,lO,Ox]
 congr 1
 apply cE;intro j;rw[fh];simp only[bj,bE];split
 ·rename_i e
  subst e;split<;>simp_all
 ·rfl
theorem VJ (n:Nat)(qs:List (Int×Int))(i x:Int)(G:0<=i):Ah (Dh n qs) (i.toNat/8) 8=Dh n (qs++[(i,x)]):=by
 apply cE;intro j;simp only[Ah,Dh,fX,bJ];by_cases z:j<n
 ·rw[cC z]
  simp only[fU,Option.some.injEq,List.any_append,List.any_cons,List.any_nil,Bool.or_false];by_cases h:i.toNat/8*8<=j/\j<i.toNat/8*8+8
  ·rw[aB h]
   have :(i/8==((j/8:Nat):Int))=true:=by simp;omega
   rw[this,Bool.or_true]
  ·rw[aA h]
   have :(i/8==((j/8:Nat):Int))=false:=by simp;omega
   rw[this,Bool.or_false]
 ·rw[aP (by simpa using z)];rfl
theorem VK (n:Nat)(qs:List (Int×Int))(i x:Int)(h:i/8∈iA qs):Dh n (qs++[(i,x)])=Dh n qs:=by
 unfold Dh;apply dP;intro j _;rw[List.any_append];by_cases z:(qs.any λp=>p.1/8==((j/8:Nat):Int))=true
 ·rw[z];rfl
 ·have :(i/8==((j/8:Nat):Int))=false:=by
   rw[cL];intro e;apply z;simp only[iA,bH] at h;obtain⟨p,J,G⟩:=h;exact List.any_eq_true.2 ⟨p,J,by rw[G,e];simp⟩
  simp only[List.any_cons,List.any_nil,this,Bool.or_false]
theorem I9 (xs:List Int)(ps qs:List (Int×Int))(d:Int)(i x:Int)(h:0<=i)(z:i<xs.length):(iC xs ps qs d).flush i=iC xs ps (qs++[(i,x)]) (d+1):=by
 rw[kp.flush,aB (mO h z)];simp only[iC,kp.count,VJ _ _ _ x h];rfl
theorem LM (xs:List Int)(ps qs:List (Int×Int))(d:Int)(i x:Int)(h:i/8∈iA qs):iC xs ps (qs++[(i,x)]) d=iC xs ps qs d:=by
 simp only[iC,VK _ _ _ _ h]
theorem yE (xs:List Int)(ps qs:List (Int×Int))(d:Int)(z:0<=d)(h:d<4611686018427387904):(iC xs ps qs d).fit:=by
 refine⟨z,h,?_,?_⟩<;>simp[iC]
theorem Ja (xs:List Int)(ps:List (Int×Int))(d:Int)(h:∀p∈ps,0<=p.1):(iC xs ps ps d).fence=calm (az xs ps) (d+1)/\(iC xs ps ps d).fenceE=0:=by
 have U:(iC xs ps ps d).gone=false:=rfl;refine⟨?_,by rw[kp.fenceE,U];rfl⟩;rw[kp.fence,U,aA (by simp)];have e1:iI (iC xs ps ps d) (iC xs ps ps d).now.length=az xs ps:=by
  show(xs.mapIdx λj x=>if j<(az xs ps).length/\(Dh ((xs.length+7)/8*8) ps).getD j false=true then (az xs ps).getD j 0 else x)=az xs ps;apply cE;intro j;rw[fX];by_cases J:j<xs.length
  ·have z:j<(az xs ps).length:=by rw[cj];exact J
   rw[aD J,aD z,fU];by_cases G:(Dh ((xs.length+7)/8*8) ps).getD j false=true
   ·rw[aB ⟨z,G⟩,aj,aD z];rfl
   ·rw[aA λe=>G e.2]
    have :=dX ps j xs λp V e=>by
     apply G;have W:=h p V;rw[Dh,aj,bJ,cC (by omega)];simp only[fU,fc,List.any_eq_true];exact⟨p,V,by simp;omega⟩
    rw[aj,aD z,aj,aD J] at this;simp only[fc] at this;rw[this]
  ·rw[aP (by omega),aP (by rw[cj];omega)];rfl
 rw[e1];simp only[iC,kp.count,calm,cj,Dh,bY,fL];rfl
theorem wP (z:0<=i)(h:i<xs.length):(calm xs d).refusal i=0:=by rw[Te];exact mO z h
theorem Kk (z:0<=i)(h:i<xs.length):(calm xs d).load i=xs.getD i.toNat 0:=by rw[kp.load,aB (wP z h)];rfl
theorem ze{gn gl gf:Nat}(h:fx w b gn gl gf (calm xs d))(i:Int)(G:0<=i)(z:i<xs.length):
  Calls prog 55 #[b,i] w λe w'=>e= .returned (.tuple #[.int .u64 (xs.getD i.toNat 0),(0:Int)])/\w=w':=by
 have :=KI h i;rw[wP G z,Kk G z] at this;exact this
theorem Ri (x:Int)(z:0<=x)(w:World):Calls prog 132 #[.int .u64 x] w λe w'=>e=(sI x:Bool)/\w=w':=by
 by_cases h:x<3128
 ·by_cases J:x<8
  ·rw[mr.2 ⟨z,h,.inl J⟩]
   go_in;go_wp2_with fail;go_ret;exact⟨rfl,rfl⟩
  ·by_cases G:816<=x
   ·rw[mr.2 ⟨z,h,.inr G⟩]
    go_in;go_wp2_with fail;go_ret;exact⟨rfl,rfl⟩
   ·rw[show sI x=false by rw[Bool.eq_false_iff,ne_eq,mr];omega]
    go_in;go_wp2_with fail;go_ret;exact⟨rfl,rfl⟩
 ·rw[show sI x=false by rw[Bool.eq_false_iff,ne_eq,mr];omega]
  go_in;go_wp2_with fail;go_ret;exact⟨rfl,rfl⟩
theorem wQ (ws:List Int)(k:Nat):lZ ws (k+1)=(lZ ws k&&sI (ws.getD (2*k) 0)):=by
 simp[lZ,dV,List.all_append]
theorem LN (h:lZ ws k=false)(z:k<=m):lZ ws m=false:=by
 induction m with
 |zero=>obtain rfl:k=0:=by omega
        exact h
 |succ m ih=>
  rw[wQ];by_cases e:k=m+1
  ·subst e
   rw[wQ] at h;exact h
  ·rw[ih (by omega)];rfl
theorem wR (h:Reads w v g (aY ws))(V:Cq ws)(m:Nat)(J:ws.length=2*m)(aa:m<=100000):
  Calls prog 79 #[v] w λe w'=>e=(lZ ws m:Bool)/\w=w':=by
 obtain⟨a,cap,rfl,h1,h2,H3⟩:=fW h;unfold maxLen at h2;obtain⟨HX,HM⟩:=hh2 V J;rw[J] at h1 ⊢;clear h V J;go_in;go_wp2_with fail;go_loopg [3] m (λg s3 wx=>∃k:Nat,k+g=m/\s3= .int .i64 ((2*k:Nat):Int)/\Hid (lZ ws k=true)/\wx=w)
 case atStart=>exact⟨0,by omega,rfl,rfl,rfl⟩
 case round=>
  obtain⟨k,hk,rfl,W,rfl⟩:=hrel;cases gk with
  |zero=>
   obtain rfl:k=m:=by omega
   have U:¬((2*k:Nat):Int)<((2*k:Nat):Int):=by omega
   go_wp2_with fail;go_ret;exact⟨by rw[W.out];rfl,rfl⟩
  |succ gg=>
   have U:((2*k:Nat):Int)<((2*m:Nat):Int):=by omega
   obtain⟨hg,off,rfl,hc⟩:=H3.out (2*k) (by rw[HM.out];omega);obtain⟨z,G⟩:=hh2 (λwz=>Ri (ws.getD (2*k) 0) (A9 HX.out _).1 wz) (wQ ws k);have b0:0<=((2*k:Nat):Int):=by omega
   generalize ws.getD (2*k) 0=x at *;cases hp:sI x
   ·rw[hp] at z G
    clear hp;go_wp2_with(go_at_call 132;refine C' (z.out _) ?_);go_ret;exact⟨by rw[LN (k:=k+1) (by rw[G.out];simp) (by omega)];rfl,rfl⟩
   ·rw[hp] at z G
    clear hp;go_wp2_with(go_at_call 132;refine C' (z.out _) ?_);go_roundg gg;case measure=>omega
    case rel=>exact⟨k+1,by omega,by rw[show((2*(k+1):Nat):Int)=2*(k:Int)+2 by omega],by show lZ ws (k+1)=true;rw[G.out,W.out];rfl,rfl⟩
theorem aca (n s:Nat)(z:n<2147483648)(h:s<4294967296):bits .or .u64 ((n:Int)/2*4294967296) (s:Int)=(((n/2:Nat):Int)*4294967296+(s:Int)):=by
 rw[show(n:Int)/2*4294967296=((n/2*4294967296:Nat):Int) by omega,u64_or_nat _ _ (by omega) (by omega),nat_join 32 _ _ (by exact Nat.mul_mod_left _ _) h];omega
theorem uH (h:Reads w v g (aY ws))(G:Cq ws)(W:ws.length<=100000):
  Calls prog 83 #[v] w λe w'=>e= .returned (.int .u64 (rL ws))/\ay [] w w':=by
 have HS:=ar (ab9 h G);obtain⟨a,cap,rfl,h1,h2,-⟩:=fW h;unfold maxLen at h2;have V:=KF (ws.map Int.toNat);unfold rL;have U:=ar (aca ws.length (Ms (ws.map Int.toNat)) (by omega) V);generalize Ms (ws.map Int.toNat)=s at *;clear h G;generalize ws.length=n at *;go_in;go_wp2_with fail;refine Rr HS.out λw1 z=> ?_;have J:=ar z;clear z;go_wp2_with fail;go_ret;refine⟨?_,J.out⟩;rw[<-U.out];rfl
theorem Rj (h:lQ w v g ps)(W:okP ps)(hn:ps.length<=400):
  Calls prog 78 #[v] w (jJ w (ft ps)):=by
 obtain⟨i0,hi,ag,af,ah⟩:=df Tryz.info_u64;obtain⟨H,rf⟩:=hh2 h W;obtain⟨a,cap,rfl,h1,h2⟩:=h.val;unfold maxLen at h2;have ac:=xL (2*ps.length) (by omega) (2*(ps.length:Int)) (by omega) 0 (.inl rfl) w;rw[Int.natCast_zero] at ac;have HO:Hid ((w.alloc (.cells (madeCells #[.int .u64 0] (2*ps.length)) 70)).ownsRow w.heap.size 70 1 (.slice w.heap.size 0 (2*ps.length)) 0 []):=
  World.ownsRow_made w _ _ (aH _) (by simp[maxLen];omega) (by simp[size_madeCells])
 clear h W;go_in;go_wp2_with fail;go_loopg [3,12] ps.length (λgh s3 s12 wx=>∃k:Nat,k+gh=ps.length/\s12= .int .i64 (k:Int)/\s3= .slice w.heap.size (2*k) (2*ps.length)/\
  Hid (wx.ownsRow w.heap.size 70 1 (.slice w.heap.size (2*k) (2*ps.length)) (2*k) (aY (ft (ps.take k)))/\ay [] w wx))
 case atStart=>exact⟨0,by omega,rfl,rfl,HO.out,(ay.refl _ _).alloc _⟩
 case round=>
  obtain⟨k,hk,rfl,rfl,V⟩:=hrel;cases gk with
  |zero=>
   obtain rfl:k=ps.length:=by omega
   have ae:¬(ps.length:Int)<(ps.length:Int):=by omega
   obtain⟨hr,U⟩:=V.out;rw[aW (aH _)] at hr;obtain⟨g',ho,-⟩:=eZ.of_row hr;have hb:g'=w.heap.size\/ps.length=0:=by
    by_cases e:ps.length=0
    ·exact .inr e
    ·left
     obtain⟨-,⟨_,hv,-,-⟩,-,-⟩:=ho.cell (by omega);cases hv;rfl
   have HM:Hid (jJ w (ft ps) (.returned (.slice w.heap.size (2*ps.length) (2*ps.length))) wr):=by
    rcases hb with rfl|hb
    ·exact⟨_,_,rfl,ho.reads,aH _,U⟩
    ·exact⟨_,w.heap.size,rfl,(ho.anyG (by omega) _).reads,aH _,U⟩
   clear hr ho hb U V;go_wp2_with fail;go_ret;exact HM.out
  |succ gg=>
   have ae:(k:Int)<(ps.length:Int):=by omega
   obtain⟨hg,off,rfl,c0,c1⟩:=(H.out.keep V.out.2 (by simp)).get (j:=k) (by omega);have b1:=Sd rf.out (k:=k) (by omega);have HW:=ar (Co ps k (by omega));generalize iQ ps k=x,l9 ps k=y at *;obtain⟨J,U⟩:=V.out;obtain⟨aa,jr⟩:=hh2 J U;clear J U V;go_wp2_with(at_builtin;refine wpList_append_fits _ rfl _ _ 65 rfl w.heap.size 70 i0 1 underlying65 hi af w.heap.size (2*k) (2*ps.length) _ rfl ((aa.out.alloc _).alloc _) ⟨wr.heap.size+1,0,none⟩ 2 2 [.int .u64 (IntKind.u64.wrap x),.int .u64 y] rfl rfl ?c1 ?c2 (by omega) ?_);case c1=>exact lH _ [_,_] _ _ (by simp)
   case c2=>simp[Value.oneCell']
   intro w1 z G;have jH:Hid (ay [] w w1):=((jr.out.alloc _).alloc _).trans (ay.of_grown (l:=[w.heap.size]) G (by intro q hq;cases hq;simp)) (by simp);have MP:=ar z;clear z G;go_wp2_with fail;go_roundg gg;case measure=>omega
   case rel=>
    refine⟨k+1,by omega,by go_num,rfl,?_,jH.out⟩;have :=MP.out;rw[HW.out,tX];rw[fY] at this;exact this
theorem LO (ws:List Int)(k:Nat)(h:k<ws.length):(nr ws)[k]'(by rw[oo];exact h)=(9+(k:Int),ws.getD k 0):=by
 simp[nr,h]
theorem Zd (h:Reads w v g (aY ws))(hn:ws.length<=800):
  Calls prog 81 #[v] w (kQ w (nr ws)):=by
 have H:=ar h;obtain⟨a,cap,rfl,h1,h2,-⟩:=fW h;unfold maxLen at h2;have aa:=FH ws.length (by omega) (ws.length:Int) rfl w;have G:=FI w ws.length (by omega);rw[show List.replicate ws.length ((0:Int),(0:Int))=dM (0,0) (nr ws) 0 by rw[kJ,oo]] at G;have G:=ar G;generalize madeCells #[Value.int .i64 0,Value.int .u64 0] (ws.length*2)=mc at *;clear h;go_in;go_wp2_with fail;go_loopg [11] ws.length (λgh K3 wx=>∃k:Nat,k+gh=ws.length/\K3= .int .i64 (k:Int)/\
  Hid (eZ wx (.slice w.heap.size ws.length ws.length) w.heap.size 82 2 ws.length (jb (dM (0,0) (nr ws) k))/\ay [] w wx))
 case atStart=>exact⟨0,by omega,rfl,G.out,(ay.refl _ _).alloc _⟩
 case round=>
  obtain⟨k,hk,rfl,z⟩:=hrel;cases gk with
  |zero=>
   obtain rfl:k=ws.length:=by omega
   have V:¬(ws.length:Int)<(ws.length:Int):=by omega
   have HM:Hid (kQ w (nr ws) (.returned (.slice w.heap.size ws.length ws.length)) wr):=by
    obtain⟨ho,fV⟩:=z.out;have e:dM (0,0) (nr ws) ws.length=nr ws:=by
     have :=lR ((0:Int),(0:Int)) (nr ws);rw[oo] at this;exact this
    rw[e] at ho;exact kQ.mk ho (oo ws).symm (aH _) fV
   go_wp2_with fail;go_ret;exact HM.out
  |succ gg=>
   have V:(k:Int)<(ws.length:Int):=by omega
   obtain⟨_,_,hv,-,-,W⟩:=fW (H.out.keep z.out.2 (by simp));cases hv;obtain⟨hg,off,rfl,c0⟩:=W.out k (by omega);have hl:=kT ((0:Int),(0:Int)) (nr ws) k (by rw[oo];omega);rw[oo] at hl;obtain⟨-,-,J,U⟩:=z.out.1.cell (by omega);have d0:=(J (k*2) (by omega)).trans (ny (dM (0,0) (nr ws) k) k (by omega)).1;have d1:=(J (k*2+1) (by omega)).trans (ny (dM (0,0) (nr ws) k) k (by omega)).2;have f0:=U (k*2);have f1:=U (k*2+1);have HE:=ar (kM ((0:Int),(0:Int)) (nr ws) k (by rw[oo];omega) _ (LO ws k (by omega)));generalize iQ (dM (0,0) (nr ws) k) k=o1,l9 (dM (0,0) (nr ws) k) k=o2 at *;obtain⟨HP,jr⟩:=hh2 (z.out.1.pair k (9+(k:Int)) (ws.getD k 0)) z.out.2;generalize ws.getD k 0=x at *;clear J U hl W z;go_wp2_with fail;go_roundg gg;case measure=>omega
   case rel=>
    refine⟨k+1,by omega,by go_num,?_,(jr.out.setCell (.inr (aH _)) _).setCell (.inr (aH _)) _⟩;rw[<-HE.out];exact HP.out
def lG (ws:List Int) (m:Nat):List (Int×Int):=(List.range m).map λk=>(ws.getD (2*k) 0,ws.getD (2*k+1) 0)
theorem nI (ws:List Int)(m:Nat):(lG ws m).length=m:=by simp[lG]
theorem Hq (ws:List Int)(m k:Nat)(h:k<m):(lG ws m)[k]'(by rw[nI];exact h)=(ws.getD (2*k) 0,ws.getD (2*k+1) 0):=by simp[lG]
theorem Rk (h:Reads w v g (aY ws))(m:Nat)(U:ws.length=2*m)(hn:m<=400)(hp:lZ ws m=true):
  Calls prog 148 #[v] w (kQ w (lG ws m)):=by
 have H:=ar h;obtain⟨a,cap,rfl,h1,h2,-⟩:=fW h;unfold maxLen at h2;obtain⟨V,HP⟩:=hh2 U hp;rw[U] at h1 ⊢;have ag:=FH m (by omega) (m:Int) rfl w;have G:=FI w m (by omega);rw[show List.replicate m ((0:Int),(0:Int))=dM (0,0) (lG ws m) 0 by rw[kJ,nI]] at G;have G:=ar G;generalize madeCells #[Value.int .i64 0,Value.int .u64 0] (m*2)=mc at *;clear h U hp;go_in;go_wp2_with fail;go_loopg [11] m (λgh K3 wx=>∃k:Nat,k+gh=m/\K3= .int .i64 (k:Int)/\
  Hid (eZ wx (.slice w.heap.size m m) w.heap.size 82 2 m (jb (dM (0,0) (lG ws m) k))/\ay [] w wx))
 case atStart=>exact⟨0,by omega,rfl,G.out,(ay.refl _ _).alloc _⟩
 case round=>
  obtain⟨k,hk,rfl,z⟩:=hrel;cases gk with
  |zero=>
   obtain rfl:k=m:=by omega
   have ac:¬(k:Int)<(k:Int):=by omega
   have aa:Hid (kQ w (lG ws k) (.returned (.slice w.heap.size k k)) wr):=by
    obtain⟨ho,fV⟩:=z.out;have e:dM (0,0) (lG ws k) k=lG ws k:=by
     have :=lR ((0:Int),(0:Int)) (lG ws k);rw[nI] at this;exact this
    rw[e] at ho;exact kQ.mk ho (nI ws k).symm (aH _) fV
   go_wp2_with fail;go_ret;exact aa.out
  |succ gg=>
   have ac:(k:Int)<(m:Int):=by omega
   obtain⟨_,_,hv,-,-,W⟩:=fW (H.out.keep z.out.2 (by simp));rw[V.out] at hv;cases hv;obtain⟨hg,off,rfl,c0⟩:=W.out (2*k) (by rw[V.out];omega);obtain⟨-,af,ae,c1⟩:=W.out (2*k+1) (by rw[V.out];omega);cases ae;have hx:0<=ws.getD (2*k) 0/\ws.getD (2*k) 0<3128:=by
    have :=mr.1 (eQ.1 HP.out k (by rw[b7];omega));omega
   obtain⟨x0,x1⟩:=hx;have hl:=kT ((0:Int),(0:Int)) (lG ws m) k (by rw[nI];omega);rw[nI] at hl;obtain⟨-,-,J,hf⟩:=z.out.1.cell (by omega);have d0:=(J (k*2) (by omega)).trans (ny (dM (0,0) (lG ws m) k) k (by omega)).1;have d1:=(J (k*2+1) (by omega)).trans (ny (dM (0,0) (lG ws m) k) k (by omega)).2;have f0:=hf (k*2);have f1:=hf (k*2+1);have HE:=ar (kM ((0:Int),(0:Int)) (lG ws m) k (by rw[nI];omega) _ (Hq ws m k (by omega)));generalize iQ (dM (0,0) (lG ws m) k) k=o1,l9 (dM (0,0) (lG ws m) k) k=o2 at *;obtain⟨Md,jr⟩:=hh2 (z.out.1.drew.pair k (ws.getD (2*k) 0) (ws.getD (2*k+1) 0)) z.out.2;generalize ws.getD (2*k) 0=x,ws.getD (2*k+1) 0=y at *;clear J hf hl W z;go_wp2_with fail
   go_region
   go_wp2_with fail;go_roundg gg;case measure=>omega
   case rel=>
    refine⟨k+1,by omega,by go_num,?_,(jr.out.drew.setCell (.inr (aH _)) _).setCell (.inr (aH _)) _⟩;rw[<-HE.out];exact Md.out
def oD (xs:List Int) (m:Nat):List Int:=(List.range m).map λk=>xs.getD (9+k) 0
theorem mP (xs:List Int)(m:Nat):(oD xs m).length=m:=by simp[oD]
theorem LP (xs:List Int)(m k:Nat)(h:k<m):(oD xs m)[k]'(by rw[mP];exact h)=xs.getD (9+k) 0:=by simp[oD]
theorem Ze (xs:List Int)(m k:Nat)(h:k<m):(oD xs m).getD k 0=xs.getD (9+k) 0:=by simp[oD,h]
theorem BS (h:Cq xs)(m:Nat):Cq (oD xs m):=by
 intro x z;simp only[oD,bH] at z;obtain⟨k,-,rfl⟩:=z;exact A9 h _
theorem AO (w:World)(n:Nat)(h:n<=100000):eZ (w.alloc (.cells (madeCells #[.int .u64 0] n) 70)) (.slice w.heap.size n n) w.heap.size 70 1 n (aY (List.replicate n 0)):=by
 refine⟨by simp[aY],_,n,rfl,aH _,by unfold maxLen;omega,λ_=>⟨rfl,_,bh.new _ _ _,by simp[size_madeCells],?_⟩⟩;rw[toList_madeCells_one,Jp,aW (by simp[aY])]
def uv (w:World) (ws:List Int) (e:Ending) (w':World):Prop:=
 ∃v g,e= .returned (.tuple #[v,(0:Int)])/\Reads w' v g (aY ws)/\w.heap.size<=g/\ay [] w w'
def LQ (w:World) (b:Nat) (xs:List Int):Prop:=∀(k:Nat) (h:World),k<3128->ay [] w h->Calls prog 55 #[b,(k:Int)] h λe z=>e= .returned (.tuple #[.int .u64 (xs.getD k 0),(0:Int)])/\h=z
theorem Oy (ot:LQ w b xs)(m:Nat)(hm:m<=800)(M:Int)(hM:M=(m:Int)):
  Calls prog 147 #[b,(9:Int),M] w (uv w (oD xs m)):=by
 subst hM;have EC:=ar ot;have aa:=xL m (by omega) (m:Int) rfl m (.inr rfl) w;have z:=AO w m (by omega);rw[show List.replicate m (0:Int)=dM 0 (oD xs m) 0 by rw[kJ,mP]] at z;have z:=ar z;generalize madeCells #[Value.int .u64 0] m=mc at *;clear ot;go_in;go_wp2_with fail;go_loopg [16] m (λgh s16 wx=>∃k:Nat,k+gh=m/\s16= .int .i64 (k:Int)/\
  Hid (eZ wx (.slice w.heap.size m m) w.heap.size 70 1 m (aY (dM 0 (oD xs m) k))/\ay [] w wx))
 case atStart=>exact⟨0,by omega,rfl,z.out,(ay.refl _ _).alloc _⟩
 case round=>
  obtain⟨k,hk,rfl,h⟩:=hrel;cases gk with
  |zero=>
   obtain rfl:k=m:=by omega
   have U:¬(k:Int)<(k:Int):=by omega
   have J:Hid (uv w (oD xs k) (.returned (.tuple #[.slice w.heap.size k k,(0:Int)])) wr):=by
    obtain⟨ho,fV⟩:=h.out;have e:dM 0 (oD xs k) k=oD xs k:=by
     have :=lR (0:Int) (oD xs k);rw[mP] at this;exact this
    rw[e] at ho;exact⟨_,_,rfl,ho.reads,aH _,fV⟩
   go_wp2_with fail;go_ret2;exact J.out
  |succ gg=>
   have U:(k:Int)<(m:Int):=by omega
   have V:=ar (EC.out (9+k) wr (by omega) h.out.2);rw[show((9+k:Nat):Int)=9+(k:Int) by omega] at V;have hl:=kT (0:Int) (oD xs m) k (by rw[mP];omega);rw[mP] at hl;obtain⟨-,-,W,hf⟩:=h.out.1.cell (by omega);have d0:=(W k (by omega)).trans (dF (l:=dM 0 (oD xs m) k) (by omega));have f0:=hf k;have HE:=ar (kM (0:Int) (oD xs m) k (by rw[mP];omega) _ (LP xs m k (by omega)));generalize (dM 0 (oD xs m) k).getD k 0=o1 at *;have G:=h.out.1.set k (.int .u64 (xs.getD (9+k) 0));rw[lI] at G;obtain⟨G,jr⟩:=hh2 G h.out.2;generalize xs.getD (9+k) 0=x at *;clear W hf hl h;go_wp2_with(go_at_call 55;refine C' V.out ?_);go_roundg gg;case measure=>omega
   case rel=>
    refine⟨k+1,by omega,by go_num,?_,jr.out.setCell (.inr (aH _)) _⟩;rw[<-HE.out];exact G.out
end Go.Proofs.YtimcfdnbpkiniaaGreatDoor
