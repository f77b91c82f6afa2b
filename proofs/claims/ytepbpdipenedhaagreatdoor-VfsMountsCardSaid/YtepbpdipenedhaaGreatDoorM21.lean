/- Lemmas. -/
import Derived.Test.YtepbpdipenedhaaGreatDoorM20
set_option maxHeartbeats 4000000
set_option maxRecDepth 100000
namespace Go.Proofs.YtepbpdipenedhaaGreatDoor
open Go.Proofs.Tryz
open Go.RowKit
variable{B X Y ws xs:List Int}{U ex ex' l:List Nat}{T V:List (bT×Value)}{own:Nat->List Nat}{P:List ByteArray}{b g gp k m:Nat}{w:World}{v:Value}{ps:List (Int×Int)}{n:bT}{M:Nat->Nd}{d i:Int}
def pg (X Y:List Int) (l:List Nat):Prop:=∀c,c<256->c≠0->dF X c=true->c∉l->∀j,j<8->Y.getD (1080+8*c+j) 0=X.getD (1080+8*c+j) 0
theorem vP (h:lq X)(G:∀k,k<8->Y.getD k 0=X.getD k 0)(U:∀k,820<=k->k<824->Y.getD k 0=X.getD k 0):lq Y:=
 ⟨by rw[G 0 (by omega)];exact h.1,by rw[G 1 (by omega)];exact h.2.1,by rw[G 2 (by omega)];exact h.2.2.1,λi J z=>by rw[G i z];exact h.2.2.2.1 i J z,λi J z=>by rw[U i J z];exact h.2.2.2.2 i J z⟩
theorem qY (h:l.Nodup)(b:Nat):l.count b=if b∈l then 1 else 0:=by
 split
 ·next h1=>
  have z:l.count b<=1:=List.nodup_iff_count.1 h b;have G:0<l.count b:=List.count_pos_iff.2 h1;omega
 ·next h1=>exact List.count_eq_zero.2 h1
theorem rA.put(h:rA X T V own ex){i:Nat}(hi:i<32){n:bT}(hB:n.B.length=13)(hR:cm n)
  (hn:dv n<=(aZ (az X (cj X (own i)))).length) {ex':List Nat} (hc:∀b,b<256->(dm n).count b+ex'.count b=(dm (nT V i)).count b+ex.count b) (hx:∀c∈ex',c≠0/\c<256) (ht:j5 X n):
  rA (az X (mi X i n (own i))) (nX T i n) (nX V i n) (Ja own i ((aZ (az X (cj X (own i)))).take (dv n))) ex'/\
   pg X (az X (mi X i n (own i))) (own i)/\(aZ (az X (mi X i n (own i)))).length+dv n=(aZ X).length+(own i).length/\∀k,k<816->(az X (mi X i n (own i))).getD k 0=X.getD k 0:=by
 have U:=abL (i:=(i:Int)) h.w64 h.len hB (by omega) hR hn;rw[aG] at U;have xQ:∀k,k<816->(az X (mi X i n (own i))).getD k 0=X.getD k 0:=λk hk=>dW _ _ _ λp hp=>by
  rcases zb hi hR rfl hn hp with z|z|z<;>omega
 have hz:=Y6 h.w64 h.len (own:=own i) hi hR hn;have ak:∀c∈own i,dF X c=true:=λc hc=>h.used hi (bV _ hc)
 have aj:∀c∈own i,c≠0/\c<256:=λc hc=>h.rng hi (bV _ hc)
 have rq:(own i).Nodup:=by
  rcases h.each hi with ⟨-,z⟩|⟨-,-,z⟩
  ·exact z.nodup
  ·rw[z];exact List.nodup_nil
 have zE:(aZ (az X (mi X i n (own i)))).length+dv n=(aZ X).length+(own i).length:=by
  rw[U.count,sF aj rq ak λc hc ac=>(iD (own i) X h.w64 h.len).2.1 c hc ac]
 generalize (aZ (az X (cj X (own i)))).take (dv n)=o',az X (mi X i n (own i))=Y at *;clear hn;have o7:pg X Y (own i):=λc hc ac hu av j W=>by
  refine U.other _ (by omega) (by rw[aG];omega) λz=> ?_
  have e:(1080+8*c+j-1080)/8=c:=by omega
  rw[e] at z;have G:=U.free c z.2;rw[hu,aQ av] at G;simp at G
 have ax:(nX T i n).length=32:=by unfold nX;rw[cX];exact h.gots.len
 have aa:=λj=>pX h.gots.len hi n j
 -- what lies elsewhere
 have ag:∀j,j<32->j≠i->((nT T j).F≠0/\eH Y (j:Int) (nT T j) (own j))\/(dR Y (j:Int)/\nT T j=cg/\own j=[]):=λj W Qe=>by
  rcases h.each W with ⟨z,G⟩|⟨z,G,h3⟩
  ·refine .inl ⟨z,U.keeps G (by omega) (λc hc=>h.used W (bV _ hc)) λc hc au=> ?_⟩
   exact h.apart W hi Qe (bV _ hc) (bV _ au)
  ·exact .inr ⟨U.free_keeps z (by omega) (by omega),G,h3⟩
 have ar:∀c∈dm n,c≠0/\c<256/\dF X c=true/\c∉own i:=λc J=>by
  have z:=qC hB hR c J;have G:=hc c z.2;have h3:0<(dm n).count c:=List.count_pos_iff.2 J;rcases dY (ex.count c) with h4|h4
  ·have h5:c∈dm (nT V i):=List.count_pos_iff.1 (by omega)
   exact⟨z.1,z.2,h.used hi (bX _ h5),λh6=>h.inner hi h6 h5⟩
  ·have h5:c∈ex:=List.count_pos_iff.1 h4
   exact⟨z.1,z.2,h.usedEx h5,λh6=>h.apartEx hi (bV _ h6) h5⟩
 have af:=λj=>pX h.vlen hi n j
 refine⟨⟨U.len,U.w64,?_,⟨ax,λj W=> ?_⟩,λj W=> ?_,λb hb=> ?_,hx,λj W=> ?_,by unfold nX;rw[cX];exact h.vlen,λj=>by rw[aa,af];split;exact .inl rfl;exact h.vir j⟩,o7,zE,xQ⟩
 ·exact vP h.sup (λk hk=>xQ k (by omega)) λk hk ay=>U.other k hk (by rw[aG];omega) (by omega)
 ·rw[aa]
  by_cases e:i=j
  ·subst e
   rw[aB rfl,Ja,aB rfl];exact .inl U.st
  ·rw[aA e,Ja,aA (cY e)]
   rcases ag j W (cY e) with z|⟨z,G,h3⟩
   ·exact .inl z.2
   ·exact .inr ⟨λ_ _ hs=>hs.notFree z,G,h3⟩
 ·rw[aa]
  by_cases e:i=j
  ·subst e
   rw[aB rfl]
   right
   rcases hR.1 with z|z<;>omega
  ·rw[aA e]
   rcases ag j W (cY e) with z|z
   ·exact .inr z.1
   ·exact .inl z.1
 ·have z:=(Hg h.vlen own hi n o' b 32).2 hi
  have G:=h.once b hb;have h3:=hc b hb;unfold xE at G ⊢;unfold nI at z;rw[fL,fL] at z;have h4:=qY rq b;have h5:=qY U.st.nodup b;by_cases ae:b=0
  ·subst ae
   have g1:(0:Nat)∉own i:=λh=>(aj 0 h).1 rfl
   have g2:(0:Nat)∉o':=λh=>(U.st.mem 0 h).1 rfl
   rw[aA g1] at h4;rw[aA g2] at h5;have e:kr (nX V i n) (Ja own i o') 32 0+ex'.count 0=kr V own 32 0+ex.count 0:=by omega
   rw[hz,e];exact G
  ·have h6:=U.used b hb ae
   by_cases g1:b∈own i
   ·rw[aB g1] at h4
    have h7:=ak b g1;rw[bu g1,h7] at h6;have h8:=G.2.1 h7;by_cases g2:b∈o'
    ·rw[aB g2] at h5
     rw[bu g2] at h6;refine⟨by omega,λ_=>by omega,λ_=>by rw[h6];rfl⟩
    ·rw[aA g2] at h5
     rw[aQ g2] at h6;refine⟨by omega,λh=>by rw[h6] at h;simp at h,λ_=>by omega⟩
   ·rw[aA g1] at h4
    rw[aQ g1] at h6;by_cases g2:b∈o'
    ·rw[aB g2] at h5
     have h7:=U.free b g2;rw[aQ g1] at h7;have h8:dF X b=false:=by simpa using h7
     have h9:¬(kr V own 32 b+ex.count b=1):=λh=>by rw[G.2.2 h] at h8;cases h8
     rw[bu g2] at h6;exact⟨by omega,λ_=>by omega,λ_=>by rw[h6];simp⟩
    ·rw[aA g2] at h5
     rw[aQ g2] at h6;have h7:dF Y b=dF X b:=by rw[h6];simp
     rw[h7];have e:kr (nX V i n) (Ja own i o') 32 b+ex'.count b=kr V own 32 b+ex.count b:=by omega
     rw[e];exact G
 ·rw[af]
  by_cases e:i=j
  ·subst e
   rw[aB rfl];exact vO hB ht λc J k hk=>by
    have :=ar c J;exact o7 c this.2.1 this.1 this.2.2.1 this.2.2.2 k hk
  ·rw[aA e]
   have ai:nT V j=cg->j5 Y (nT V j):=λG=>by
    rw[G];intro hK;simp[cg] at hK
   rcases h.each W with ⟨z,G⟩|⟨z,G,h3⟩
   ·by_cases ah:nT V j=cg
    ·exact ai ah
    have hv:=(h.vir j).resolve_right ah;refine vO (by rw[hv];exact G.len) (h.tails j W) λc J k hk=> ?_
    have h4:=h.rng W (bX _ J);exact o7 c h4.2 h4.1 (h.used W (bX _ J)) (λh5=>h.apart W hi (cY e) (bX _ J) (bV _ h5)) k hk
   ·exact ai ((h.vir j).elim (λhv=>by rw[hv];exact G) id)
theorem rA.change{G h:List (bT×Value)}{J:Nat->List Nat}(_:rA X T V own ex)(hl:Y.length=3128)(W:In64 Y)(ac:lq Y)(hT:G.length=32)(hV:h.length=32)(hv:∀j,nT h j=nT G j\/nT h j=cg)
  (U:∀j:Nat,j<32->((nT G j).F≠0/\eH Y (j:Int) (nT G j) (J j))\/(dR Y (j:Int)/\nT G j=cg/\J j=[]))
  (rq:∀b,b<256->xE h J b+ex'.count b<=1/\(dF Y b=true↔xE h J b+ex'.count b=1)) (hx:∀c∈ex',c≠0/\c<256) (aa:∀j,j<32->j5 Y (nT h j)):rA Y G h J ex':=by
 refine⟨hl,W,ac,⟨hT,λj hj=> ?_⟩,λj hj=> ?_,rq,hx,aa,hV,hv⟩
 ·rcases U j hj with z|⟨z,h2,h3⟩
  ·exact .inl z.2
  ·exact .inr ⟨λ_ _ hs=>hs.notFree z,h2,h3⟩
 ·rcases U j hj with z|z
  ·exact .inr z.1
  ·exact .inl z.1
theorem rA.nodup{J:List Nat}(h:rA X T V own J){i:Nat}(G:i<32):(nI V own i).Nodup:=by
 rw[List.nodup_iff_count];intro b;by_cases z:b∈nI V own i
 ·have U:=(h.once b (h.rng G z).2).1
  have W:=Hh (T:=V) (own:=own) (b:=b) 32 G;unfold xE at U;omega
 ·rw[List.count_eq_zero.2 z];omega
theorem rA.drop(h:StX X T own ex){i:Nat}(hi:i<32):
  StX (az X (wR X i (nT T i) (own i))) (nX T i cg) (Ja own i []) ex/\pg X (az X (wR X i (nT T i) (own i))) []/\
   (aZ (az X (wR X i (nT T i) (own i)))).length=(aZ X).length+(nI T own i).length/\∀k,k<816->(az X (wR X i (nT T i) (own i))).getD k 0=X.getD k 0:=by
 have ah:=h.nodup hi;have ai:∀c∈nI T own i,dF X c=true:=λc W=>h.used hi W
 have af:∀c∈nI T own i,c≠0/\c<256:=λc W=>h.rng hi W
 obtain⟨g1,g2,g3⟩:=iD (nI T own i) X h.w64 h.len;have gz:=C9 (nI T own i) X h.w64 h.len;have av:∀k,k<816->(az X (cj X (nI T own i))).getD k 0=X.getD k 0:=λk G=>dW _ _ _ λp hp=>by have :=tJ _ _ p hp;omega
 have gl:=ct (cj X (nI T own i)) X;have ae:wR X i (nT T i) (own i)=cj X (nI T own i)++jT (824+8*i) (List.replicate 8 0) 8:=rfl;rw[ae,bz];have ax:=sF (Y:=az X (cj X (nI T own i))) af ah ai λc W ac=>g2 c W ac
 generalize az X (cj X (nI T own i))=Y at *;have z:∀k,(az Y (jT (824+8*i) (List.replicate 8 0) 8)).getD k 0=if 824+8*i<=k/\k<824+8*i+8 then 0 else Y.getD k 0:=by
  intro k;by_cases G:824+8*i<=k/\k<824+8*i+8
  ·rw[aB G]
   have au:∀m,m<=8->∀j,j<m->(az Y (jT (824+8*i) (List.replicate 8 0) m)).getD (824+8*i+j) 0=0:=by
    intro m;induction m with
    |zero=>intro _ j V;omega
    |succ m ih=>
     intro hm j V;rw[Ao,bz,oJ,aG,jo _ _ _ _ (by rw[ct];have :=h.len;omega)];by_cases e:824+8*i+j=824+8*i+m
     ·rw[aB]
      rw[aj,bj];split<;>rfl
     ·rw[aA]
      exact ih (by omega) j (by omega)
   have :=au 8 (aH _) (k-(824+8*i)) (by omega);rwa[show 824+8*i+(k-(824+8*i))=k by omega] at this
  ·rw[aA G]
   refine dW _ _ _ λp hp=> ?_
   obtain⟨j,V,U,-⟩:=mg hp;omega
 have ar:(az Y (jT (824+8*i) (List.replicate 8 0) 8)).length=3128:=by rw[ct,gl,h.len]
 generalize az Y (jT (824+8*i) (List.replicate 8 0) 8)=Z at *;have Ot:=C2 (X:=Y) (Y:=Z) λk G=>by rw[z,aA]
 have Da:∀k,820<=k->¬(824+8*i<=k/\k<824+8*i+8)->Z.getD k 0=X.getD k 0:=λk G hn=>by rw[z,aA hn,g3 k G]
 have xQ:∀k,k<816->Z.getD k 0=X.getD k 0:=λk G=>by rw[z,aA,av k G]
 have o7:pg X Z []:=λc W ac _ _ j V=>Da _ (by omega) (by omega)
 have ak:=λj=>pX h.gots.len hi cg j
 refine⟨h.change ar ?_ ?_ (by unfold nX;rw[cX];exact h.gots.len) (by unfold nX;rw[cX];exact h.gots.len) (λ_=> .inl rfl) (λj V=> ?_) (λb hb=> ?_) h.exr λj V=> ?_,o7,?_,xQ⟩
 ·intro k
  rw[z];split
  ·omega
  ·exact g1 k
 ·exact vP h.sup (λk G=>xQ k (by omega)) λk G aF=>Da k G (by omega)
 ·rw[ak]
  by_cases e:i=j
  ·subst e
   rw[aB rfl,Ja,aB rfl];refine .inr ⟨?_,rfl,rfl⟩;unfold dR fS;apply cU (by rw[iG,bE]);intro k ag ay;rw[iG] at ag;have U:=kH Z (824+8*i) k ag;rw[z,aB (by rw[aG] at *;omega)] at U;rw[List.getElem_replicate];rw[aj,aD (by rw[iG];omega),eZ] at U;rw[aG];exact U
  ·rw[aA e,Ja,aA (cY e)]
   rcases h.each V with ⟨U,J⟩|⟨U,J,h3⟩
   ·refine .inl ⟨U,J.same (λk G=> ?_) λc W k G=> ?_⟩
    ·rw[aG]
     exact Da _ (by omega) (by omega)
    ·exact Da _ (by omega) (by omega)
   ·refine .inr ⟨U.same λk G=> ?_,J,h3⟩
    rw[aG];exact Da _ (by omega) (by omega)
 ·have U:=(Hg h.gots.len own hi cg [] b 32).2 hi
  have J:=h.once b hb;unfold xE at J ⊢;have e0:([]++dm cg).count b=0:=by
   have :([]++dm cg)=([]:List Nat):=by decide
   rw[this];rfl
  rw[e0] at U;have h4:=qY ah b;rw[Ot.1 b hb];by_cases aa:b=0
  ·subst aa
   have g4:(0:Nat)∉nI T own i:=λh=>(af 0 h).1 rfl
   rw[aA g4] at h4;rw[gz,show kr (nX T i cg) (Ja own i []) 32 0=kr T own 32 0 by omega];exact J
  ·have h6:=g2 b hb aa
   by_cases g4:b∈nI T own i
   ·rw[aB g4] at h4
    have h7:=ai b g4;have h8:=J.2.1 h7;rw[bu g4,h7] at h6;refine⟨by omega,λh=>by rw[h6] at h;simp at h,λ_=>by omega⟩
   ·rw[aA g4] at h4
    rw[aQ g4] at h6;rw[show dF Y b=dF X b by rw[h6];simp,show kr (nX T i cg) (Ja own i []) 32 b=kr T own 32 b by omega];exact J
 ·rw[ak]
  by_cases e:i=j
  ·rw[aB e]
   intro hK;simp[cg] at hK
  ·rw[aA e]
   rcases h.each V with ⟨U,J⟩|⟨U,J,h3⟩
   ·exact vO J.len (h.tails j V) λc aC k G=>Da _ (by omega) (by omega)
   ·rw[J]
    intro hK;simp[cg] at hK
 ·rw[Ot.2,ax]
theorem rA.bits(h:rA X T V own ex)(hl:Y.length=3128)(aa:In64 Y)(ac:lq Y)(z:∀k,824<=k->k<1080->Y.getD k 0=X.getD k 0)
  (G:∀i,i<32->∀c∈own i,∀j,j<8->Y.getD (1080+8*c+j) 0=X.getD (1080+8*c+j) 0) (hu:∀b,b<256->xE V own b+ex'.count b<=1/\(dF Y b=true↔xE V own b+ex'.count b=1)) (hx:∀c∈ex',c≠0/\c<256) (U:∀j,j<32->j5 Y (nT V j)):rA Y T V own ex':=by
 refine h.change hl aa ac h.gots.len h.vlen h.vir (λj hj=> ?_) hu hx U;rcases h.each hj with ⟨W,h2⟩|⟨W,h2,h3⟩
 ·refine .inl ⟨W,h2.same (λk J=> ?_) λc hc k J=>G j hj c hc k J⟩
  rw[aG];exact z _ (by omega) (by omega)
 ·refine .inr ⟨W.same λk J=> ?_,h2,h3⟩
  rw[aG];exact z _ (by omega) (by omega)
theorem rA.virLen(h:rA X T V own U){j:Nat}(J:j<32):(nT V j).B.length=13\/nT V j=cg:=by
 rcases h.vir j with z|z
 ·rcases h.each J with ⟨-,G⟩|⟨-,G,-⟩
  ·exact .inl (by rw[z];exact G.len)
  ·exact .inr (by rw[z];exact G)
 ·exact .inr z
theorem rA.tailsKeep(h:rA X T V own ex)(W:pg X Y l){j:Nat}(G:j<32)(hl:∀c∈dm (nT V j),c∉l):j5 Y (nT V j):=by
 rcases h.virLen G with J|J
 ·refine vO J (h.tails j G) λc z k uR=> ?_
  have U:=h.rng G (bX _ z);exact W c U.2 U.1 (h.used G (bX _ z)) (hl c z) k uR
 ·rw[J]
  intro hK;simp[cg] at hK
theorem Rg (l:List Nat):∀(X:List Int),X.length=3128->(∀c∈l,c<256)->∀c∈l,∀j,j<8->(az X (dh X l)).getD (1080+8*c+j) 0=0:=by
 induction l with
 |nil=>intro X _ _ c G;simp at G
 |cons b l ih=>
  intro X hX hr c G j J;have e:dh X (b::l)=(eI X b true++gW b)++dh (az X (eI X b true++gW b)) l:=rfl;rw[e,bz];by_cases z:c∈l
  ·exact ih _ (by rw[ct,hX]) (λc G=>hr c (by simp[G])) c z j J
  ·have U:c=b:=by
    rcases aL.1 G with h|h
    ·exact h
    ·exact absurd h z
   subst U;rw[dW _ _ _ λp hp=> ?_]
   ·rw[bz]
    have V:∀(Y:List Int),Y.length=3128->∀m,m<=8->∀j,j<m->(az Y (np c m)).getD (1080+8*c+j) 0=0:=by
     intro Y hY m;induction m with
     |zero=>intro _ j J;omega
     |succ m ihm=>
      intro hm j J;have W:=hr c (by simp);rw[Bc,bz,oJ,aG,jo _ _ _ _ (by rw[ct];omega)];by_cases e2:j=m
      ·rw[aB]
      ·rw[aA]
       exact ihm (by omega) j (by omega)
    exact V _ (by rw[ct,hX]) 8 (aH _) j J
   ·rcases qD _ _ p hp with h1|h1
    ·omega
    ·intro e2
     have :(p.1.toNat-1080)/8=c:=by omega
     rw[this] at h1;exact z h1.2
theorem rA.take(h:rA X T V own ex)(n:Nat):
  rA (az X (dh X ((aZ X).take n))) T V own (ex++(aZ X).take n)/\pg X (az X (dh X ((aZ X).take n))) []/\(∀c∈(aZ X).take n,∀j,j<8->(az X (dh X ((aZ X).take n))).getD (1080+8*c+j) 0=0)/\
   (aZ (az X (dh X ((aZ X).take n))))=(aZ X).drop n/\∀k,k<816->(az X (dh X ((aZ X).take n))).getD k 0=X.getD k 0:=by
 have hm:∀c∈(aZ X).take n,c≠0/\c<256:=qy;have hn:((aZ X).take n).Nodup:=sB;have pq:∀c∈(aZ X).take n,dF X c=false:=λc J=>(kx.1 (bO J)).2.2
 obtain⟨t1,t2,t3⟩:=nQ ((aZ X).take n) X h.w64 h.len hm;obtain⟨-,-,t4⟩:=FN h.w64 h.len n;have t5:=Rg ((aZ X).take n) X h.len λc J=>(hm c J).2
 have z:∀k,k<816\/(820<=k/\¬(1080<=k/\(k-1080)/8∈(aZ X).take n))->(az X (dh X ((aZ X).take n))).getD k 0=X.getD k 0:=λk U=>dW _ _ _ λp hp=>by
  rcases qD _ _ p hp with G|G
  ·omega
  ·intro e
   rcases U with W|W
   ·omega
   ·exact W.2 (by rw[<-e];exact G)
 generalize (aZ X).take n=l at *;generalize az X (dh X l)=Y at *;have o7:pg X Y []:=λc J aa hu _ j hj=>z _ (.inr ⟨by omega,λG=>by
  have e:(1080+8*c+j-1080)/8=c:=by omega
  rw[e] at G;rw[pq c G.2] at hu;cases hu⟩)
 refine⟨h.bits t2 t1 (vP h.sup (λk U=>z k (.inl (by omega))) λk U ae=>z k (.inr ⟨U,by omega⟩)) (λk U ac=>z k (.inr ⟨by omega,by omega⟩)) (λi hi c J j hj=> ?_) (λb hb=> ?_) (λc J=> ?_) λj hj=>h.tailsKeep o7 hj (by simp),o7,t5,t4,λk U=>z k (.inl U)⟩
 ·have G:=h.rng hi (bV _ J)
  exact o7 c G.2 G.1 (h.used hi (bV _ J)) (by simp) j hj
 ·have W:=h.once b hb
  have h4:=qY hn b;rw[fL,t3 b hb];by_cases g:b∈l
  ·rw[aB g] at h4
   have h5:=pq b g;have h6:¬(xE V own b+ex.count b=1):=λe=>by rw[W.2.2 e] at h5;cases h5
   rw[bu g,Bool.or_true];exact⟨by omega,λ_=>by omega,λ_=>rfl⟩
  ·rw[aA g] at h4
   rw[aQ g,Bool.or_false,h4,dB];exact W
 ·rcases aT.1 J with G|G
  ·exact h.exr c G
  ·exact hm c G
theorem rA.give(h:rA X T V own ex)(hl:∀b,b<256->l.count b+ex'.count b=ex.count b)(G:∀c∈l,c≠0/\c<256)(hx:∀c∈ex',c≠0/\c<256):
  rA (az X (cj X l)) T V own ex'/\pg X (az X (cj X l)) []/\(aZ (az X (cj X l))).length=(aZ X).length+l.length/\∀k,k<816\/820<=k->(az X (cj X l)).getD k 0=X.getD k 0:=by
 obtain⟨g1,g2,g3⟩:=iD l X h.w64 h.len;have gz:=C9 l X h.w64 h.len;have ae:l.Nodup:=by
  rw[List.nodup_iff_count];intro b;by_cases J:b∈l
  ·have h1:=(h.once b (G b J).2).1
   have h2:=hl b (G b J).2;omega
  ·rw[List.count_eq_zero.2 J];omega
 have af:∀c∈l,dF X c=true:=λc U=>by
  have h1:=h.once c (G c U).2;have h2:=hl c (G c U).2;have h3:0<l.count c:=List.count_pos_iff.2 U;exact h1.2.2 (by omega)
 have ah:=sF G ae af λc U ac=>g2 c U ac
 have z:∀k,k<816\/820<=k->(az X (cj X l)).getD k 0=X.getD k 0:=λk hk=>dW _ _ _ λp hp=>by have :=tJ _ _ p hp;omega
 have ag:(az X (cj X l)).length=3128:=by rw[ct,h.len]
 generalize az X (cj X l)=Y at *;have o7:pg X Y []:=λc U ac hu _ j hj=>z _ (.inr (by omega))
 refine⟨h.bits ag g1 (vP h.sup (λk hk=>z k (.inl (by omega))) λk hk aj=>z k (.inr hk)) (λk hk ai=>z k (.inr (by omega))) (λi hi c U j hj=>z _ (.inr (by omega))) (λb J=> ?_) hx λj hj=>h.tailsKeep o7 hj (by simp),o7,ah,z⟩;have h2:=h.once b J;have h3:=hl b J;have h4:=qY ae b;by_cases aa:b=0
 ·subst aa
  have W:(0:Nat)∉l:=λh=>(G 0 h).1 rfl
  rw[aA W] at h4;rw[gz,show ex'.count 0=ex.count 0 by omega];exact h2
 ·have h6:=g2 b J aa
  by_cases W:b∈l
  ·rw[aB W] at h4
   have h7:=af b W;have h8:=h2.2.1 h7;rw[bu W,h7] at h6;refine⟨by omega,λh=>by rw[h6] at h;simp at h,λ_=>by omega⟩
  ·rw[aA W] at h4
   rw[aQ W] at h6;rw[show dF Y b=dF X b by rw[h6];simp,show ex'.count b=ex.count b by omega];exact h2
theorem rA.words(h:rA X T V own ex){i:Nat}(hi:i<32){qs:List (Int×Int)}(hq:∀p∈qs,1080<=p.1.toNat/\((p.1.toNat-1080)/8∈dm (nT V i)\/(p.1.toNat-1080)/8∈ex))(ae:In64 (az X qs))(ht:j5 (az X qs) (nT V i)):
  rA (az X qs) T V own ex/\pg X (az X qs) (dm (nT V i)++ex)/\aZ (az X qs)=aZ X/\∀k,k<1080->(az X qs).getD k 0=X.getD k 0:=by
 have z:∀k,k<1080->(az X qs).getD k 0=X.getD k 0:=λk W=>dW _ _ _ λp hp=>by have :=(hq p hp).1;omega
 have J:∀c,c∉dm (nT V i)->c∉ex->∀j,j<8->(az X qs).getD (1080+8*c+j) 0=X.getD (1080+8*c+j) 0:=λc U h2 j G=>dW _ _ _ λp hp e=>by
  have h3:=(hq p hp).2;have e2:(p.1.toNat-1080)/8=c:=by omega
  rw[e2] at h3;rcases h3 with h3|h3
  ·exact U h3
  ·exact h2 h3
 have Ot:=C2 (X:=X) (Y:=az X qs) λk W=>z k (by omega)
 have aa:(az X qs).length=3128:=by rw[ct,h.len]
 generalize az X qs=Y at *;refine⟨h.bits aa ae (vP h.sup (λk W=>z k (by omega)) λk W ag=>z k (by omega)) (λk W af=>z k af) (λj G c hc k W=> ?_) (λb hb=>by rw[Ot.1 b hb];exact h.once b hb) h.exr λj G=> ?_,λc _ _ _ hn j G=>J c (λh=>hn (bV _ h)) (λh=>hn (bX _ h)) j G,Ot.2,z⟩
 ·refine J c (λU=> ?_) (λU=>h.apartEx G (bV _ hc) U) k W
  by_cases e:j=i
  ·subst e;exact h.inner G hc U
  ·exact h.apart G hi e (bV _ hc) (bX _ U)
 ·by_cases e:j=i
  ·subst e;exact ht
  ·rcases h.virLen G with h2|h2
   ·exact vO h2 (h.tails j G) λc ac k W=>J c (λU=>h.apart G hi e (bX _ ac) (bX _ U)) (λU=>h.apartEx G (bX _ ac) U) k W
   ·rw[h2]
    intro hK;simp[cg] at hK
theorem rA.heads(h:rA X T V own ex){qs:List (Int×Int)}(hq:∀p∈qs,p.1=1\/p.1=2)(U:In64 (az X qs))(hs:lq (az X qs)):
  rA (az X qs) T V own ex/\pg X (az X qs) []/\aZ (az X qs)=aZ X:=by
 have z:∀k,3<=k->(az X qs).getD k 0=X.getD k 0:=λk hk=>dW _ _ _ λp hp=>by have :=hq p hp;omega
 have G:(az X qs).length=3128:=by rw[ct,h.len]
 have hu:(∀c,c<256->dF (az X qs) c=dF X c):=λc hc=>by
  unfold dF bw;rw[z _ (by omega)]
 have J:aZ (az X qs)=aZ X:=uJ λc hc _=>hu c hc
 generalize az X qs=Y at *;have o7:pg X Y []:=λc _ _ _ _ j _=>z _ (by omega)
 exact⟨h.bits G U hs (λk hk _=>z k (by omega)) (λi _ c _ j _=>z _ (by omega)) (λb W=>by rw[hu b W];exact h.once b W) h.exr λj hj=>h.tailsKeep o7 hj (by simp),o7,J⟩
def gN (w:World) (v:Value) (g:Nat) (P:List ByteArray):Prop:=Reads w v g (P.map Value.string)
def lG (P:List ByteArray) (k:Nat):ByteArray:=P.getD k ByteArray.empty
theorem Y7 (h:k<P.length):lG P k∈P:=by
 have :P.getD k ByteArray.empty=P[k]:=by simp[h]
 rw[lG,this];exact bG h
theorem ab2 (h:k<P.length):P.drop k=lG P k::P.drop (k+1):=by
 have :P.getD k ByteArray.empty=P[k]:=by simp[h]
 rw[fF h,lG,this]
theorem gN.keep{w':World}(h:gN w v g P){l:List Nat}(z:ay l w w')(G:g∉l):gN w' v g P:=Reads.keep h z G
theorem gN.open(h:gN w v g P):∃a cap,v= .slice a P.length cap/\P.length<=cap/\cap<=maxLen/\
  Hid (∀k,k<P.length->g<w.heap.size/\∃off,a=some ⟨g,off,none⟩/\w.cell? ⟨g,off+k,none⟩=some (.string (lG P k))):=by
 obtain⟨a,cap,h1,h2,J,U⟩:=h;rw[bZ] at *;refine⟨a,cap,h1,h2,J,λk z=> ?_⟩;obtain⟨V,off,G,W⟩:=U (by intro e;rw[List.map_eq_nil_iff] at e;rw[e] at z;simp at z);refine⟨V,off,G,(W k z).trans ?_⟩;rw[bJ,aD z,lG,aj,aD z];rfl
theorem gN.init{a:Option Addr}{cap:Nat}(h:gN w (.slice a m cap) g P):gN w (.slice a (m-1) cap) g P.dropLast:=by
 obtain⟨a',J,h1,h2,V,W⟩:=h;cases h1;rw[bZ] at *;refine⟨a,cap,by rw[bZ,jl],by rw[bZ,jl];omega,V,λhx=> ?_⟩;have G:P.dropLast≠[]:=λe=>hx (by rw[e];rfl)
 have z:0<P.dropLast.length:=List.length_pos_iff.2 G;rw[jl] at z;obtain⟨h5,off,U,h7⟩:=W (by intro e;rw[List.map_eq_nil_iff] at e;rw[e] at z;simp at z);refine⟨h5,off,U,λj hj=> ?_⟩;rw[bZ,jl] at hj;rw[h7 j (by omega),bJ,bJ,aD (show j<P.length by omega),aD (show j<P.dropLast.length by rw[jl];omega),List.getElem_dropLast]
theorem Hj (P:List ByteArray):mj P=true↔∀k,k<P.length->iy (bl (lG P k))=true:=by
 unfold mj;rw[eP];constructor
 ·exact λh k z=>h _ (Y7 z)
 ·intro h s G
  obtain⟨k,z,rfl⟩:=bY G;have :=h k z;rwa[lG,show P.getD k ByteArray.empty=P[k] by simp[z]] at this
theorem Hk (h:gN w v g P)(hs:∀s∈P,s.size<=9223372036854775807):
  Calls prog 180 #[v] w λe w'=>e=(mj P:Bool)/\w=w':=by
 obtain⟨a,cap,rfl,aa,J,zA⟩:=h.open;have W:Hid (∀k,k<P.length->∀G,Calls prog 170 #[.string (lG P k)] G λe w'=>e=(iy (bl (lG P k)):Bool)/\G=w'):=λk V G=>KZ _ (hs _ (Y7 V)) G
 have HT:Hid ((∀k,k<P.length->iy (bl (lG P k))=true)->mj P=true):=(Hj P).2;have HF:Hid (∀k,k<P.length->iy (bl (lG P k))=false->mj P=false):=λk V hf=>by
  cases e:mj P
  ·rfl
  ·rw[(Hj P).1 e k V] at hf;cases hf
 unfold maxLen at J;clear h hs;generalize mj P=gP,hm:P.length=m at *;clear hm;go_in;go_wp2_with fail;go_loopg [7] m (λgh s7 G=>∃k:Nat,k+gh=m/\s7= .int .i64 (k:Int)/\G=w/\Hid (∀j,j<k->iy (bl (lG P j))=true))
 case atStart=>exact⟨0,by omega,rfl,rfl,λj hj=>by omega⟩
 case round=>
  obtain⟨k,V,rfl,rfl,U⟩:=hrel;cases gk with
  |zero=>
   obtain rfl:k=m:=by omega
   have HR:=ar (HT.out U.out);clear HT HF U W;go_wp2_with fail;go_ret;exact⟨by rw[HR.out];rfl,rfl⟩
  |succ gg=>
   have JN:k<m:=by omega
   have ac:(k:Int)<(m:Int):=by omega
   have cJ:(0:Int)<=(k:Int):=by omega
   obtain⟨ae,off,rfl,c0⟩:=zA.out k JN;have z:=ar (W.out k JN);cases hb:iy (bl (lG P k)) with
   |false=>
    have HR:=ar (HF.out k JN hb);rw[hb] at z;clear HT HF U W zA hb;generalize lG P k=nk at *;go_wp2_with fail;refine C' (z.out _) ?_;go_wp2_with fail;go_ret;exact⟨by rw[HR.out];rfl,rfl⟩
   |true=>
    have mZ:Hid (∀j,j<k+1->iy (bl (lG P j))=true):=λj hj=>by
     by_cases e:j=k
     ·rw[e];exact hb
     ·exact U.out j (by omega)
    rw[hb] at z;clear HT HF U W zA hb;generalize lG P k=nk at *;go_wp2_with fail;refine C' (z.out _) ?_;go_wp2_with fail;go_roundg gg;case measure=>omega
    case rel=>exact⟨k+1,by omega,by go_num,rfl,mZ.out⟩
def wV (w:World) (n:bT) (e:Ending) (w':World):Prop:=
 ay [] w w'/\((n.K=2/\∃v g,e= .returned (.tuple #[aM n v,(0:Int)])/\n.B.length=13/\bD w' v g n.E/\w.heap.size<=g)\/(n.K≠2/\e= .returned (.tuple #[aM cg (.slice none 0 0),(4:Int)])))
theorem BM (h:gU w b gp B ps T own){i:Nat}(hi:i<32)(hF:(nT T i).F≠0):
  Calls prog 182 #[b,(i:Int)] w (wV w (nT T i)):=by
 have cJ:ay [] w (w.alloc (.cells (aM cg (.slice none 0 0)) 111)):=(ay.refl _ _).alloc _;have hG:=(h.keep0 cJ).get hi;unfold za at hG;obtain⟨HG,CQ⟩:=hh2 hG (bh.new w (aM cg (.slice none 0 0)) 111);have rG:=dz;have lU:=ar (aX w (.cells (aM cg (.slice none 0 0)) 111));have HP:Hid (∀e w',wV w (nT T i) e w'->wV w (nT T i) e w'):=λ_ _ h=>h
 have Qy:=ar hF;clear h hF hG;generalize nT T i=n,W:aM cg (.slice none 0 0)=Z0 at *;have jt:=ar W;have Fh:Hid (Z0.size=18):=by show _=_;rw[<-W];rfl
 clear W;obtain⟨W0,J⟩:∃W0,w.alloc (.cells Z0 111)=W0:=⟨_,rfl⟩;rw[J] at HG CQ cJ lU;obtain⟨ru,fI⟩:=hh2 J cJ;clear J cJ;go_in;go_wp2_with fail;rw[ru.out];refine HG.out.mono ?_;rintro e w1 ⟨v,g,va,ga,r,rfl,z,hE,hg,-,-,G,hr⟩;have LG:r=0:=by
  have :=Qy.out;omega
 subst LG;clear hr;obtain⟨w2,p1,p2,p3⟩:=cu (n:=n) (v:=v) (bh.new w1 Z0 111) Fh.out z hE.one;have aa:ay [] W0 w2:=(G.alloc _).trans p3 (by intro x V;rw[au] at V;have :=G.size;omega);obtain⟨jz,rN⟩:=hh2 p1 (b9 p2 z);have Mn:bD w2 v g n.E:=hE.keep ((((ay.refl [] w1).alloc _).mono (by simp)).trans' p3) (λh0=>hE.apart (l:=[w1.heap.size]) (λx V=>by rw[au] at V;omega) h0);have c1:w2.cell? ⟨w1.heap.size,1,none⟩=some (.int .i64 n.K):=by rw[p2.cell];exact(gG v z).f1
 obtain⟨fx,rO,HB,UO⟩:=hh4 aa Mn z hg;clear p1 p2 p3 aa Mn hE hg G HG;by_cases hK:n.K=2
 ·obtain⟨w3,q1,q2,q3⟩:=cu (n:=n) (v:=v) (CQ.out.keep fx.out (by simp)) Fh.out z rO.out.one
  obtain⟨py,vE⟩:=hh2 q1 (b9 q2 z);have HF:Hid (wV w n (.returned (.tuple #[aM n v,(0:Int)])) w3):=by
   have h1:=fI.out.size;have h2:=UO.out;have h3:=lU.out;refine⟨(fI.out.trans' fx.out).trans q3 (by intro x V;rw[au] at V;omega),.inl ⟨hK,v,g,rfl,z,rO.out.keep q3 (λ_=>by rw[au];omega),by omega⟩⟩
  rw[hK] at c1;clear q1 q2 q3 z hK HP HB;generalize aM n v=ZN at *;go_wp2_with(with_reducible first|refine gS 111 jz.out ?_|refine gL 111 rN.out ?_|refine gS 111 py.out ?_);exact aI (eG results182 rfl vE.out rfl) rfl HF.out
 ·obtain⟨w3,q1,q2,q3⟩:=cu (n:=cg) (v:= .slice none 0 0) (CQ.out.keep fx.out (by simp)) Fh.out rfl rfl
  have U:=b9 q2 rfl;have HF:Hid (wV w n (.returned (.tuple #[aM cg (.slice none 0 0),(4:Int)])) w3):=by
   have h1:=fI.out.size;have h3:=lU.out;exact⟨(fI.out.trans' fx.out).trans q3 (by intro x V;rw[au] at V;omega),.inr ⟨hK,rfl⟩⟩
  rw[jt.out] at q1 U HF;obtain⟨py,vE⟩:=hh2 q1 U;have bK:(n.K==2)=false:=by simpa using hK
  clear q1 q2 q3 z hK HP HB U;generalize aM n v=ZN,n.K=K at *;go_wp2_with(with_reducible first|refine gS 111 jz.out ?_|refine gS 111 py.out ?_);exact aI (eG results182 rfl vE.out rfl) rfl HF.out
structure LN (M:Nat->Nd) (T:List (bT×Value)):Prop where
 tree:dw M
 kind:∀i,(M i).K=(nT T i).K
 ents:∀i,(M i).E=(nT T i).E
 form:∀i,(M i).K≠0->(nT T i).F≠0
theorem Ou {M:Nat->Nd}:∀(p:List ByteArray) (a:Nat),(iQ M a p).2≠0->(iQ M a p).1=0
 | [],a,h=>absurd rfl h
 |x::p,a,h=>by
  have e:iQ M a (x::p)=if (M a).K=2 then (if bg (M a).E x<0 then (0,2) else iQ M (bg (M a).E x).toNat p) else (0,4):=rfl
  rw[e] at h ⊢;split at h
  ·next h1=>
   rw[aB h1];split at h
   ·next h2=>rw[aB h2]
   ·next h2=>rw[aA h2];exact Ou p _ h
  ·next h1=>rw[aA h1]
theorem Rh (M:Nat->Nd)(a:Nat)(x:ByteArray)(p:List ByteArray):iQ M a (x::p)=if (M a).K=2 then (if bg (M a).E x<0 then (0,2) else iQ M (bg (M a).E x).toNat p) else (0,4):=rfl
def Hl (w:World) (r:Nat×Int) (e:Ending) (w':World):Prop:=e= .returned (.tuple #[(r.1:Int),.int .i64 r.2])/\ay [] w w'
theorem Ov (h:gU w b gp B ps T own){M:Nat->Nd}(V:LN M T){v:Value}{g:Nat}{P:List ByteArray}(hP:gN w v g P):
  Calls prog 181 #[b,v] w (Hl w (iQ M 0 P)):=by
 obtain⟨a,cap,rfl,aD,az,zA⟩:=hP.open;have HD:Hid (∀x,(M x).K≠0->∀J,ay [] w J->Calls prog 182 #[b,(x:Int)] J (wV J (nT T x))):=λx hx J hk=>
  BM (h.keep0 hk) (V.tree.rng hx) (V.form x hx)
 have qT:Hid (∀x,(M x).K=2->∀J v g s,bD J v g (nT T x).E->(nT T x).B.length=13->Calls prog 156 #[aM (nT T x) v,.string s] J λe w'=>
   ∃(r:Int) (ok:Bool),e= .returned (.tuple #[(r:Int),ok])/\ay [] J w'/\((bg (M x).E s<0/\ok=false)\/(0<=bg (M x).E s/\ok=true/\r=bg (M x).E s))):=λx hx J v g s hE hB=>by
  obtain⟨A,X,B',hs⟩:=lL (V.tree.rises x) s;have h1:=lM hs λq hq=>(V.tree.lead x q hq).1.1
  rw[V.ents x] at hs;have hl:=h.gots.elen x;refine Rr (SZ (nT T x) hB hE hs (by omega)) λw' hk=> ?_;refine⟨_,_,rfl,hk,?_⟩;rcases Int.lt_or_le (bg (M x).E s) 0 with h2|h2
  ·exact .inl ⟨h2,by rw[h1.1.1 h2];rfl⟩
  ·exact .inr ⟨h2,by rw[h1.2 h2];rfl,by rw[h1.2 h2];rfl⟩
 have aj:Hid (∀x k,k<P.length->iQ M x (P.drop k)=if (M x).K=2 then (if bg (M x).E (lG P k)<0 then (0,2) else iQ M (bg (M x).E (lG P k)).toNat (P.drop (k+1))) else (0,4)):=λx k hk=>by rw[ab2 hk,Rh]
 have EN:Hid (∀x,iQ M x (P.drop P.length)=(x,0)):=λx=>by rw[List.drop_length];rfl
 have nG:Hid (∀x s,(M x).K=2->0<=bg (M x).E s->(M (bg (M x).E s).toNat).K≠0/\(((bg (M x).E s).toNat:Nat):Int)=bg (M x).E s):=λx s _ hf=>⟨(jb V.tree hf).2.1,(jb V.tree hf).2.2.1⟩
 have PJ:Hid (∀x,(nT T x).K=(M x).K):=λx=>(V.kind x).symm
 have h0:Hid (iQ M 0 P=iQ M 0 (P.drop 0)/\(M 0).K≠0):=⟨rfl,by rw[V.tree.root];omega⟩;have rG:=dz;have z:Hid (∀(r:Nat×Int) w',iQ M 0 P=r->ay [] w w'->Hl w (iQ M 0 P) (.returned (.tuple #[(r.1:Int),.int .i64 r.2])) w'):=λr w' h1 h2=>by rw[h1];exact⟨rfl,h2⟩
 unfold maxLen at az;clear h V hP;generalize hS:iQ M 0 P=S at *;clear hS;generalize hm:P.length=m at *;clear hm;generalize ai:aM cg (.slice none 0 0)=Z0 at *;have jt:=ar ai;have Fh:Hid (Z0.size=18):=by show _=_;rw[<-ai];rfl
 clear ai;go_in;go_wp2_with fail;go_loopg [6,15] m (λgh s6 s15 J=>∃k x:Nat,k+gh=m/\s15= .int .i64 (k:Int)/\s6= .int .i64 (x:Int)/\Hid (ay [] w J)/\Hid (S=iQ M x (P.drop k)/\(M x).K≠0))
 case atStart=>exact⟨0,0,by omega,rfl,rfl,ay.refl _ _,h0.out⟩
 case round=>
  clear h0;obtain⟨k,x,hk,rfl,rfl,um,HP⟩:=hrel;cases gk with
  |zero=>
   obtain rfl:k=m:=by omega
   have HF:=ar (z.out (x,0) _ (HP.out.1.trans (EN.out x)) um.out);clear HP z EN nG aj qT HD zA;go_wp2_with fail;go_ret2;exact HF.out
  |succ gg=>
   have JN:k<m:=by omega
   have aG:(k:Int)<(m:Int):=by omega
   have cJ:(0:Int)<=(k:Int):=by omega
   obtain⟨ax,off,rfl,c0⟩:=zA.out k JN;have aF:=(aO (w:=w) (a:=⟨g,off+k,none⟩) (um.out.block g ax (by simp))).trans c0;obtain⟨ag,G,ah,W⟩:=hh4 (HD.out x HP.out.2 _ um.out) (HP.out.1.trans (aj.out x k JN)) (qT.out x) (nG.out x (lG P k));have U:=PJ.out x;clear HD qT aj nG HP EN c0 ax;generalize lG P k=nk,nT T x=n at *;go_wp2_with fail;refine ag.out.mono ?_;rintro e w1 ⟨ac,⟨hK,v,g1,rfl,hB,hE,aC⟩|⟨hK,rfl⟩⟩
   ·obtain⟨w2,p1,p2,p3⟩:=cu (n:=n) (v:=v) (bh.new w1 Z0 111) Fh.out hB hE.one
    obtain⟨jz,rN⟩:=hh2 p1 (b9 p2 hB);have Mn:bD w2 v g1 n.E:=hE.keep ((((ay.refl [] w1).alloc _).mono (by simp)).trans' p3) (λh0=>hE.apart (l:=[w1.heap.size]) (λx hx=>by rw[au] at hx;omega) h0);have fx:Hid (ay [] w w2):=(um.out.trans' ac).trans (((ay.refl [] w1).alloc _).trans p3 (by intro x hx;rw[au] at hx;omega)) (by simp);have af:=ar (ah.out (U▸hK) w2 v g1 nk Mn hB);have ae:(M x).K=2:=by rw[<-U];exact hK
    rw[aB ae] at G;clear p1 p2 p3 hE Mn hB aC ac ah ag hK U;generalize aM n v=ZN at *;go_wp2_with(with_reducible first|refine gS 111 jz.out ?_|refine gL 111 rN.out ?_);refine af.out.mono ?_;rintro e w3 ⟨r,ok,rfl,aa,⟨hf,rfl⟩|⟨hf,rfl,rfl⟩⟩
    ·have HF:=ar (z.out (0,2) w3 (by rw[G.out,aB hf]) (fx.out.trans' aa))
     clear G z W aa hf ae af;go_wp2_with fail;go_ret2;exact HF.out
    ·obtain⟨av,ak⟩:=W.out ae hf
     have HN:Hid (ay [] w w3/\S=iQ M (bg (M x).E nk).toNat (P.drop (k+1))/\(M (bg (M x).E nk).toNat).K≠0):=⟨fx.out.trans' aa,by rw[G.out,aA],av⟩;clear G z W aa hf ae af av;rw[<-ak];generalize (bg (M x).E nk).toNat=y at *;clear ak;go_wp2_with fail;go_roundg gg;case measure=>omega
     case rel=>exact⟨k+1,y,by omega,by go_num,rfl,HN.out.1,HN.out.2⟩
   ·obtain⟨w2,p1,p2,p3⟩:=cu (n:=cg) (v:= .slice none 0 0) (bh.new w1 Z0 111) Fh.out rfl rfl
    have jz:=ar p1;have fx:Hid (ay [] w w2):=(um.out.trans' ac).trans (((ay.refl [] w1).alloc _).trans p3 (by intro x hx;rw[au] at hx;omega)) (by simp);have HF:=ar (z.out (0,4) w2 (by rw[G.out,aA (by rw[<-U];exact hK)]) fx.out);clear p1 p2 p3 ac ah ag hK U G z W;go_wp2_with(with_reducible refine gS 111 jz.out ?_);go_ret2;exact HF.out
theorem Y8 (h:gU w b gp B ps T own){M:Nat->Nd}(U:LN M T){v:Value}{g:Nat}{P:List ByteArray}(G:gN w v g P)(V:∀s∈P,s.size<=9223372036854775807):
  Calls prog 159 #[b,v] w (Hl w (cM M P)):=by
 obtain⟨W,HW⟩:=hh2 (Hk G V) (Ov h U G);obtain⟨a,cap,rfl,-,-,-⟩:=G.open;have z:Hid (cM M P=if mj P=true then iQ M 0 P else (0,1)):=rfl;clear h U G V;generalize cM M P=R,iQ M 0 P=S,mj P=gP at *;cases gP with
 |true=>
  have e:R=S:=z.out;subst e;clear z;go_in;go_wp2_with fail;refine C' W.out ?_;go_wp2_with fail;refine Rr HW.out λw' J=> ?_;have HK:=ar J;clear J;go_wp2_with fail;go_ret2;exact⟨rfl,HK.out⟩
 |false=>
  have e:R=(0,1):=z.out;subst e;clear z HW;go_in;go_wp2_with fail;refine C' W.out ?_;go_wp2_with fail;go_ret2;exact⟨rfl,ay.refl _ _⟩
def rX (w:World) (r:Nat×Int) (nm:ByteArray) (e:Ending) (w':World):Prop:=
 ay [] w w'/\((r.2=0/\e= .returned (.tuple #[(r.1:Int),.string nm,(0:Int)]))\/(r.2≠0/\e= .returned (.tuple #[(0:Int),.string ⟨#[]⟩,.int .i64 r.2])))
def mo (X:List Int) (n:bT) (k:Nat):Int:=if n.B.getD (k/64) 0=0 then 0 else ((rJ (X.getD (1080+8*(n.B.getD (k/64) 0).toNat+k%64/8) 0).toNat (k%8):Nat):Int)
def qc (X:List Int) (n:bT):List Int:=(List.range n.S.toNat).map (mo X n)
def tK (X:List Int) (n:bT):Nd:=⟨n.K,n.L,if n.K=1 then qc X n else [],n.E⟩
theorem Y9 (X:List Int):tK X cg=wh:=rfl
theorem Km (X:List Int)(n:bT)(k:Nat):0<=mo X n k/\mo X n k<256:=by
 unfold mo;split
 ·omega
 ·have :=Ch (X.getD (1080+8*(n.B.getD (k/64) 0).toNat+k%64/8) 0).toNat (k%8)
  omega
theorem nY (X:List Int)(n:bT):(qc X n).length=n.S.toNat:=by simp[qc]
theorem sH (X:List Int)(n:bT){k:Nat}(h:k<n.S.toNat):(qc X n).getD k 0=mo X n k:=by
 simp[qc,h]
theorem BN (hB:n.B.length=13)(U:n.K=1->n.S<=832)(V:∀c∈dm n,∀j,j<8->Y.getD (1080+8*c+j) 0=X.getD (1080+8*c+j) 0):tK Y n=tK X n:=by
 unfold tK;by_cases h:n.K=1
 ·rw[aB h,aB h]
  have e:qc Y n=qc X n:=by
   unfold qc;apply dM;intro k G;rw[bW] at G;unfold mo;by_cases z:n.B.getD (k/64) 0=0
   ·rw[aB z,aB z]
   ·rw[aA z,aA z]
    have J:=U h;have W:(n.B.getD (k/64) 0).toNat∈dm n:=by
     unfold dm ey;refine bF.2 ⟨n.B.getD (k/64) 0,List.mem_filter.2 ⟨?_,by simpa using z⟩,rfl⟩;rw[aW (by omega),aj,aD (by omega)];exact bG _
    rw[V _ W (k%64/8) (by omega)]
  rw[e]
 ·rw[aA h,aA h]
structure mN (X:List Int) (T:List (bT×Value)) (own:Nat->List Nat) (ex:List Nat) (M:Nat->Nd):Prop where
 st:StX X T own ex
 abs:∀i,M i=tK X (nT T i)
 tree:dw M
theorem tL (h:cm n)(G:n.K=1):0<=n.S/\n.S<=832:=by
 rcases h.2.2 with z|z
 ·exact z.2.1
 ·omega
theorem mN.agree(h:mN X T own U M):LN M T:=by
 refine⟨h.tree,λi=>by rw[h.abs];rfl,λi=>by rw[h.abs];rfl,λi z hF=>z ?_⟩;rw[h.abs];show(nT T i).K=0;rcases h.st.gots.form i with ⟨J,-⟩|⟨-,G,-⟩
 ·exact absurd hF J
 ·rw[G];rfl
theorem mN.few(h:mN X T own ex M):nj M:=by
 have W:∀i,cm (nT T i)\/nT T i=cg:=λi=>by
  rcases h.st.gots.form i with ⟨-,-,z⟩|⟨-,U,-⟩
  ·exact .inl z.right
  ·exact .inr U
 refine⟨λi e G=> ?_,λi=> ?_,λi=> ?_,λi x J=> ?_⟩
 ·rw[h.abs] at G
  have G:e∈(nT T i).E:=G;rcases W i with z|z
  ·rcases z.2.2 with ⟨-,U⟩|⟨-,U⟩
   ·have :=List.length_eq_zero_iff.1 U.2.1
    rw[this] at G;simp at G
   ·obtain⟨k,V,rfl⟩:=bY G
    have :=(U.2.2.2 k V).1;rwa[show eX (nT T i).E k=(nT T i).E[k].1 by simp[eX,V]] at this
  ·rw[z] at G;simp[cg] at G
 ·rw[h.abs]
  exact h.st.gots.elen i
 ·rw[h.abs]
  unfold tK
  dsimp only
  split
  ·next hK=>
   rw[nY];rcases W i with z|z
   ·have :=tL z hK;omega
   ·rw[z] at hK;simp[cg] at hK
  ·simp
 ·rw[h.abs] at J
  unfold tK at J
  dsimp only at J
  split at J
  ·obtain⟨k,-,rfl⟩:=bF.1 J
   exact Km X _ k
  ·simp at J
theorem Ow (h:∀i,M i=tK X (nT T i))(i:Nat):∀k,Kg T k i=lC M k i:=by
 intro k;induction k with
 |zero=>rfl
 |succ k ih=>
  show Kg T k i+zH (nT T k).E (nT T k).E.length i=lC M k i+tH (M k).E i;rw[ih,h k]
  congr 1
  unfold zH tH;rw[gy];rfl
theorem Hm (h:∀i,M i=tK X (nT T i))(hN:Q5 T)(ho:∀i,32<=i->(nT T i).E=[])(i:Nat):Reach T 0 (i:Int)↔kS M 0 i:=by
 constructor
 ·intro W
  have V:∀x,Reach T 0 x->∃n:Nat,x=(n:Int)/\kS M 0 n:=by
   intro x hx;induction hx with
   |here=>exact⟨0,rfl,.here⟩
   | @step a b _ hb ih=>
    obtain⟨n,rfl,hn⟩:=ih;have J:=hN _ b hb;obtain⟨m,rfl⟩:∃m:Nat,b=(m:Int):=⟨b.toNat,by omega⟩;unfold o8 at hb;split at hb
    ·obtain⟨e,U,z⟩:=bF.1 hb
     rw[aG] at U;exact⟨m,rfl,hn.step ⟨e,by rw[h];exact U,z⟩⟩
    ·simp at hb
  obtain⟨n,J,h2⟩:=V _ W;rw[show i=n by omega];exact h2
 ·intro hc
  induction hc with
  |here=>exact .here
  | @step a b _ U ih=>
   obtain⟨e,G,z⟩:=U;rw[h] at G;have G:e∈(nT T a).E:=G;have ha:a<32:=by
    rcases dE a 32 with J|J
    ·exact J
    ·rw[ho a J] at G;simp at G
   refine ih.step ?_;unfold o8;rw[aB,aG];exact bF.2 ⟨e,G,z⟩
theorem BO (h:rH X T own):∀i,32<=i->(nT T i).E=[]:=λi z=>by rw[h.zero z];rfl
theorem mN.free{V:List Nat}(h:mN X T own V M){i:Nat}(W:i<32):dR X (i:Int)↔(M i).K=0:=by
 rw[h.abs];show _↔(nT T i).K=0;rcases h.st.each W with ⟨J,z⟩|⟨J,z,-⟩
 ·refine⟨λG=>absurd G z.notFree,λG=> ?_⟩
  rcases z.right.2.2 with U|U<;>omega
 ·exact⟨λ_=>by rw[z];rfl,λ_=>J⟩
theorem mN.points(h:mN X T own [] M):∀j,j<7->tF X T own j:=by
 have U:=λi=>Ow h.abs i 32
 intro j hj;rcases (show j=0\/j=1\/j=2\/j=3\/j=4\/j=5\/j=6 by omega) with rfl|rfl|rfl|rfl|rfl|rfl|rfl
 ·exact h.st.sup
 ·exact h.st.all
 ·refine⟨by have :=h.tree.root;rw[h.abs] at this;exact this,λi G V J=> ?_⟩
  have z:0<lC M 32 i:=by rw[<-U];exact V
  obtain⟨a,-,W⟩:=qX.1 z;exact(h.tree.dir W).2.2.1 ((h.free G).1 J)
 ·intro i G
  have z:=h.tree.links i G;rw[<-U] at z;have e1:(M i).K=(nT T i).K:=by rw[h.abs];rfl
  have e2:(M i).L=(nT T i).L:=by rw[h.abs];rfl
  rw[e1,e2] at z;exact z
 ·intro i G J
  rw[Hm h.abs h.st.gots.tabN (BO h.st.gots)];exact h.tree.reach i λh0=>J ((h.free G).2 h0)
 ·intro b hb
  have :=h.st.once b hb;rwa[List.count_nil,dB] at this
 ·exact h.st.tails
theorem aez (hl:X.length=3128)(ae:In64 X)(W:rH X T own)(hp:∀j,j<7->tF X T own j):∃M,mN X T own [] M:=by
 refine⟨λi=>tK X (nT T i),⟨hl,ae,hp 0 (by omega),W,hp 1 (by omega),λb hb=>by rw[List.count_nil,dB];exact hp 5 (by omega) b hb,by simp,hp 6 (by omega),W.len,λ_=> .inl rfl⟩,λ_=>rfl,?_⟩;have ac:∀i,(λi=>tK X (nT T i)) i=tK X (nT T i):=λ_=>rfl
 have yB:=λi=>Ow ac i 32
 have h2:N6 X T:=hp 2 (by omega);have h3:yu T:=hp 3 (by omega);have h4:Hb X T:=hp 4 (by omega);have G:∀i:Nat,i<32->(¬dR X (i:Int)↔(nT T i).K≠0):=λi J=>by
  rcases W.form i with ⟨-,-,z⟩|⟨z,h6,-⟩
  ·refine⟨λ_=> ?_,λ_=>z.notFree⟩
   rcases z.right.2.2 with V|V<;>omega
  ·rw[h6]
   refine⟨λV=> ?_,λV=>absurd rfl V⟩;rcases (show wU X T from hp 1 (by omega)) i J with U|U
   ·exact absurd U V
   ·exact absurd z U
 have aa:∀i,32<=i->tK X (nT T i)=wh:=λi J=>by rw[W.zero J];rfl
 refine⟨aa,λi=> ?_,h2.1,λi e he=> ?_,λi=> ?_,λi J=> ?_,λi J=> ?_⟩
 ·rcases W.form i with ⟨-,-,z⟩|⟨-,h6,-⟩
  ·rcases z.right.2.2 with ⟨V,U⟩|⟨V,U⟩
   ·exact .inr (.inl ⟨V,List.length_eq_zero_iff.1 U.2.1⟩)
   ·exact .inr (.inr ⟨V,aA (by rw[V];decide)⟩)
  ·exact .inl (by rw[h6];rfl)
 ·have he:e∈(nT T i).E:=he
  have J:i<32:=by
   rcases dE i 32 with h|h
   ·exact h
   ·rw[BO W i h] at he;simp at he
  have z:=W.tabN (i:Int) e.2 (by
   unfold o8;rw[aB,aG];exact bF.2 ⟨e,he,rfl⟩)
  refine⟨z,?_⟩;have h6:0<lX T e.2.toNat:=by
   unfold lX;rw[yB];exact qX.2 ⟨i,J,e,he,by omega⟩
  exact(G _ (by omega)).1 (h2.2 _ (by omega) h6)
 ·show yt (nT T i).E
  rcases W.form i with ⟨-,-,z⟩|⟨-,h6,-⟩
  ·rcases z.right.2.2 with ⟨-,U⟩|⟨-,U⟩
   ·rw[List.length_eq_zero_iff.1 U.2.1];exact List.Pairwise.nil
   ·exact J7 U
  ·rw[h6];exact List.Pairwise.nil
 ·have z:=h3 i J
  unfold tE lX at z;rw[yB] at z;exact z
 ·have jG:i<32:=by
   rcases dE i 32 with h|h
   ·exact h
   ·rw[aa i h] at J;exact absurd rfl J
  exact(Hm ac W.tabN (BO W) i).1 (h4 i jG ((G i jG).2 J))
theorem VI (h:Ev xs):aY xs=Qm (xs.map Int.toNat):=by
 rw[Qm,aY,List.map_map];apply dM;intro z G;have :=h z G;simp only[Function.comp_apply];rw[jF this.1]
theorem ab3{gb:Nat}(h:Reads w v gb (aY xs))(z:Ev xs):
  Calls prog 124 #[v] w λe w'=>e= .returned (.int .u32 (Mu (xs.map Int.toNat):Nat))/\ay [] w w':=by
 rw[VI z] at h;exact XP h
def calm (xs:List Int) (d:Int):iV:={ now:=xs,last:=xs,fl:=List.replicate ((xs.length+7)/8*8) false,deeds:=d,fused:=false,left:=0 }
def Db (n:Nat) (qs:List (Int×Int)):List Bool:=(List.range n).map λi=>qs.any λp=>p.1/8==((i/8:Nat):Int)
def iE (xs:List Int) (ps qs:List (Int×Int)) (d:Int):iV:=
 { now:=az xs ps,last:=xs,fl:=Db ((xs.length+7)/8*8) qs,deeds:=d,fused:=false,left:=0 }
theorem Ox (n:Nat):Db n []=List.replicate n false:=by
 apply cD;intro j;simp only[Db,List.any_nil,bJ,bj];by_cases h:j<n
 ·rw[cB h,aB h];rfl
 ·rw[aP (by simpa using h),aA h];rfl
theorem Td (xs:List Int)(d:Int):calm xs d=iE xs [] [] d:=by simp[calm,iE,Ox,az]
theorem mO{qs:List (Int×Int)}(z:0<=i)(h:i<xs.length):(iE xs ps qs d).refusal i=0:=by
 simp[iV.refusal,iV.gone,iE,ct];omega
theorem Jb (xs:List Int)(ps:List (Int×Int))(d:Int)(i x:Int)(z:0<=i)(h:i<xs.length):(iE xs ps [] d).store i x=iE xs (ps++[(i,x)]) [] (d+1):=by
 rw[iV.store,aB (mO z h)];simp only[iE,iV.count,bz,oJ,Ox]
 congr 1
 apply cD;intro j;rw[eT];simp only[bj,bE];split
 ·rename_i e
  subst e;split<;>simp_all
 ·rfl
theorem VJ (n:Nat)(qs:List (Int×Int))(i x:Int)(G:0<=i):Ag (Db n qs) (i.toNat/8) 8=Db n (qs++[(i,x)]):=by
 apply cD;intro j;simp only[Ag,Db,fX,bJ];by_cases z:j<n
 ·rw[cB z]
  simp only[fT,Option.some.injEq,List.any_append,List.any_cons,List.any_nil,Bool.or_false];by_cases h:i.toNat/8*8<=j/\j<i.toNat/8*8+8
  ·rw[aB h]
   have :(i/8==((j/8:Nat):Int))=true:=by simp;omega
   rw[this,Bool.or_true]
  ·rw[aA h]
   have :(i/8==((j/8:Nat):Int))=false:=by simp;omega
   rw[this,Bool.or_false]
 ·rw[aP (by simpa using z)];rfl
theorem VK (n:Nat)(qs:List (Int×Int))(i x:Int)(h:i/8∈iC qs):Db n (qs++[(i,x)])=Db n qs:=by
 unfold Db;apply dM;intro j _;rw[List.any_append];by_cases z:(qs.any λp=>p.1/8==((j/8:Nat):Int))=true
 ·rw[z];rfl
 ·have :(i/8==((j/8:Nat):Int))=false:=by
   rw[cP];intro e;apply z;simp only[iC,bF] at h;obtain⟨p,G,J⟩:=h;exact List.any_eq_true.2 ⟨p,G,by rw[J,e];simp⟩
  simp only[List.any_cons,List.any_nil,this,Bool.or_false]
theorem Jc (xs:List Int)(ps qs:List (Int×Int))(d:Int)(i x:Int)(h:0<=i)(z:i<xs.length):(iE xs ps qs d).flush i=iE xs ps (qs++[(i,x)]) (d+1):=by
 rw[iV.flush,aB (mO h z)];simp only[iE,iV.count,VJ _ _ _ x h];rfl
theorem LO (xs:List Int)(ps qs:List (Int×Int))(d:Int)(i x:Int)(h:i/8∈iC qs):iE xs ps (qs++[(i,x)]) d=iE xs ps qs d:=by
 simp only[iE,VK _ _ _ _ h]
theorem yF (xs:List Int)(ps qs:List (Int×Int))(d:Int)(z:0<=d)(h:d<4611686018427387904):(iE xs ps qs d).fit:=by
 refine⟨z,h,?_,?_⟩<;>simp[iE]
theorem Jd (xs:List Int)(ps:List (Int×Int))(d:Int)(h:∀p∈ps,0<=p.1):(iE xs ps ps d).fence=calm (az xs ps) (d+1)/\(iE xs ps ps d).fenceE=0:=by
 have V:(iE xs ps ps d).gone=false:=rfl;refine⟨?_,by rw[iV.fenceE,V];rfl⟩;rw[iV.fence,V,aA (by simp)];have W:iJ (iE xs ps ps d) (iE xs ps ps d).now.length=az xs ps:=by
  show(xs.mapIdx λj x=>if j<(az xs ps).length/\(Db ((xs.length+7)/8*8) ps).getD j false=true then (az xs ps).getD j 0 else x)=az xs ps;apply cD;intro j;rw[fX];by_cases J:j<xs.length
  ·have z:j<(az xs ps).length:=by rw[ct];exact J
   rw[aD J,aD z,fT];by_cases G:(Db ((xs.length+7)/8*8) ps).getD j false=true
   ·rw[aB ⟨z,G⟩,aj,aD z];rfl
   ·rw[aA λe=>G e.2]
    have :=dW ps j xs λp U e=>by
     apply G;have aa:=h p U;rw[Db,aj,bJ,cB (by omega)];simp only[fT,eZ,List.any_eq_true];exact⟨p,U,by simp;omega⟩
    rw[aj,aD z,aj,aD J] at this;simp only[eZ] at this;rw[this]
  ·rw[aP (by omega),aP (by rw[ct];omega)];rfl
 rw[W];simp only[iE,iV.count,calm,ct,Db,bZ,fK];rfl
theorem wW (z:0<=i)(h:i<xs.length):(calm xs d).refusal i=0:=by rw[Td];exact mO z h
theorem Kn (z:0<=i)(h:i<xs.length):(calm xs d).load i=xs.getD i.toNat 0:=by rw[iV.load,aB (wW z h)];rfl
theorem Dc{gn gl gf:Nat}(h:fw w b gn gl gf (calm xs d))(i:Int)(G:0<=i)(z:i<xs.length):
  Calls prog 52 #[b,i] w λe w'=>e= .returned (.tuple #[.int .u64 (xs.getD i.toNat 0),(0:Int)])/\w=w':=by
 have :=KN h i;rw[wW G z,Kn G z] at this;exact this
theorem Ri (x:Int)(z:0<=x)(w:World):Calls prog 122 #[.int .u64 x] w λe w'=>e=(sM x:Bool)/\w=w':=by
 by_cases h:x<3128
 ·by_cases G:x<8
  ·rw[mq.2 ⟨z,h,.inl G⟩]
   go_in;go_wp2_with fail;go_ret;exact⟨rfl,rfl⟩
  ·by_cases J:816<=x
   ·rw[mq.2 ⟨z,h,.inr J⟩]
    go_in;go_wp2_with fail;go_ret;exact⟨rfl,rfl⟩
   ·rw[show sM x=false by rw[Bool.eq_false_iff,ne_eq,mq];omega]
    go_in;go_wp2_with fail;go_ret;exact⟨rfl,rfl⟩
 ·rw[show sM x=false by rw[Bool.eq_false_iff,ne_eq,mq];omega]
  go_in;go_wp2_with fail;go_ret;exact⟨rfl,rfl⟩
theorem wX (ws:List Int)(k:Nat):lZ ws (k+1)=(lZ ws k&&sM (ws.getD (2*k) 0)):=by
 simp[lZ,dU,List.all_append]
theorem LP (h:lZ ws k=false)(z:k<=m):lZ ws m=false:=by
 induction m with
 |zero=>obtain rfl:k=0:=by omega
        exact h
 |succ m ih=>
  rw[wX];by_cases e:k=m+1
  ·subst e
   rw[wX] at h;exact h
  ·rw[ih (by omega)];rfl
theorem wY (h:Reads w v g (aY ws))(V:Ev ws)(m:Nat)(J:ws.length=2*m)(aa:m<=100000):
  Calls prog 68 #[v] w λe w'=>e=(lZ ws m:Bool)/\w=w':=by
 obtain⟨a,cap,rfl,h1,h2,H3⟩:=fV h;unfold maxLen at h2;obtain⟨HX,HM⟩:=hh2 V J;rw[J] at h1 ⊢;clear h V J;go_in;go_wp2_with fail;go_loopg [3] m (λg s3 wx=>∃k:Nat,k+g=m/\s3= .int .i64 ((2*k:Nat):Int)/\Hid (lZ ws k=true)/\wx=w)
 case atStart=>exact⟨0,by omega,rfl,rfl,rfl⟩
 case round=>
  obtain⟨k,hk,rfl,W,rfl⟩:=hrel;cases gk with
  |zero=>
   obtain rfl:k=m:=by omega
   have U:¬((2*k:Nat):Int)<((2*k:Nat):Int):=by omega
   go_wp2_with fail;go_ret;exact⟨by rw[W.out];rfl,rfl⟩
  |succ gg=>
   have U:((2*k:Nat):Int)<((2*m:Nat):Int):=by omega
   obtain⟨hg,off,rfl,hc⟩:=H3.out (2*k) (by rw[HM.out];omega);obtain⟨G,z⟩:=hh2 (λwz=>Ri (ws.getD (2*k) 0) (AZ HX.out _).1 wz) (wX ws k);have b0:0<=((2*k:Nat):Int):=by omega
   generalize ws.getD (2*k) 0=x at *;cases hp:sM x
   ·rw[hp] at G z
    clear hp;go_wp2_with(go_at_call 122;refine C' (G.out _) ?_);go_ret;exact⟨by rw[LP (k:=k+1) (by rw[z.out];simp) (by omega)];rfl,rfl⟩
   ·rw[hp] at G z
    clear hp;go_wp2_with(go_at_call 122;refine C' (G.out _) ?_);go_roundg gg;case measure=>omega
    case rel=>exact⟨k+1,by omega,by rw[show((2*(k+1):Nat):Int)=2*(k:Int)+2 by omega],by show lZ ws (k+1)=true;rw[z.out,W.out];rfl,rfl⟩
theorem ab4 (n s:Nat)(z:n<2147483648)(h:s<4294967296):bits .or .u64 ((n:Int)/2*4294967296) (s:Int)=(((n/2:Nat):Int)*4294967296+(s:Int)):=by
 rw[show(n:Int)/2*4294967296=((n/2*4294967296:Nat):Int) by omega,u64_or_nat _ _ (by omega) (by omega),nat_join 32 _ _ (by exact Nat.mul_mod_left _ _) h];omega
theorem uL (h:Reads w v g (aY ws))(G:Ev ws)(J:ws.length<=100000):
  Calls prog 72 #[v] w λe w'=>e= .returned (.int .u64 (rL ws))/\ay [] w w':=by
 have W:=ar (ab3 h G);obtain⟨a,cap,rfl,h1,V,-⟩:=fV h;unfold maxLen at V;have U:=KJ (ws.map Int.toNat);unfold rL;have HO:=ar (ab4 ws.length (Mu (ws.map Int.toNat)) (by omega) U);generalize Mu (ws.map Int.toNat)=s at *;clear h G;generalize ws.length=n at *;go_in;go_wp2_with fail;refine Rr W.out λw1 z=> ?_;have HK:=ar z;clear z;go_wp2_with fail;go_ret;refine⟨?_,HK.out⟩;rw[<-HO.out];rfl
theorem Rj (h:ku w v g ps)(W:okP ps)(hn:ps.length<=400):
  Calls prog 67 #[v] w (jN w (fq ps)):=by
 obtain⟨i0,hi,ah,ae,ag⟩:=dc Tryz.info_u64;obtain⟨H,qZ⟩:=hh2 h W;obtain⟨a,cap,rfl,h1,h2⟩:=h.val;unfold maxLen at h2;have ac:=A0 (2*ps.length) (by omega) (2*(ps.length:Int)) (by omega) 0 (.inl rfl) w;rw[Int.natCast_zero] at ac;have HO:Hid ((w.alloc (.cells (madeCells #[.int .u64 0] (2*ps.length)) 56)).ownsRow w.heap.size 56 1 (.slice w.heap.size 0 (2*ps.length)) 0 []):=
  World.ownsRow_made w _ _ (aH _) (by simp[maxLen];omega) (by simp[size_madeCells])
 clear h W;go_in;go_wp2_with fail;go_loopg [3,12] ps.length (λgh s3 s12 wx=>∃k:Nat,k+gh=ps.length/\s12= .int .i64 (k:Int)/\s3= .slice w.heap.size (2*k) (2*ps.length)/\
  Hid (wx.ownsRow w.heap.size 56 1 (.slice w.heap.size (2*k) (2*ps.length)) (2*k) (aY (fq (ps.take k)))/\ay [] w wx))
 case atStart=>exact⟨0,by omega,rfl,rfl,HO.out,(ay.refl _ _).alloc _⟩
 case round=>
  obtain⟨k,hk,rfl,rfl,V⟩:=hrel;cases gk with
  |zero=>
   obtain rfl:k=ps.length:=by omega
   have af:¬(ps.length:Int)<(ps.length:Int):=by omega
   obtain⟨hr,U⟩:=V.out;rw[aW (aH _)] at hr;obtain⟨g',ho,-⟩:=fp.of_row hr;have hb:g'=w.heap.size\/ps.length=0:=by
    by_cases e:ps.length=0
    ·exact .inr e
    ·left
     obtain⟨-,⟨_,hv,-,-⟩,-,-⟩:=ho.cell (by omega);cases hv;rfl
   have HM:Hid (jN w (fq ps) (.returned (.slice w.heap.size (2*ps.length) (2*ps.length))) wr):=by
    rcases hb with rfl|hb
    ·exact⟨_,_,rfl,ho.reads,aH _,U⟩
    ·exact⟨_,w.heap.size,rfl,(ho.anyG (by omega) _).reads,aH _,U⟩
   clear hr ho hb U V;go_wp2_with fail;go_ret;exact HM.out
  |succ gg=>
   have af:(k:Int)<(ps.length:Int):=by omega
   obtain⟨hg,off,rfl,c0,c1⟩:=(H.out.keep V.out.2 (by simp)).get (j:=k) (by omega);have b1:=Se qZ.out (k:=k) (by omega);have HW:=ar (Cj ps k (by omega));generalize iw ps k=x,lv ps k=y at *;obtain⟨J,U⟩:=V.out;obtain⟨aa,jA⟩:=hh2 J U;clear J U V;go_wp2_with(at_builtin;refine wpList_append_fits _ rfl _ _ 71 rfl w.heap.size 56 i0 1 underlying71 hi ae w.heap.size (2*k) (2*ps.length) _ rfl ((aa.out.alloc _).alloc _) ⟨wr.heap.size+1,0,none⟩ 2 2 [.int .u64 (IntKind.u64.wrap x),.int .u64 y] rfl rfl ?c1 ?c2 (by omega) ?_);case c1=>exact lI _ [_,_] _ _ (by simp)
   case c2=>simp[Value.oneCell']
   intro w1 G z;have jK:Hid (ay [] w w1):=((jA.out.alloc _).alloc _).trans (ay.of_grown (l:=[w.heap.size]) z (by intro q hq;cases hq;simp)) (by simp);have MO:=ar G;clear G z;go_wp2_with fail;go_roundg gg;case measure=>omega
   case rel=>
    refine⟨k+1,by omega,by go_num,rfl,?_,jK.out⟩;have :=MO.out;rw[HW.out,uf];rw[fY] at this;exact this
theorem LQ (ws:List Int)(k:Nat)(h:k<ws.length):(nt ws)[k]'(by rw[oo];exact h)=(9+(k:Int),ws.getD k 0):=by
 simp[nt,h]
theorem Za (h:Reads w v g (aY ws))(hn:ws.length<=800):
  Calls prog 70 #[v] w (kQ w (nt ws)):=by
 have H:=ar h;obtain⟨a,cap,rfl,h1,h2,-⟩:=fV h;unfold maxLen at h2;have aa:=FD ws.length (by omega) (ws.length:Int) rfl w;have G:=FE w ws.length (by omega);rw[show List.replicate ws.length ((0:Int),(0:Int))=dS (0,0) (nt ws) 0 by rw[lJ,oo]] at G;have G:=ar G;generalize madeCells #[Value.int .i64 0,Value.int .u64 0] (ws.length*2)=mc at *;clear h;go_in;go_wp2_with fail;go_loopg [11] ws.length (λgh M8 W=>∃k:Nat,k+gh=ws.length/\M8= .int .i64 (k:Int)/\
  Hid (fp W (.slice w.heap.size ws.length ws.length) w.heap.size 58 2 ws.length (jd (dS (0,0) (nt ws) k))/\ay [] w W))
 case atStart=>exact⟨0,by omega,rfl,G.out,(ay.refl _ _).alloc _⟩
 case round=>
  obtain⟨k,hk,rfl,z⟩:=hrel;cases gk with
  |zero=>
   obtain rfl:k=ws.length:=by omega
   have V:¬(ws.length:Int)<(ws.length:Int):=by omega
   have HM:Hid (kQ w (nt ws) (.returned (.slice w.heap.size ws.length ws.length)) wr):=by
    obtain⟨ho,fW⟩:=z.out;have e:dS (0,0) (nt ws) ws.length=nt ws:=by
     have :=mz ((0:Int),(0:Int)) (nt ws);rw[oo] at this;exact this
    rw[e] at ho;exact kQ.mk ho (oo ws).symm (aH _) fW
   go_wp2_with fail;go_ret;exact HM.out
  |succ gg=>
   have V:(k:Int)<(ws.length:Int):=by omega
   obtain⟨_,_,hv,-,-,HC⟩:=fV (H.out.keep z.out.2 (by simp));cases hv;obtain⟨hg,off,rfl,c0⟩:=HC.out k (by omega);have hl:=lR ((0:Int),(0:Int)) (nt ws) k (by rw[oo];omega);rw[oo] at hl;obtain⟨-,-,U,J⟩:=z.out.1.cell (by omega);have d0:=(U (k*2) (by omega)).trans (nz (dS (0,0) (nt ws) k) k (by omega)).1;have d1:=(U (k*2+1) (by omega)).trans (nz (dS (0,0) (nt ws) k) k (by omega)).2;have f0:=J (k*2);have f1:=J (k*2+1);have HE:=ar (lK ((0:Int),(0:Int)) (nt ws) k (by rw[oo];omega) _ (LQ ws k (by omega)));generalize iw (dS (0,0) (nt ws) k) k=o1,lv (dS (0,0) (nt ws) k) k=o2 at *;obtain⟨HP,jA⟩:=hh2 (z.out.1.pair k (9+(k:Int)) (ws.getD k 0)) z.out.2;generalize ws.getD k 0=x at *;clear U J hl HC z;go_wp2_with fail;go_roundg gg;case measure=>omega
   case rel=>
    refine⟨k+1,by omega,by go_num,?_,(jA.out.setCell (.inr (aH _)) _).setCell (.inr (aH _)) _⟩;rw[<-HE.out];exact HP.out
def lH (ws:List Int) (m:Nat):List (Int×Int):=(List.range m).map λk=>(ws.getD (2*k) 0,ws.getD (2*k+1) 0)
theorem nJ (ws:List Int)(m:Nat):(lH ws m).length=m:=by simp[lH]
theorem Hn (ws:List Int)(m k:Nat)(h:k<m):(lH ws m)[k]'(by rw[nJ];exact h)=(ws.getD (2*k) 0,ws.getD (2*k+1) 0):=by simp[lH]
theorem Rk (h:Reads w v g (aY ws))(m:Nat)(W:ws.length=2*m)(hn:m<=400)(hp:lZ ws m=true):
  Calls prog 136 #[v] w (kQ w (lH ws m)):=by
 have H:=ar h;obtain⟨a,cap,rfl,h1,h2,-⟩:=fV h;unfold maxLen at h2;obtain⟨J,HP⟩:=hh2 W hp;rw[W] at h1 ⊢;have af:=FD m (by omega) (m:Int) rfl w;have G:=FE w m (by omega);rw[show List.replicate m ((0:Int),(0:Int))=dS (0,0) (lH ws m) 0 by rw[lJ,nJ]] at G;have G:=ar G;generalize madeCells #[Value.int .i64 0,Value.int .u64 0] (m*2)=mc at *;clear h W hp;go_in;go_wp2_with fail;go_loopg [11] m (λgh M8 wx=>∃k:Nat,k+gh=m/\M8= .int .i64 (k:Int)/\
  Hid (fp wx (.slice w.heap.size m m) w.heap.size 58 2 m (jd (dS (0,0) (lH ws m) k))/\ay [] w wx))
 case atStart=>exact⟨0,by omega,rfl,G.out,(ay.refl _ _).alloc _⟩
 case round=>
  obtain⟨k,hk,rfl,z⟩:=hrel;cases gk with
  |zero=>
   obtain rfl:k=m:=by omega
   have ac:¬(k:Int)<(k:Int):=by omega
   have aa:Hid (kQ w (lH ws k) (.returned (.slice w.heap.size k k)) wr):=by
    obtain⟨ho,fW⟩:=z.out;have e:dS (0,0) (lH ws k) k=lH ws k:=by
     have :=mz ((0:Int),(0:Int)) (lH ws k);rw[nJ] at this;exact this
    rw[e] at ho;exact kQ.mk ho (nJ ws k).symm (aH _) fW
   go_wp2_with fail;go_ret;exact aa.out
  |succ gg=>
   have ac:(k:Int)<(m:Int):=by omega
   obtain⟨_,_,hv,-,-,HC⟩:=fV (H.out.keep z.out.2 (by simp));rw[J.out] at hv;cases hv;obtain⟨hg,off,rfl,c0⟩:=HC.out (2*k) (by rw[J.out];omega);obtain⟨-,ae,V,c1⟩:=HC.out (2*k+1) (by rw[J.out];omega);cases V;have hx:0<=ws.getD (2*k) 0/\ws.getD (2*k) 0<3128:=by
    have :=mq.1 (eP.1 HP.out k (by rw[bW];omega));omega
   obtain⟨x0,x1⟩:=hx;have hl:=lR ((0:Int),(0:Int)) (lH ws m) k (by rw[nJ];omega);rw[nJ] at hl;obtain⟨-,-,hc,U⟩:=z.out.1.cell (by omega);have d0:=(hc (k*2) (by omega)).trans (nz (dS (0,0) (lH ws m) k) k (by omega)).1;have d1:=(hc (k*2+1) (by omega)).trans (nz (dS (0,0) (lH ws m) k) k (by omega)).2;have f0:=U (k*2);have f1:=U (k*2+1);have HE:=ar (lK ((0:Int),(0:Int)) (lH ws m) k (by rw[nJ];omega) _ (Hn ws m k (by omega)));generalize iw (dS (0,0) (lH ws m) k) k=o1,lv (dS (0,0) (lH ws m) k) k=o2 at *;obtain⟨Mf,jA⟩:=hh2 (z.out.1.drew.pair k (ws.getD (2*k) 0) (ws.getD (2*k+1) 0)) z.out.2;generalize ws.getD (2*k) 0=x,ws.getD (2*k+1) 0=y at *;clear hc U hl HC z;go_wp2_with fail
   go_region
   go_wp2_with fail;go_roundg gg;case measure=>omega
   case rel=>
    refine⟨k+1,by omega,by go_num,?_,(jA.out.drew.setCell (.inr (aH _)) _).setCell (.inr (aH _)) _⟩;rw[<-HE.out];exact Mf.out
def oD (xs:List Int) (m:Nat):List Int:=(List.range m).map λk=>xs.getD (9+k) 0
theorem mP (xs:List Int)(m:Nat):(oD xs m).length=m:=by simp[oD]
theorem LR (xs:List Int)(m k:Nat)(h:k<m):(oD xs m)[k]'(by rw[mP];exact h)=xs.getD (9+k) 0:=by simp[oD]
theorem Zb (xs:List Int)(m k:Nat)(h:k<m):(oD xs m).getD k 0=xs.getD (9+k) 0:=by simp[oD,h]
theorem BP (h:Ev xs)(m:Nat):Ev (oD xs m):=by
 intro x z;simp only[oD,bF] at z;obtain⟨k,-,rfl⟩:=z;exact AZ h _
theorem Ho (w:World)(n:Nat)(h:n<=100000):fp (w.alloc (.cells (madeCells #[.int .u64 0] n) 56)) (.slice w.heap.size n n) w.heap.size 56 1 n (aY (List.replicate n 0)):=by
 refine⟨by simp[aY],_,n,rfl,aH _,by unfold maxLen;omega,λ_=>⟨rfl,_,bh.new _ _ _,by simp[size_madeCells],?_⟩⟩;rw[toList_madeCells_one,Js,aW (by simp[aY])]
def uD (w:World) (ws:List Int) (e:Ending) (w':World):Prop:=
 ∃v g,e= .returned (.tuple #[v,(0:Int)])/\Reads w' v g (aY ws)/\w.heap.size<=g/\ay [] w w'
def Hp (w:World) (b:Nat) (xs:List Int):Prop:=∀(k:Nat) (h:World),k<3128->ay [] w h->Calls prog 52 #[b,(k:Int)] h λe z=>e= .returned (.tuple #[.int .u64 (xs.getD k 0),(0:Int)])/\h=z
theorem Oy (ot:Hp w b xs)(m:Nat)(hm:m<=800)(M:Int)(hM:M=(m:Int)):
  Calls prog 135 #[b,(9:Int),M] w (uD w (oD xs m)):=by
 subst hM;have Ex:=ar ot;have aa:=A0 m (by omega) (m:Int) rfl m (.inr rfl) w;have G:=Ho w m (by omega);rw[show List.replicate m (0:Int)=dS 0 (oD xs m) 0 by rw[lJ,mP]] at G;have G:=ar G;generalize madeCells #[Value.int .u64 0] m=mc at *;clear ot;go_in;go_wp2_with fail;go_loopg [16] m (λgh s16 wx=>∃k:Nat,k+gh=m/\s16= .int .i64 (k:Int)/\
  Hid (fp wx (.slice w.heap.size m m) w.heap.size 56 1 m (aY (dS 0 (oD xs m) k))/\ay [] w wx))
 case atStart=>exact⟨0,by omega,rfl,G.out,(ay.refl _ _).alloc _⟩
 case round=>
  obtain⟨k,hk,rfl,h⟩:=hrel;cases gk with
  |zero=>
   obtain rfl:k=m:=by omega
   have U:¬(k:Int)<(k:Int):=by omega
   have J:Hid (uD w (oD xs k) (.returned (.tuple #[.slice w.heap.size k k,(0:Int)])) wr):=by
    obtain⟨ho,fW⟩:=h.out;have e:dS 0 (oD xs k) k=oD xs k:=by
     have :=mz (0:Int) (oD xs k);rw[mP] at this;exact this
    rw[e] at ho;exact⟨_,_,rfl,ho.reads,aH _,fW⟩
   go_wp2_with fail;go_ret2;exact J.out
  |succ gg=>
   have U:(k:Int)<(m:Int):=by omega
   have W:=ar (Ex.out (9+k) wr (by omega) h.out.2);rw[show((9+k:Nat):Int)=9+(k:Int) by omega] at W;have hl:=lR (0:Int) (oD xs m) k (by rw[mP];omega);rw[mP] at hl;obtain⟨-,-,hc,V⟩:=h.out.1.cell (by omega);have d0:=(hc k (by omega)).trans (dO (l:=dS 0 (oD xs m) k) (by omega));have f0:=V k;have HE:=ar (lK (0:Int) (oD xs m) k (by rw[mP];omega) _ (LR xs m k (by omega)));generalize (dS 0 (oD xs m) k).getD k 0=o1 at *;have z:=h.out.1.set k (.int .u64 (xs.getD (9+k) 0));rw[mI] at z;obtain⟨z,jA⟩:=hh2 z h.out.2;generalize xs.getD (9+k) 0=x at *;clear hc V hl h;go_wp2_with(go_at_call 52;refine C' W.out ?_);go_roundg gg;case measure=>omega
   case rel=>
    refine⟨k+1,by omega,by go_num,?_,jA.out.setCell (.inr (aH _)) _⟩;rw[<-HE.out];exact z.out
end Go.Proofs.YtepbpdipenedhaaGreatDoor
