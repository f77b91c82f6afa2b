/- Lemmas. -/
import Derived.Test.YtimcfdnbpkiniaaGreatDoorM19
set_option maxHeartbeats 4000000
set_option maxRecDepth 100000
namespace Go.Proofs.YtimcfdnbpkiniaaGreatDoor
open Go.Proofs.Tryz
open Go.RowKit
variable{B X Y ws xs:List Int}{b g gp k m:Nat}{p:Int×Int}{d i:Int}{n:bS}{own:Nat->List Nat}{U W ex ex' l z:List Nat}{T V:List (bS×Value)}{P:List ByteArray}{w:World}{v:Value}{ps:List (Int×Int)}{M:Nat->Nd}
theorem Kc{u:Bool}(h:p∈eK X b u):816<=p.1.toNat/\p.1.toNat<820:=by
 unfold eK at h;split at h
 ·simp at h
 ·rw[au] at h
  subst h;show 816<=((816+b/64:Nat):Int).toNat/\_;rw[aF];show 816<=816+b/64/\((816+b/64:Nat):Int).toNat<820;rw[aF];omega
theorem tF (l:List Nat):∀(X:List Int) (p:Int×Int),p∈ct X l->816<=p.1.toNat/\p.1.toNat<820:=by
 induction l with
 |nil=>intro X p h;simp[ct] at h
 |cons b l ih=>
  intro X p h;unfold ct at h;rcases aR.1 h with h|h
  ·exact Kc h
  ·exact ih _ p h
theorem Oj (h:p∈gX b):1080<=p.1.toNat/\(p.1.toNat-1080)/8=b:=by
 unfold gX mX at h;obtain⟨j,z,rfl⟩:=bH.1 h;rw[cu] at z;show 1080<=((1080+b*8+j:Nat):Int).toNat/\(((1080+b*8+j:Nat):Int).toNat-1080)/8=b;rw[aF];omega
theorem qw (l:List Nat):∀(X:List Int) (p:Int×Int),p∈dt X l->(816<=p.1.toNat/\p.1.toNat<820)\/(1080<=p.1.toNat/\(p.1.toNat-1080)/8∈l):=by
 induction l with
 |nil=>intro X p h;simp[dt] at h
 |cons b l ih=>
  intro X p h;unfold dt at h;rcases aR.1 h with h|h
  ·rcases aR.1 h with h|h
   ·exact .inl (Kc h)
   ·have :=Oj h
    exact .inr ⟨this.1,by rw[this.2];simp⟩
  ·rcases ih _ p h with z|z
   ·exact .inl z
   ·exact .inr ⟨z.1,by simp[z.2]⟩
theorem Zg{i:Nat}{own:List Nat}(_:i<32)(V:cm n)(ho:own.length=dA n){p:Int×Int}(h:p∈IQ X i n own):
  (816<=p.1.toNat/\p.1.toNat<820)\/(824+8*i<=p.1.toNat/\p.1.toNat<824+8*i+8)\/(1080<=p.1.toNat/\(p.1.toNat-1080)/8∈own):=by
 unfold IQ at h;split at h
 ·unfold mR at h
  rcases aR.1 h with h|h
  ·rcases qw _ _ p h with z|z
   ·exact .inl z
   ·exact .inr (.inr z)
  ·rcases aR.1 h with h|h
   ·obtain⟨m,j,G,J,z,-⟩:=vh h
    refine .inr (.inr ⟨by omega,?_⟩);have e:(p.1.toNat-1080)/8=own.getD m 0:=by omega
    rw[e,aj,aD G];exact bM G
   ·obtain⟨j,J,z,-⟩:=lU h
    exact .inr (.inl ⟨by omega,by omega⟩)
 ·rename_i hF
  have uW:dA n=eV n:=aA hF;have W:=jJ V;have U:=wD n;unfold pD at h;rcases aR.1 h with h|h
  ·rcases qw _ _ p h with z|z
   ·exact .inl z
   ·exact .inr (.inr z)
  ·rcases sX (by omega) h with z|z
   ·exact .inr (.inr ⟨z.1,z.2.1⟩)
   ·exact .inr (.inl (by have :=z.1;have :=z.2.1;omega))
theorem yX{i:Nat}{own:List Nat}(G:i<32)(J:cm n)(U:z=(aY (az X (ct X own))).take (dA n))(V:dA n<=(aY (az X (ct X own))).length){p:Int×Int}(h:p∈lW X i n own):
  (816<=p.1.toNat/\p.1.toNat<820)\/(824+8*i<=p.1.toNat/\p.1.toNat<824+8*i+8)\/(1080<=p.1.toNat/\(p.1.toNat-1080)/8∈z):=by
 unfold lW at h;rcases aR.1 h with h|h
 ·exact .inl (tF _ _ p h)
 ·subst U
  exact Zg G J (uo V) h
theorem C0 (l:List Nat):∀X:List Int,In64 X->X.length=3128->dn (az X (ct X l)) 0=dn X 0:=by
 induction l with
 |nil=>intro X _ _;rfl
 |cons b l ih=>
  intro X h G;have z:=iq [b] X h G;unfold ct at z ⊢;have U:ct (az X (eK X b false)) []=[]:=rfl;rw[U,bz] at z;rw[br,ih _ z.1 (by rw[cy,G])];by_cases J:b=0\/256<=b
  ·unfold eK;rw[aB J];rfl
  ·rw[Cm h G b (by omega) (by omega),aA]
theorem Zh (z:In64 X)(W:X.length=3128){i:Nat}{n:bS}{own:List Nat}(hi:i<32)(hR:cm n)(hn:dA n<=(aY (az X (ct X own))).length):dn (az X (lW X i n own)) 0=dn X 0:=by
 obtain⟨g1,-,-⟩:=iq own X z W;have J:=C0 own X z W;have hl:=cy (ct X own) X;rw[<-J];unfold lW;rw[br];generalize az X (ct X own)=Y at *;have V:∀c∈(aY Y).take (dA n),c≠0/\c<256:=qm;have G:∀qs:List (Int×Int),(∀p∈qs,820<=p.1.toNat)->dn (az Y (dt Y ((aY Y).take (dA n))++qs)) 0=dn Y 0:=λqs hq=>by
  rw[(GK g1 (by omega) V hq).1 0 (by omega),aP (λh=>(V 0 h).1 rfl),Bool.or_false]
 unfold IQ;split
 ·unfold mR
  refine G _ λp U=> ?_
  rcases aR.1 U with h|h
  ·obtain⟨m,j,-,-,J,-⟩:=vh h
   omega
  ·obtain⟨j,-,J,-⟩:=lU h
   omega
 ·rename_i hF
  have uW:dA n=eV n:=aA hF;have ae:=jJ hR;have aa:=wD n;have ac:=uo hn;unfold pD;refine G _ λp U=> ?_
  rcases sX (by omega) U with ⟨h,-⟩|⟨h,-⟩<;>omega
def IZ (own:Nat->List Nat) (i:Nat) (o:List Nat):Nat->List Nat:=λj=>if j=i then o else own j
def nA (T:List (bS×Value)) (own:Nat->List Nat) (k:Nat):List Nat:=own k++dv (nT T k)
def nM (T:List (bS×Value)) (i:Nat) (n:bS):List (bS×Value):=T.set i (n,.slice none 0 0)
theorem pI (z:T.length=32){i:Nat}(h:i<32)(n:bS)(j:Nat):nT (nM T i n) j=if i=j then n else nT T j:=aeJ (by omega) n _ j
theorem G3 (J:T.length=32)(own:Nat->List Nat){i:Nat}(U:i<32)(n:bS)(o:List Nat)(b:Nat):∀k,
  (k<=i->jZ (nM T i n) (IZ own i o) k b=jZ T own k b)/\(i<k->jZ (nM T i n) (IZ own i o) k b+(nA T own i).count b=jZ T own k b+(o++dv n).count b):=by
 intro k;induction k with
 |zero=>exact⟨λ_=>rfl,λh=>by omega⟩
 |succ k ih=>
  have e:∀(G:List (bS×Value)) (z:Nat->List Nat),jZ G z (k+1) b=jZ G z k b+(z k++dv (nT G k)).count b:=λ_ _=>rfl
  refine⟨λh=> ?_,λh=> ?_⟩
  ·rw[e,e,ih.1 (by omega),pI J U,aA,IZ,aA]
  ·rw[e,e]
   by_cases V:k=i
   ·subst V
    rw[ih.1 (by omega),pI J U,aB rfl,IZ,aB rfl];unfold nA;omega
   ·have W:=ih.2 (by omega)
    rw[pI J U,aA,IZ,aA V];omega
theorem G5:∀m,k<m->(nA T own k).count b<=jZ T own m b:=by
 intro m;induction m with
 |zero=>intro h;omega
 |succ m ih=>
  intro h;show _<=jZ T own m b+(nA T own m).count b;by_cases e:k=m
  ·subst e;omega
  ·have :=ih (by omega);omega
theorem Tb{j:Nat}(z:j<k):∀m,k<m->(nA T own j).count b+(nA T own k).count b<=jZ T own m b:=by
 intro m;induction m with
 |zero=>intro h;omega
 |succ m ih=>
  intro h;show _<=jZ T own m b+(nA T own m).count b;by_cases e:k=m
  ·subst e
   have :=G5 (T:=T) (own:=own) (b:=b) k z;omega
  ·have :=ih (by omega);omega
structure ru (X:List Int) (T V:List (bS×Value)) (own:Nat->List Nat) (ex:List Nat):Prop where
 len:X.length=3128
 w64:In64 X
 sup:kX X
 gots:rF X T own
 all:wK X T
 once:∀b,b<256->xu V own b+ex.count b<=1/\(dn X b=true↔xu V own b+ex.count b=1)
 exr:∀c∈ex,c≠0/\c<256
 tails:yf X V
 vlen:V.length=32
 vir:∀j,nT V j=nT T j\/nT V j=bY
abbrev StX (X:List Int) (T:List (bS×Value)) (own:Nat->List Nat) (h:List Nat):Prop:=ru X T T own h
theorem ru.each(h:ru X T V own W){i:Nat}(U:i<32):((nT T i).F≠0/\eJ X (i:Int) (nT T i) (own i))\/(dR X (i:Int)/\nT T i=bY/\own i=[]):=by
 rcases h.gots.form i with ⟨z,-,J⟩|⟨z,J,h3⟩
 ·exact .inl ⟨z,J⟩
 ·right
  refine⟨?_,J,(h3 U).1⟩;rcases h.all i U with G|G
  ·exact G
  ·exact absurd z G
theorem VG (h:nT T k=bY)(z:own k=[]):nA T own k=[]:=by
 unfold nA;rw[h,z]
 decide
theorem uv:dv bY=[]:=by decide
theorem ru.rng(h:ru X T V own ex){k c:Nat}(W:k<32)(U:c∈nA V own k):c≠0/\c<256:=by
 rcases h.each W with ⟨-,J⟩|⟨-,J,h2⟩
 ·rcases aR.1 U with G|G
  ·exact J.mem c G
  ·rcases h.vir k with z|z
   ·rw[z] at G;exact qu J.len J.right c G
   ·rw[z,uv] at G;simp at G
 ·rw[VG (by rcases h.vir k with z|z<;>rw[z];exact J) h2] at U;simp at U
theorem ru.used(h:ru X T V own W){k c:Nat}(G:k<32)(z:c∈nA V own k):dn X c=true:=by
 have U:=h.rng G z;have J:=h.once c U.2;have h3:=G5 (T:=V) (own:=own) (b:=c) 32 G;have h4:0<(nA V own k).count c:=List.count_pos_iff.2 z;unfold xu at J;exact J.2.2 (by omega)
theorem ru.usedEx(h:ru X T V own z){c:Nat}(G:c∈z):dn X c=true:=by
 have J:=h.once c (h.exr c G).2;have U:0<z.count c:=List.count_pos_iff.2 G;exact J.2.2 (by omega)
theorem ru.apart(h:ru X T V own ex){j k c:Nat}(U:j<32)(hk:k<32)(G:j≠k)(J:c∈nA V own j):c∉nA V own k:=λz=>by
 have W:=h.rng U J;have h2:=(h.once c W.2).1;have h4:0<(nA V own j).count c:=List.count_pos_iff.2 J;have h5:0<(nA V own k).count c:=List.count_pos_iff.2 z;unfold xu at h2;rcases Nat.lt_or_gt_of_ne G with e|e
 ·have :=Tb (T:=V) (own:=own) (b:=c) e 32 hk;omega
 ·have :=Tb (T:=V) (own:=own) (b:=c) e 32 U;omega
theorem ru.apartEx(h:ru X T V own z){k c:Nat}(U:k<32)(J:c∈nA V own k):c∉z:=λG=>by
 have W:=h.rng U J;have h2:=(h.once c W.2).1;have h4:0<(nA V own k).count c:=List.count_pos_iff.2 J;have h5:0<z.count c:=List.count_pos_iff.2 G;have :=G5 (T:=V) (own:=own) (b:=c) 32 U;unfold xu at h2;omega
theorem ru.inner(h:ru X T V own ex){k c:Nat}(J:k<32)(G:c∈own k):c∉dv (nT V k):=λz=>by
 have W:=h.rng J (bT _ G);have h2:=(h.once c W.2).1;have U:=G5 (T:=V) (own:=own) (b:=c) 32 J;have h4:0<(own k).count c:=List.count_pos_iff.2 G;have h5:0<(dv (nT V k)).count c:=List.count_pos_iff.2 z;unfold xu at h2;unfold nA at U;rw[fL] at U;omega
theorem vE (hB:n.B.length=13)(h:jS X n)(W:∀c∈dv n,∀j,j<8->Y.getD (1080+8*c+j) 0=X.getD (1080+8*c+j) 0):jS Y n:=by
 intro U k hk G j V z;have J:(n.B.getD k 0).toNat∈dv n:=by
  unfold dv eA;refine bH.2 ⟨n.B.getD k 0,List.mem_filter.2 ⟨?_,by simpa using G⟩,rfl⟩;rw[aW (by omega),aj,aD (by omega)];exact bM _
 have :=W _ J (j/8) (by omega);rw[this];exact h U k hk G j V z
def oU (X Y:List Int) (l:List Nat):Prop:=∀c,c<256->c≠0->dn X c=true->c∉l->∀j,j<8->Y.getD (1080+8*c+j) 0=X.getD (1080+8*c+j) 0
theorem vF (h:kX X)(G:∀k,k<8->Y.getD k 0=X.getD k 0)(U:∀k,820<=k->k<824->Y.getD k 0=X.getD k 0):kX Y:=
 ⟨by rw[G 0 (by omega)];exact h.1,by rw[G 1 (by omega)];exact h.2.1,by rw[G 2 (by omega)];exact h.2.2.1,λi J z=>by rw[G i z];exact h.2.2.2.1 i J z,λi J z=>by rw[U i J z];exact h.2.2.2.2 i J z⟩
theorem qT (h:l.Nodup)(b:Nat):l.count b=if b∈l then 1 else 0:=by
 split
 ·next h1=>
  have G:l.count b<=1:=List.nodup_iff_count.1 h b;have z:0<l.count b:=List.count_pos_iff.2 h1;omega
 ·next h1=>exact List.count_eq_zero.2 h1
theorem ru.put(h:ru X T V own ex){i:Nat}(hi:i<32){n:bS}(hB:n.B.length=13)(hR:cm n)
  (hn:dA n<=(aY (az X (ct X (own i)))).length) {ex':List Nat} (hc:∀b,b<256->(dv n).count b+ex'.count b=(dv (nT V i)).count b+ex.count b) (hx:∀c∈ex',c≠0/\c<256) (ht:jS X n):
  ru (az X (lW X i n (own i))) (nM T i n) (nM V i n) (IZ own i ((aY (az X (ct X (own i)))).take (dA n))) ex'/\
   oU X (az X (lW X i n (own i))) (own i)/\(aY (az X (lW X i n (own i)))).length+dA n=(aY X).length+(own i).length/\∀k,k<816->(az X (lW X i n (own i))).getD k 0=X.getD k 0:=by
 have hE:=ab3 (i:=(i:Int)) h.w64 h.len hB (by omega) hR hn;rw[aF] at hE;have xD:∀k,k<816->(az X (lW X i n (own i))).getD k 0=X.getD k 0:=λk hk=>dX _ _ _ λp hp=>by
  rcases yX hi hR rfl hn hp with z|z|z<;>omega
 have hz:=Zh h.w64 h.len (own:=own i) hi hR hn;have ac:∀c∈own i,dn X c=true:=λc hc=>h.used hi (bT _ hc)
 have ae:∀c∈own i,c≠0/\c<256:=λc hc=>h.rng hi (bT _ hc)
 have xm:(own i).Nodup:=by
  rcases h.each hi with ⟨-,z⟩|⟨-,-,z⟩
  ·exact z.nodup
  ·rw[z];exact List.nodup_nil
 have Bo:(aY (az X (lW X i n (own i)))).length+dA n=(aY X).length+(own i).length:=by
  rw[hE.count,sx ae xm ac λc hc ag=>(iq (own i) X h.w64 h.len).2.1 c hc ag]
 generalize (aY (az X (ct X (own i)))).take (dA n)=o',az X (lW X i n (own i))=Y at *;clear hn;have oN:oU X Y (own i):=λc hc ag hu ar j W=>by
  refine hE.other _ (by omega) (by rw[aF];omega) λz=> ?_
  have e:(1080+8*c+j-1080)/8=c:=by omega
  rw[e] at z;have G:=hE.free c z.2;rw[hu,aP ar] at G;simp at G
 have au:(nM T i n).length=32:=by unfold nM;rw[dg];exact h.gots.len
 have aa:=λj=>pI h.gots.len hi n j
 -- what lies elsewhere
 have af:∀j,j<32->j≠i->((nT T j).F≠0/\eJ Y (j:Int) (nT T j) (own j))\/(dR Y (j:Int)/\nT T j=bY/\own j=[]):=λj W ES=>by
  rcases h.each W with ⟨z,G⟩|⟨z,G,h3⟩
  ·refine .inl ⟨z,hE.keeps G (by omega) (λc hc=>h.used W (bT _ hc)) λc hc ax=> ?_⟩
   exact h.apart W hi ES (bT _ hc) (bT _ ax)
  ·exact .inr ⟨hE.free_keeps z (by omega) (by omega),G,h3⟩
 have av:∀c∈dv n,c≠0/\c<256/\dn X c=true/\c∉own i:=λc J=>by
  have z:=qu hB hR c J;have G:=hc c z.2;have h3:0<(dv n).count c:=List.count_pos_iff.2 J;rcases eo (ex.count c) with h4|h4
  ·have h5:c∈dv (nT V i):=List.count_pos_iff.1 (by omega)
   exact⟨z.1,z.2,h.used hi (bW _ h5),λU=>h.inner hi U h5⟩
  ·have h5:c∈ex:=List.count_pos_iff.1 h4
   exact⟨z.1,z.2,h.usedEx h5,λU=>h.apartEx hi (bT _ U) h5⟩
 have ah:=λj=>pI h.vlen hi n j
 refine⟨⟨hE.len,hE.w64,?_,⟨au,λj W=> ?_⟩,λj W=> ?_,λb hb=> ?_,hx,λj W=> ?_,by unfold nM;rw[dg];exact h.vlen,λj=>by rw[aa,ah];split;exact .inl rfl;exact h.vir j⟩,oN,Bo,xD⟩
 ·exact vF h.sup (λk hk=>xD k (by omega)) λk hk ay=>hE.other k hk (by rw[aF];omega) (by omega)
 ·rw[aa]
  by_cases e:i=j
  ·subst e
   rw[aB rfl,IZ,aB rfl];exact .inl hE.st
  ·rw[aA e,IZ,aA (cV e)]
   rcases af j W (cV e) with z|⟨z,G,h3⟩
   ·exact .inl z.2
   ·exact .inr ⟨λ_ _ hs=>hs.notFree z,G,h3⟩
 ·rw[aa]
  by_cases e:i=j
  ·subst e
   rw[aB rfl]
   right
   rcases hR.1 with z|z<;>omega
  ·rw[aA e]
   rcases af j W (cV e) with z|z
   ·exact .inr z.1
   ·exact .inl z.1
 ·have z:=(G3 h.vlen own hi n o' b 32).2 hi
  have G:=h.once b hb;have h3:=hc b hb;unfold xu at G ⊢;unfold nA at z;rw[fL,fL] at z;have h4:=qT xm b;have h5:=qT hE.st.nodup b;by_cases aj:b=0
  ·subst aj
   have g1:(0:Nat)∉own i:=λh=>(ae 0 h).1 rfl
   have g2:(0:Nat)∉o':=λh=>(hE.st.mem 0 h).1 rfl
   rw[aA g1] at h4;rw[aA g2] at h5;have e:jZ (nM V i n) (IZ own i o') 32 0+ex'.count 0=jZ V own 32 0+ex.count 0:=by omega
   rw[hz,e];exact G
  ·have U:=hE.used b hb aj
   by_cases g1:b∈own i
   ·rw[aB g1] at h4
    have h7:=ac b g1;rw[bq g1,h7] at U;have h8:=G.2.1 h7;by_cases g2:b∈o'
    ·rw[aB g2] at h5
     rw[bq g2] at U;refine⟨by omega,λ_=>by omega,λ_=>by rw[U];rfl⟩
    ·rw[aA g2] at h5
     rw[aP g2] at U;refine⟨by omega,λh=>by rw[U] at h;simp at h,λ_=>by omega⟩
   ·rw[aA g1] at h4
    rw[aP g1] at U;by_cases g2:b∈o'
    ·rw[aB g2] at h5
     have h7:=hE.free b g2;rw[aP g1] at h7;have h8:dn X b=false:=by simpa using h7
     have h9:¬(jZ V own 32 b+ex.count b=1):=λh=>by rw[G.2.2 h] at h8;cases h8
     rw[bq g2] at U;exact⟨by omega,λ_=>by omega,λ_=>by rw[U];simp⟩
    ·rw[aA g2] at h5
     rw[aP g2] at U;have h7:dn Y b=dn X b:=by rw[U];simp
     rw[h7];have e:jZ (nM V i n) (IZ own i o') 32 b+ex'.count b=jZ V own 32 b+ex.count b:=by omega
     rw[e];exact G
 ·rw[ah]
  by_cases e:i=j
  ·subst e
   rw[aB rfl];exact vE hB ht λc J k hk=>by
    have :=av c J;exact oN c this.2.1 this.1 this.2.2.1 this.2.2.2 k hk
  ·rw[aA e]
   have ak:nT V j=bY->jS Y (nT V j):=λG=>by
    rw[G];intro hK;simp[bY] at hK
   rcases h.each W with ⟨z,G⟩|⟨z,G,h3⟩
   ·by_cases ai:nT V j=bY
    ·exact ak ai
    have hv:=(h.vir j).resolve_right ai;refine vE (by rw[hv];exact G.len) (h.tails j W) λc J k hk=> ?_
    have h4:=h.rng W (bW _ J);exact oN c h4.2 h4.1 (h.used W (bW _ J)) (λh5=>h.apart W hi (cV e) (bW _ J) (bT _ h5)) k hk
   ·exact ak ((h.vir j).elim (λhv=>by rw[hv];exact G) id)
theorem ru.change{G h:List (bS×Value)}{J:Nat->List Nat}(_:ru X T V own ex)(hl:Y.length=3128)(aa:In64 Y)(ac:kX Y)(hT:G.length=32)(hV:h.length=32)(hv:∀j,nT h j=nT G j\/nT h j=bY)
  (U:∀j:Nat,j<32->((nT G j).F≠0/\eJ Y (j:Int) (nT G j) (J j))\/(dR Y (j:Int)/\nT G j=bY/\J j=[]))
  (xm:∀b,b<256->xu h J b+ex'.count b<=1/\(dn Y b=true↔xu h J b+ex'.count b=1)) (hx:∀c∈ex',c≠0/\c<256) (ae:∀j,j<32->jS Y (nT h j)):ru Y G h J ex':=by
 refine⟨hl,aa,ac,⟨hT,λj W=> ?_⟩,λj W=> ?_,xm,hx,ae,hV,hv⟩
 ·rcases U j W with z|⟨z,h2,h3⟩
  ·exact .inl z.2
  ·exact .inr ⟨λ_ _ hs=>hs.notFree z,h2,h3⟩
 ·rcases U j W with z|z
  ·exact .inr z.1
  ·exact .inl z.1
theorem ru.nodup(h:ru X T V own U){i:Nat}(G:i<32):(nA V own i).Nodup:=by
 rw[List.nodup_iff_count];intro b;by_cases z:b∈nA V own i
 ·have J:=(h.once b (h.rng G z).2).1
  have W:=G5 (T:=V) (own:=own) (b:=b) 32 G;unfold xu at J;omega
 ·rw[List.count_eq_zero.2 z];omega
theorem ru.drop(h:StX X T own ex){i:Nat}(hi:i<32):
  StX (az X (wI X i (nT T i) (own i))) (nM T i bY) (IZ own i []) ex/\oU X (az X (wI X i (nT T i) (own i))) []/\
   (aY (az X (wI X i (nT T i) (own i)))).length=(aY X).length+(nA T own i).length/\∀k,k<816->(az X (wI X i (nT T i) (own i))).getD k 0=X.getD k 0:=by
 have ae:=h.nodup hi;have ak:∀c∈nA T own i,dn X c=true:=λc hc=>h.used hi hc
 have ag:∀c∈nA T own i,c≠0/\c<256:=λc hc=>h.rng hi hc
 obtain⟨g1,g2,g3⟩:=iq (nA T own i) X h.w64 h.len;have gz:=C0 (nA T own i) X h.w64 h.len;have av:∀k,k<816->(az X (ct X (nA T own i))).getD k 0=X.getD k 0:=λk G=>dX _ _ _ λp hp=>by have :=tF _ _ p hp;omega
 have gl:=cy (ct X (nA T own i)) X;have aa:wI X i (nT T i) (own i)=ct X (nA T own i)++jM (824+8*i) (List.replicate 8 0) 8:=rfl;rw[aa,br];have ax:=sx (Y:=az X (ct X (nA T own i))) ag ae ak λc hc ah=>g2 c hc ah
 generalize az X (ct X (nA T own i))=Y at *;have z:∀k,(az Y (jM (824+8*i) (List.replicate 8 0) 8)).getD k 0=if 824+8*i<=k/\k<824+8*i+8 then 0 else Y.getD k 0:=by
  intro k;by_cases G:824+8*i<=k/\k<824+8*i+8
  ·rw[aB G]
   have au:∀m,m<=8->∀j,j<m->(az Y (jM (824+8*i) (List.replicate 8 0) m)).getD (824+8*i+j) 0=0:=by
    intro m;induction m with
    |zero=>intro _ j V;omega
    |succ m ih=>
     intro hm j V;rw[Ad,br,oh,aF,jg _ _ _ _ (by rw[cy];have :=h.len;omega)];by_cases e:824+8*i+j=824+8*i+m
     ·rw[aB]
      rw[aj,bB];split<;>rfl
     ·rw[aA]
      exact ih (by omega) j (by omega)
   have :=au 8 (aI _) (k-(824+8*i)) (by omega);rwa[show 824+8*i+(k-(824+8*i))=k by omega] at this
  ·rw[aA G]
   refine dX _ _ _ λp hp=> ?_
   obtain⟨j,V,J,-⟩:=lU hp;omega
 have ar:(az Y (jM (824+8*i) (List.replicate 8 0) 8)).length=3128:=by rw[cy,gl,h.len]
 generalize az Y (jM (824+8*i) (List.replicate 8 0) 8)=Z at *;have Ol:=CU (X:=Y) (Y:=Z) λk G=>by rw[z,aA]
 have C2:∀k,820<=k->¬(824+8*i<=k/\k<824+8*i+8)->Z.getD k 0=X.getD k 0:=λk G hn=>by rw[z,aA hn,g3 k G]
 have xD:∀k,k<816->Z.getD k 0=X.getD k 0:=λk G=>by rw[z,aA,av k G]
 have oN:oU X Z []:=λc hc ah _ _ j V=>C2 _ (by omega) (by omega)
 have af:=λj=>pI h.gots.len hi bY j
 refine⟨h.change ar ?_ ?_ (by unfold nM;rw[dg];exact h.gots.len) (by unfold nM;rw[dg];exact h.gots.len) (λ_=> .inl rfl) (λj V=> ?_) (λb hb=> ?_) h.exr λj V=> ?_,oN,?_,xD⟩
 ·intro k
  rw[z];split
  ·omega
  ·exact g1 k
 ·exact vF h.sup (λk G=>xD k (by omega)) λk G aG=>C2 k G (by omega)
 ·rw[af]
  by_cases e:i=j
  ·subst e
   rw[aB rfl,IZ,aB rfl];refine .inr ⟨?_,rfl,rfl⟩;unfold dR fS;apply cX (by rw[iy,bJ]);intro k ac ay;rw[iy] at ac;have J:=kx Z (824+8*i) k ac;rw[z,aB (by rw[aF] at *;omega)] at J;rw[List.getElem_replicate];rw[aj,aD (by rw[iy];omega),eZ] at J;rw[aF];exact J
  ·rw[aA e,IZ,aA (cV e)]
   rcases h.each V with ⟨J,U⟩|⟨J,U,h3⟩
   ·refine .inl ⟨J,U.same (λk G=> ?_) λc hc k G=> ?_⟩
    ·rw[aF]
     exact C2 _ (by omega) (by omega)
    ·exact C2 _ (by omega) (by omega)
   ·refine .inr ⟨J.same λk G=> ?_,U,h3⟩
    rw[aF];exact C2 _ (by omega) (by omega)
 ·have J:=(G3 h.gots.len own hi bY [] b 32).2 hi
  have U:=h.once b hb;unfold xu at U ⊢;have e0:([]++dv bY).count b=0:=by
   have :([]++dv bY)=([]:List Nat):=by decide
   rw[this];rfl
  rw[e0] at J;have h4:=qT ae b;rw[Ol.1 b hb];by_cases ai:b=0
  ·subst ai
   have W:(0:Nat)∉nA T own i:=λh=>(ag 0 h).1 rfl
   rw[aA W] at h4;rw[gz,show jZ (nM T i bY) (IZ own i []) 32 0=jZ T own 32 0 by omega];exact U
  ·have h6:=g2 b hb ai
   by_cases W:b∈nA T own i
   ·rw[aB W] at h4
    have h7:=ak b W;have h8:=U.2.1 h7;rw[bq W,h7] at h6;refine⟨by omega,λh=>by rw[h6] at h;simp at h,λ_=>by omega⟩
   ·rw[aA W] at h4
    rw[aP W] at h6;rw[show dn Y b=dn X b by rw[h6];simp,show jZ (nM T i bY) (IZ own i []) 32 b=jZ T own 32 b by omega];exact U
 ·rw[af]
  by_cases e:i=j
  ·rw[aB e]
   intro hK;simp[bY] at hK
  ·rw[aA e]
   rcases h.each V with ⟨J,U⟩|⟨J,U,h3⟩
   ·exact vE U.len (h.tails j V) λc aC k G=>C2 _ (by omega) (by omega)
   ·rw[U]
    intro hK;simp[bY] at hK
 ·rw[Ol.2,ax]
theorem ru.bits(h:ru X T V own ex)(hl:Y.length=3128)(W:In64 Y)(ac:kX Y)(z:∀k,824<=k->k<1080->Y.getD k 0=X.getD k 0)
  (G:∀i,i<32->∀c∈own i,∀j,j<8->Y.getD (1080+8*c+j) 0=X.getD (1080+8*c+j) 0) (hu:∀b,b<256->xu V own b+ex'.count b<=1/\(dn Y b=true↔xu V own b+ex'.count b=1)) (hx:∀c∈ex',c≠0/\c<256) (aa:∀j,j<32->jS Y (nT V j)):ru Y T V own ex':=by
 refine h.change hl W ac h.gots.len h.vlen h.vir (λj hj=> ?_) hu hx aa;rcases h.each hj with ⟨J,h2⟩|⟨J,h2,h3⟩
 ·refine .inl ⟨J,h2.same (λk U=> ?_) λc hc k U=>G j hj c hc k U⟩
  rw[aF];exact z _ (by omega) (by omega)
 ·refine .inr ⟨J.same λk U=> ?_,h2,h3⟩
  rw[aF];exact z _ (by omega) (by omega)
theorem ru.virLen(h:ru X T V own U){j:Nat}(J:j<32):(nT V j).B.length=13\/nT V j=bY:=by
 rcases h.vir j with z|z
 ·rcases h.each J with ⟨-,G⟩|⟨-,G,-⟩
  ·exact .inl (by rw[z];exact G.len)
  ·exact .inr (by rw[z];exact G)
 ·exact .inr z
theorem ru.tailsKeep(h:ru X T V own ex)(hk:oU X Y l){j:Nat}(G:j<32)(hl:∀c∈dv (nT V j),c∉l):jS Y (nT V j):=by
 rcases h.virLen G with J|J
 ·refine vE J (h.tails j G) λc z k rM=> ?_
  have U:=h.rng G (bW _ z);exact hk c U.2 U.1 (h.used G (bW _ z)) (hl c z) k rM
 ·rw[J]
  intro W;simp[bY] at W
theorem Re (l:List Nat):∀(X:List Int),X.length=3128->(∀c∈l,c<256)->∀c∈l,∀j,j<8->(az X (dt X l)).getD (1080+8*c+j) 0=0:=by
 induction l with
 |nil=>intro X _ _ c G;simp at G
 |cons b l ih=>
  intro X hX hr c G j J;have e:dt X (b::l)=(eK X b true++gX b)++dt (az X (eK X b true++gX b)) l:=rfl;rw[e,br];by_cases z:c∈l
  ·exact ih _ (by rw[cy,hX]) (λc G=>hr c (by simp[G])) c z j J
  ·have V:c=b:=by
    rcases aM.1 G with h|h
    ·exact h
    ·exact absurd h z
   subst V;rw[dX _ _ _ λp hp=> ?_]
   ·rw[br]
    have W:∀(Y:List Int),Y.length=3128->∀m,m<=8->∀j,j<m->(az Y (mX c m)).getD (1080+8*c+j) 0=0:=by
     intro Y hY m;induction m with
     |zero=>intro _ j J;omega
     |succ m ihm=>
      intro hm j J;have aa:=hr c (by simp);rw[A1,br,oh,aF,jg _ _ _ _ (by rw[cy];omega)];by_cases e2:j=m
      ·rw[aB]
      ·rw[aA]
       exact ihm (by omega) j (by omega)
    exact W _ (by rw[cy,hX]) 8 (aI _) j J
   ·rcases qw _ _ p hp with U|U
    ·omega
    ·intro e2
     have :(p.1.toNat-1080)/8=c:=by omega
     rw[this] at U;exact z U.2
theorem ru.take(h:ru X T V own ex)(n:Nat):
  ru (az X (dt X ((aY X).take n))) T V own (ex++(aY X).take n)/\oU X (az X (dt X ((aY X).take n))) []/\(∀c∈(aY X).take n,∀j,j<8->(az X (dt X ((aY X).take n))).getD (1080+8*c+j) 0=0)/\
   (aY (az X (dt X ((aY X).take n))))=(aY X).drop n/\∀k,k<816->(az X (dt X ((aY X).take n))).getD k 0=X.getD k 0:=by
 have hm:∀c∈(aY X).take n,c≠0/\c<256:=qm;have hn:((aY X).take n).Nodup:=su;have oZ:∀c∈(aY X).take n,dn X c=false:=λc J=>(j5.1 (bL J)).2.2
 obtain⟨t1,t2,t3⟩:=nH ((aY X).take n) X h.w64 h.len hm;obtain⟨-,-,t4⟩:=FB h.w64 h.len n;have t5:=Re ((aY X).take n) X h.len λc J=>(hm c J).2
 have z:∀k,k<816\/(820<=k/\¬(1080<=k/\(k-1080)/8∈(aY X).take n))->(az X (dt X ((aY X).take n))).getD k 0=X.getD k 0:=λk U=>dX _ _ _ λp hp=>by
  rcases qw _ _ p hp with G|G
  ·omega
  ·intro e
   rcases U with W|W
   ·omega
   ·exact W.2 (by rw[<-e];exact G)
 generalize (aY X).take n=l at *;generalize az X (dt X l)=Y at *;have oN:oU X Y []:=λc J ac hu _ j hj=>z _ (.inr ⟨by omega,λG=>by
  have e:(1080+8*c+j-1080)/8=c:=by omega
  rw[e] at G;rw[oZ c G.2] at hu;cases hu⟩)
 refine⟨h.bits t2 t1 (vF h.sup (λk U=>z k (.inl (by omega))) λk U ae=>z k (.inr ⟨U,by omega⟩)) (λk U aa=>z k (.inr ⟨by omega,by omega⟩)) (λi hi c J j hj=> ?_) (λb hb=> ?_) (λc J=> ?_) λj hj=>h.tailsKeep oN hj (by simp),oN,t5,t4,λk U=>z k (.inl U)⟩
 ·have G:=h.rng hi (bT _ J)
  exact oN c G.2 G.1 (h.used hi (bT _ J)) (by simp) j hj
 ·have W:=h.once b hb
  have h4:=qT hn b;rw[fL,t3 b hb];by_cases g:b∈l
  ·rw[aB g] at h4
   have h5:=oZ b g;have h6:¬(xu V own b+ex.count b=1):=λe=>by rw[W.2.2 e] at h5;cases h5
   rw[bq g,Bool.or_true];exact⟨by omega,λ_=>by omega,λ_=>rfl⟩
  ·rw[aA g] at h4
   rw[aP g,Bool.or_false,h4,dE];exact W
 ·rcases aR.1 J with G|G
  ·exact h.exr c G
  ·exact hm c G
theorem ru.give(h:ru X T V own ex)(hl:∀b,b<256->l.count b+ex'.count b=ex.count b)(G:∀c∈l,c≠0/\c<256)(hx:∀c∈ex',c≠0/\c<256):
  ru (az X (ct X l)) T V own ex'/\oU X (az X (ct X l)) []/\(aY (az X (ct X l))).length=(aY X).length+l.length/\∀k,k<816\/820<=k->(az X (ct X l)).getD k 0=X.getD k 0:=by
 obtain⟨g1,g2,g3⟩:=iq l X h.w64 h.len;have gz:=C0 l X h.w64 h.len;have ac:l.Nodup:=by
  rw[List.nodup_iff_count];intro b;by_cases J:b∈l
  ·have h1:=(h.once b (G b J).2).1
   have h2:=hl b (G b J).2;omega
  ·rw[List.count_eq_zero.2 J];omega
 have aa:∀c∈l,dn X c=true:=λc W=>by
  have h1:=h.once c (G c W).2;have h2:=hl c (G c W).2;have h3:0<l.count c:=List.count_pos_iff.2 W;exact h1.2.2 (by omega)
 have ah:=sx G ac aa λc W af=>g2 c W af
 have z:∀k,k<816\/820<=k->(az X (ct X l)).getD k 0=X.getD k 0:=λk hk=>dX _ _ _ λp hp=>by have :=tF _ _ p hp;omega
 have ae:(az X (ct X l)).length=3128:=by rw[cy,h.len]
 generalize az X (ct X l)=Y at *;have oN:oU X Y []:=λc W af hu _ j hj=>z _ (.inr (by omega))
 refine⟨h.bits ae g1 (vF h.sup (λk hk=>z k (.inl (by omega))) λk hk aj=>z k (.inr hk)) (λk hk ai=>z k (.inr (by omega))) (λi hi c W j hj=>z _ (.inr (by omega))) (λb J=> ?_) hx λj hj=>h.tailsKeep oN hj (by simp),oN,ah,z⟩;have h2:=h.once b J;have h3:=hl b J;have h4:=qT ac b;by_cases ag:b=0
 ·subst ag
  have U:(0:Nat)∉l:=λh=>(G 0 h).1 rfl
  rw[aA U] at h4;rw[gz,show ex'.count 0=ex.count 0 by omega];exact h2
 ·have h6:=g2 b J ag
  by_cases U:b∈l
  ·rw[aB U] at h4
   have h7:=aa b U;have h8:=h2.2.1 h7;rw[bq U,h7] at h6;refine⟨by omega,λh=>by rw[h6] at h;simp at h,λ_=>by omega⟩
  ·rw[aA U] at h4
   rw[aP U] at h6;rw[show dn Y b=dn X b by rw[h6];simp,show ex'.count b=ex.count b by omega];exact h2
theorem ru.words(h:ru X T V own ex){i:Nat}(hi:i<32){qs:List (Int×Int)}(hq:∀p∈qs,1080<=p.1.toNat/\((p.1.toNat-1080)/8∈dv (nT V i)\/(p.1.toNat-1080)/8∈ex))(ae:In64 (az X qs))(ht:jS (az X qs) (nT V i)):
  ru (az X qs) T V own ex/\oU X (az X qs) (dv (nT V i)++ex)/\aY (az X qs)=aY X/\∀k,k<1080->(az X qs).getD k 0=X.getD k 0:=by
 have z:∀k,k<1080->(az X qs).getD k 0=X.getD k 0:=λk W=>dX _ _ _ λp hp=>by have :=(hq p hp).1;omega
 have J:∀c,c∉dv (nT V i)->c∉ex->∀j,j<8->(az X qs).getD (1080+8*c+j) 0=X.getD (1080+8*c+j) 0:=λc U h2 j G=>dX _ _ _ λp hp e=>by
  have h3:=(hq p hp).2;have e2:(p.1.toNat-1080)/8=c:=by omega
  rw[e2] at h3;rcases h3 with h3|h3
  ·exact U h3
  ·exact h2 h3
 have Ol:=CU (X:=X) (Y:=az X qs) λk W=>z k (by omega)
 have aa:(az X qs).length=3128:=by rw[cy,h.len]
 generalize az X qs=Y at *;refine⟨h.bits aa ae (vF h.sup (λk W=>z k (by omega)) λk W ag=>z k (by omega)) (λk W af=>z k af) (λj G c hc k W=> ?_) (λb hb=>by rw[Ol.1 b hb];exact h.once b hb) h.exr λj G=> ?_,λc _ _ _ hn j G=>J c (λh=>hn (bT _ h)) (λh=>hn (bW _ h)) j G,Ol.2,z⟩
 ·refine J c (λU=> ?_) (λU=>h.apartEx G (bT _ hc) U) k W
  by_cases e:j=i
  ·subst e;exact h.inner G hc U
  ·exact h.apart G hi e (bT _ hc) (bW _ U)
 ·by_cases e:j=i
  ·subst e;exact ht
  ·rcases h.virLen G with h2|h2
   ·exact vE h2 (h.tails j G) λc ac k W=>J c (λU=>h.apart G hi e (bW _ ac) (bW _ U)) (λU=>h.apartEx G (bW _ ac) U) k W
   ·rw[h2]
    intro hK;simp[bY] at hK
theorem ru.heads(h:ru X T V own ex){qs:List (Int×Int)}(hq:∀p∈qs,p.1=1\/p.1=2)(J:In64 (az X qs))(hs:kX (az X qs)):
  ru (az X qs) T V own ex/\oU X (az X qs) []/\aY (az X qs)=aY X:=by
 have z:∀k,3<=k->(az X qs).getD k 0=X.getD k 0:=λk hk=>dX _ _ _ λp hp=>by have :=hq p hp;omega
 have G:(az X qs).length=3128:=by rw[cy,h.len]
 have hu:(∀c,c<256->dn (az X qs) c=dn X c):=λc W=>by
  unfold dn bw;rw[z _ (by omega)]
 have U:aY (az X qs)=aY X:=uE λc W _=>hu c W
 generalize az X qs=Y at *;have oN:oU X Y []:=λc _ _ _ _ j _=>z _ (by omega)
 exact⟨h.bits G J hs (λk hk _=>z k (by omega)) (λi _ c _ j _=>z _ (by omega)) (λb hb=>by rw[hu b hb];exact h.once b hb) h.exr λj hj=>h.tailsKeep oN hj (by simp),oN,U⟩
def fU (w:World) (v:Value) (g:Nat) (P:List ByteArray):Prop:=Reads w v g (P.map Value.string)
def lq (P:List ByteArray) (k:Nat):ByteArray:=P.getD k ByteArray.empty
theorem Zi (h:k<P.length):lq P k∈P:=by
 have :P.getD k ByteArray.empty=P[k]:=by simp[h]
 rw[lq,this];exact bM h
theorem acn (h:k<P.length):P.drop k=lq P k::P.drop (k+1):=by
 have :P.getD k ByteArray.empty=P[k]:=by simp[h]
 rw[kz h,lq,this]
theorem fU.keep{w':World}(h:fU w v g P){l:List Nat}(G:ay l w w')(z:g∉l:=by simp):fU w' v g P:=Reads.keep h G z
theorem fU.open(h:fU w v g P):∃a cap,v= .slice a P.length cap/\P.length<=cap/\cap<=maxLen/\
  Hid (∀k,k<P.length->g<w.heap.size/\∃off,a=some ⟨g,off,none⟩/\w.cell? ⟨g,off+k,none⟩=some (.string (lq P k))):=by
 obtain⟨a,cap,G,h2,W,U⟩:=h;rw[b7] at *;refine⟨a,cap,G,h2,W,λk z=> ?_⟩;obtain⟨V,off,J,h7⟩:=U (by intro e;rw[List.map_eq_nil_iff] at e;rw[e] at z;simp at z);refine⟨V,off,J,(h7 k z).trans ?_⟩;rw[bO,aD z,lq,aj,aD z];rfl
theorem fU.init{a:Option Addr}{cap:Nat}(h:fU w (.slice a m cap) g P):fU w (.slice a (m-1) cap) g P.dropLast:=by
 obtain⟨a',J,U,h2,h3,h4⟩:=h;cases U;rw[b7] at *;refine⟨a,cap,by rw[b7,jd],by rw[b7,jd];omega,h3,λW=> ?_⟩;have z:P.dropLast≠[]:=λe=>W (by rw[e];rfl)
 have G:0<P.dropLast.length:=List.length_pos_iff.2 z;rw[jd] at G;obtain⟨h5,off,V,h7⟩:=h4 (by intro e;rw[List.map_eq_nil_iff] at e;rw[e] at G;simp at G);refine⟨h5,off,V,λj hj=> ?_⟩;rw[b7,jd] at hj;rw[h7 j (by omega),bO,bO,aD (show j<P.length by omega),aD (show j<P.dropLast.length by rw[jd];omega),List.getElem_dropLast]
theorem G7 (P:List ByteArray):lY P=true↔∀k,k<P.length->ig (bl (lq P k))=true:=by
 unfold lY;rw[iM];constructor
 ·exact λh k z=>h _ (Zi z)
 ·intro h s G
  obtain⟨k,z,rfl⟩:=b9 G;have :=h k z;rwa[lq,show P.getD k ByteArray.empty=P[k] by simp[z]] at this
theorem G8 (h:fU w v g P)(hs:∀s∈P,s.size<=9223372036854775807):
  Calls prog 194 #[v] w λe w'=>e=(lY P:Bool)/\w=w':=by
 obtain⟨a,cap,rfl,aa,U,zr⟩:=h.open;have HG:Hid (∀k,k<P.length->∀G,Calls prog 176 #[.string (lq P k)] G λe w'=>e=(ig (bl (lq P k)):Bool)/\G=w'):=λk W G=>KO _ (hs _ (Zi W)) G
 have HT:Hid ((∀k,k<P.length->ig (bl (lq P k))=true)->lY P=true):=(G7 P).2;have V:Hid (∀k,k<P.length->ig (bl (lq P k))=false->lY P=false):=λk W hf=>by
  cases e:lY P
  ·rfl
  ·rw[(G7 P).1 e k W] at hf;cases hf
 unfold maxLen at U;clear h hs;generalize lY P=gP,hm:P.length=m at *;clear hm;go_in;go_wp2_with fail;go_loopg [7] m (λgh s7 G=>∃k:Nat,k+gh=m/\s7= .int .i64 (k:Int)/\G=w/\Hid (∀j,j<k->ig (bl (lq P j))=true))
 case atStart=>exact⟨0,by omega,rfl,rfl,λj hj=>by omega⟩
 case round=>
  obtain⟨k,W,rfl,rfl,J⟩:=hrel;cases gk with
  |zero=>
   obtain rfl:k=m:=by omega
   have HR:=ar (HT.out J.out);clear HT V J HG;go_wp2;go_ret;exact⟨by rw[HR.out];rfl,rfl⟩
  |succ gg=>
   have FW:k<m:=by omega
   have ac:(k:Int)<(m:Int):=by omega
   have cM:(0:Int)<=(k:Int):=by omega
   obtain⟨ae,off,rfl,c0⟩:=zr.out k FW;have z:=ar (HG.out k FW);cases hb:ig (bl (lq P k)) with
   |false=>
    have HR:=ar (V.out k FW hb);rw[hb] at z;clear HT V J HG zr hb;generalize lq P k=nk at *;go_wp2_with fail;refine C' (z.out _) ?_;go_wp2;go_ret;exact⟨by rw[HR.out];rfl,rfl⟩
   |true=>
    have mP:Hid (∀j,j<k+1->ig (bl (lq P j))=true):=λj hj=>by
     by_cases e:j=k
     ·rw[e];exact hb
     ·exact J.out j (by omega)
    rw[hb] at z;clear HT V J HG zr hb;generalize lq P k=nk at *;go_wp2_with fail;refine C' (z.out _) ?_;go_wp2;go_roundg gg;case measure=>omega
    case rel=>exact⟨k+1,by omega,by go_num,rfl,mP.out⟩
def wM (w:World) (n:bS) (e:Ending) (w':World):Prop:=
 ay [] w w'/\((n.K=2/\∃v g,e= .returned (.tuple #[aL n v,(0:Int)])/\n.B.length=13/\bD w' v g n.E/\w.heap.size<=g)\/(n.K≠2/\e= .returned (.tuple #[aL bY (.slice none 0 0),(4:Int)])))
theorem BD (h:gK w b gp B ps T own){i:Nat}(hi:i<32)(hF:(nT T i).F≠0):
  Calls prog 196 #[b,(i:Int)] w (wM w (nT T i)):=by
 have cM:ay [] w (w.alloc (.cells (aL bY (.slice none 0 0)) 75)):=(ay.refl _ _).alloc _;have hG:=(h.keep0 cM).get hi;unfold yV at hG;obtain⟨HG,CI⟩:=hh2 hG (bc.new w (aL bY (.slice none 0 0)) 75);have rq:=dC;have lJ:=ar (aU w (.cells (aL bY (.slice none 0 0)) 75));have HP:Hid (∀e w',wM w (nT T i) e w'->wM w (nT T i) e w'):=λ_ _ h=>h
 have Qv:=ar hF;clear h hF hG;generalize nT T i=n,W:aL bY (.slice none 0 0)=Z0 at *;have jt:=ar W;have Fb:Hid (Z0.size=18):=by show _=_;rw[<-W];rfl
 clear W;obtain⟨W0,V⟩:∃W0,w.alloc (.cells Z0 75)=W0:=⟨_,rfl⟩;rw[V] at HG CI cM lJ;obtain⟨rf,fG⟩:=hh2 V cM;clear V cM;go_in;go_wp2_with fail;rw[rf.out];refine HG.out.mono ?_;rintro e w1 ⟨v,g,va,ga,r,rfl,z,hE,hg,-,-,J,hr⟩;have Ii:r=0:=by
  have :=Qv.out;omega
 subst Ii;clear hr;obtain⟨w2,p1,p2,p3⟩:=cr (n:=n) (v:=v) (bc.new w1 Z0 75) Fb.out z hE.one;have aa:ay [] W0 w2:=(J.alloc _).trans p3 (by intro x G;rw[au] at G;have :=J.size;omega);obtain⟨jh,rJ⟩:=hh2 p1 (bZ p2 z);have Md:bD w2 v g n.E:=hE.keep ((((ay.refl [] w1).alloc _).mono).trans' p3) (λh0=>hE.apart (l:=[w1.heap.size]) (λx G=>by rw[au] at G;omega) h0);have c1:w2.cell? ⟨w1.heap.size,1,none⟩=some (.int .i64 n.K):=by rw[p2.cell];exact(fT v z).f1
 obtain⟨fC,ry,HB,UL⟩:=hh4 aa Md z hg;clear p1 p2 p3 aa Md hE hg J HG;by_cases hK:n.K=2
 ·obtain⟨w3,q1,q2,q3⟩:=cr (n:=n) (v:=v) (CI.out.keep fC.out) Fb.out z ry.out.one
  obtain⟨o5,uk⟩:=hh2 q1 (bZ q2 z);have HF:Hid (wM w n (.returned (.tuple #[aL n v,(0:Int)])) w3):=by
   have h1:=fG.out.size;have h2:=UL.out;have h3:=lJ.out;refine⟨(fG.out.trans' fC.out).trans q3 (by intro x G;rw[au] at G;omega),.inl ⟨hK,v,g,rfl,z,ry.out.keep q3 (λ_=>by rw[au];omega),by omega⟩⟩
  rw[hK] at c1;clear q1 q2 q3 z hK HP HB;generalize aL n v=ZN at *;go_wp2_with(with_reducible first|refine gS 75 jh.out ?_|refine gL 75 rJ.out ?_|refine gS 75 o5.out ?_);exact aH (eI results196 rfl uk.out rfl) rfl HF.out
 ·obtain⟨w3,q1,q2,q3⟩:=cr (n:=bY) (v:= .slice none 0 0) (CI.out.keep fC.out) Fb.out rfl rfl
  have U:=bZ q2 rfl;have HF:Hid (wM w n (.returned (.tuple #[aL bY (.slice none 0 0),(4:Int)])) w3):=by
   have h1:=fG.out.size;have h3:=lJ.out;exact⟨(fG.out.trans' fC.out).trans q3 (by intro x G;rw[au] at G;omega),.inr ⟨hK,rfl⟩⟩
  rw[jt.out] at q1 U HF;obtain⟨o5,uk⟩:=hh2 q1 U;have bK:(n.K==2)=false:=by simpa using hK
  clear q1 q2 q3 z hK HP HB U;generalize aL n v=ZN,n.K=K at *;go_wp2_with(with_reducible first|refine gS 75 jh.out ?_|refine gS 75 o5.out ?_);exact aH (eI results196 rfl uk.out rfl) rfl HF.out
structure Lz (M:Nat->Nd) (T:List (bS×Value)):Prop where
 tree:dB M
 kind:∀i,(M i).K=(nT T i).K
 ents:∀i,(M i).E=(nT T i).E
 form:∀i,(M i).K≠0->(nT T i).F≠0
theorem Om {M:Nat->Nd}:∀(p:List ByteArray) (a:Nat),(iI M a p).2≠0->(iI M a p).1=0
 | [],a,h=>absurd rfl h
 |x::p,a,h=>by
  have e:iI M a (x::p)=if (M a).K=2 then (if ba (M a).E x<0 then (0,2) else iI M (ba (M a).E x).toNat p) else (0,4):=rfl
  rw[e] at h ⊢;split at h
  ·next h1=>
   rw[aB h1];split at h
   ·next h2=>rw[aB h2]
   ·next h2=>rw[aA h2];exact Om p _ h
  ·next h1=>rw[aA h1]
theorem Rf (M:Nat->Nd)(a:Nat)(x:ByteArray)(p:List ByteArray):iI M a (x::p)=if (M a).K=2 then (if ba (M a).E x<0 then (0,2) else iI M (ba (M a).E x).toNat p) else (0,4):=rfl
def G9 (w:World) (r:Nat×Int) (e:Ending) (w':World):Prop:=e= .returned (.tuple #[(r.1:Int),.int .i64 r.2])/\ay [] w w'
theorem Oo (h:gK w b gp B ps T own){M:Nat->Nd}(V:Lz M T){v:Value}{g:Nat}{P:List ByteArray}(hP:fU w v g P):
  Calls prog 195 #[b,v] w (G9 w (iI M 0 P)):=by
 obtain⟨a,cap,rfl,aF,aC,zr⟩:=hP.open;have HD:Hid (∀x,(M x).K≠0->∀U,ay [] w U->Calls prog 196 #[b,(x:Int)] U (wM U (nT T x))):=λx W U hk=>
  BD (h.keep0 hk) (V.tree.rng W) (V.form x W)
 have qN:Hid (∀x,(M x).K=2->∀U v g s,bD U v g (nT T x).E->(nT T x).B.length=13->Calls prog 162 #[aL (nT T x) v,.string s] U λe w'=>
   ∃(r:Int) (ok:Bool),e= .returned (.tuple #[(r:Int),ok])/\ay [] U w'/\((ba (M x).E s<0/\ok=false)\/(0<=ba (M x).E s/\ok=true/\r=ba (M x).E s))):=λx W U v g s hE hB=>by
  obtain⟨A,X,B',hs⟩:=lA (V.tree.rises x) s;have h1:=lC hs λq hq=>(V.tree.lead x q hq).1.1
  rw[V.ents x] at hs;have hl:=h.gots.elen x;refine Rr (SZ (nT T x) hB hE hs (by omega)) λw' hk=> ?_;refine⟨_,_,rfl,hk,?_⟩;rcases Int.lt_or_le (ba (M x).E s) 0 with h2|h2
  ·exact .inl ⟨h2,by rw[h1.1.1 h2];rfl⟩
  ·exact .inr ⟨h2,by rw[h1.2 h2];rfl,by rw[h1.2 h2];rfl⟩
 have ai:Hid (∀x k,k<P.length->iI M x (P.drop k)=if (M x).K=2 then (if ba (M x).E (lq P k)<0 then (0,2) else iI M (ba (M x).E (lq P k)).toNat (P.drop (k+1))) else (0,4)):=λx k hk=>by rw[acn hk,Rf]
 have EI:Hid (∀x,iI M x (P.drop P.length)=(x,0)):=λx=>by rw[List.drop_length];rfl
 have mV:Hid (∀x s,(M x).K=2->0<=ba (M x).E s->(M (ba (M x).E s).toNat).K≠0/\(((ba (M x).E s).toNat:Nat):Int)=ba (M x).E s):=λx s _ hf=>⟨(iY V.tree hf).2.1,(iY V.tree hf).2.2.1⟩
 have PE:Hid (∀x,(nT T x).K=(M x).K):=λx=>(V.kind x).symm
 have h0:Hid (iI M 0 P=iI M 0 (P.drop 0)/\(M 0).K≠0):=⟨rfl,by rw[V.tree.root];omega⟩;have rq:=dC;have G:Hid (∀(r:Nat×Int) w',iI M 0 P=r->ay [] w w'->G9 w (iI M 0 P) (.returned (.tuple #[(r.1:Int),.int .i64 r.2])) w'):=λr w' h1 h2=>by rw[h1];exact⟨rfl,h2⟩
 unfold maxLen at aC;clear h V hP;generalize hS:iI M 0 P=S at *;clear hS;generalize hm:P.length=m at *;clear hm;generalize ak:aL bY (.slice none 0 0)=Z0 at *;have jt:=ar ak;have Fb:Hid (Z0.size=18):=by show _=_;rw[<-ak];rfl
 clear ak;go_in;go_wp2_with fail;go_loopg [6,15] m (λgh s6 s15 U=>∃k x:Nat,k+gh=m/\s15= .int .i64 (k:Int)/\s6= .int .i64 (x:Int)/\Hid (ay [] w U)/\Hid (S=iI M x (P.drop k)/\(M x).K≠0))
 case atStart=>exact⟨0,0,by omega,rfl,rfl,ay.refl _ _,h0.out⟩
 case round=>
  clear h0;obtain⟨k,x,hk,rfl,rfl,tT,HP⟩:=hrel;cases gk with
  |zero=>
   obtain rfl:k=m:=by omega
   have HF:=ar (G.out (x,0) _ (HP.out.1.trans (EI.out x)) tT.out);clear HP G EI mV ai qN HD zr;go_wp2;go_ret2;exact HF.out
  |succ gg=>
   have FW:k<m:=by omega
   have aG:(k:Int)<(m:Int):=by omega
   have cM:(0:Int)<=(k:Int):=by omega
   obtain⟨ax,off,rfl,c0⟩:=zr.out k FW;have aH:=(aO (w:=w) (a:=⟨g,off+k,none⟩) (tT.out.block g ax (by simp))).trans c0;obtain⟨ah,z,aj,ac⟩:=hh4 (HD.out x HP.out.2 _ tT.out) (HP.out.1.trans (ai.out x k FW)) (qN.out x) (mV.out x (lq P k));have J:=PE.out x;clear HD qN ai mV HP EI c0 ax;generalize lq P k=nk,nT T x=n at *;go_wp2_with fail;refine ah.out.mono ?_;rintro e w1 ⟨aa,⟨hK,v,g1,rfl,hB,hE,aD⟩|⟨hK,rfl⟩⟩
   ·obtain⟨w2,p1,p2,p3⟩:=cr (n:=n) (v:=v) (bc.new w1 Z0 75) Fb.out hB hE.one
    obtain⟨jh,rJ⟩:=hh2 p1 (bZ p2 hB);have Md:bD w2 v g1 n.E:=hE.keep ((((ay.refl [] w1).alloc _).mono).trans' p3) (λh0=>hE.apart (l:=[w1.heap.size]) (λx W=>by rw[au] at W;omega) h0);have fC:Hid (ay [] w w2):=(tT.out.trans' aa).trans (((ay.refl [] w1).alloc _).trans p3 (by intro x W;rw[au] at W;omega));have ag:=ar (aj.out (J▸hK) w2 v g1 nk Md hB);have ae:(M x).K=2:=by rw[<-J];exact hK
    rw[aB ae] at z;clear p1 p2 p3 hE Md hB aD aa aj ah hK J;generalize aL n v=ZN at *;go_wp2_with(with_reducible first|refine gS 75 jh.out ?_|refine gL 75 rJ.out ?_);refine ag.out.mono ?_;rintro e w3 ⟨r,ok,rfl,af,⟨hf,rfl⟩|⟨hf,rfl,rfl⟩⟩
    ·have HF:=ar (G.out (0,2) w3 (by rw[z.out,aB hf]) (fC.out.trans' af))
     clear z G ac af hf ae ag;go_wp2;go_ret2;exact HF.out
    ·obtain⟨av,az⟩:=ac.out ae hf
     have HN:Hid (ay [] w w3/\S=iI M (ba (M x).E nk).toNat (P.drop (k+1))/\(M (ba (M x).E nk).toNat).K≠0):=⟨fC.out.trans' af,by rw[z.out,aA],av⟩;clear z G ac af hf ae ag av;rw[<-az];generalize (ba (M x).E nk).toNat=y at *;clear az;go_wp2;go_roundg gg;case measure=>omega
     case rel=>exact⟨k+1,y,by omega,by go_num,rfl,HN.out.1,HN.out.2⟩
   ·obtain⟨w2,p1,p2,p3⟩:=cr (n:=bY) (v:= .slice none 0 0) (bc.new w1 Z0 75) Fb.out rfl rfl
    have jh:=ar p1;have fC:Hid (ay [] w w2):=(tT.out.trans' aa).trans (((ay.refl [] w1).alloc _).trans p3 (by intro x W;rw[au] at W;omega));have HF:=ar (G.out (0,4) w2 (by rw[z.out,aA (by rw[<-J];exact hK)]) fC.out);clear p1 p2 p3 aa aj ah hK J z G ac;go_wp2_with(with_reducible refine gS 75 jh.out ?_);go_ret2;exact HF.out
theorem Zj (h:gK w b gp B ps T own){M:Nat->Nd}(hA:Lz M T){v:Value}{g:Nat}{P:List ByteArray}(z:fU w v g P)(U:∀s∈P,s.size<=9223372036854775807):
  Calls prog 165 #[b,v] w (G9 w (cO M P)):=by
 obtain⟨W,J⟩:=hh2 (G8 z U) (Oo h hA z);obtain⟨a,cap,rfl,-,-,-⟩:=z.open;have G:Hid (cO M P=if lY P=true then iI M 0 P else (0,1)):=rfl;clear h hA z U;generalize cO M P=R,iI M 0 P=S,lY P=gP at *;cases gP with
 |true=>
  have e:R=S:=G.out;subst e;clear G;go_in;go_wp2_with fail;refine C' W.out ?_;go_wp2_with fail;refine Rr J.out λw' V=> ?_;have HK:=ar V;clear V;go_wp2;go_ret2;exact⟨rfl,HK.out⟩
 |false=>
  have e:R=(0,1):=G.out;subst e;clear G J;go_in;go_wp2_with fail;refine C' W.out ?_;go_wp2;go_ret2;exact⟨rfl,ay.refl _ _⟩
def rT (w:World) (r:Nat×Int) (nm:ByteArray) (e:Ending) (w':World):Prop:=
 ay [] w w'/\((r.2=0/\e= .returned (.tuple #[(r.1:Int),.string nm,(0:Int)]))\/(r.2≠0/\e= .returned (.tuple #[(0:Int),.string ⟨#[]⟩,.int .i64 r.2])))
def ma (X:List Int) (n:bS) (k:Nat):Int:=if n.B.getD (k/64) 0=0 then 0 else ((rG (X.getD (1080+8*(n.B.getD (k/64) 0).toNat+k%64/8) 0).toNat (k%8):Nat):Int)
def pW (X:List Int) (n:bS):List Int:=(List.range n.S.toNat).map (ma X n)
def sA (X:List Int) (n:bS):Nd:=⟨n.K,n.L,if n.K=1 then pW X n else [],n.E⟩
theorem Zk (X:List Int):sA X bY=vQ:=rfl
theorem Ke (X:List Int)(n:bS)(k:Nat):0<=ma X n k/\ma X n k<256:=by
 unfold ma;split
 ·omega
 ·have :=B0 (X.getD (1080+8*(n.B.getD (k/64) 0).toNat+k%64/8) 0).toNat (k%8)
  omega
theorem mM (X:List Int)(n:bS):(pW X n).length=n.S.toNat:=by simp[pW]
theorem sB (X:List Int)(n:bS){k:Nat}(h:k<n.S.toNat):(pW X n).getD k 0=ma X n k:=by
 simp[pW,h]
theorem BF (hB:n.B.length=13)(G:n.K=1->n.S<=832)(U:∀c∈dv n,∀j,j<8->Y.getD (1080+8*c+j) 0=X.getD (1080+8*c+j) 0):sA Y n=sA X n:=by
 unfold sA;by_cases h:n.K=1
 ·rw[aB h,aB h]
  have e:pW Y n=pW X n:=by
   unfold pW;apply dL;intro k V;rw[cu] at V;unfold ma;by_cases z:n.B.getD (k/64) 0=0
   ·rw[aB z,aB z]
   ·rw[aA z,aA z]
    have W:=G h;have J:(n.B.getD (k/64) 0).toNat∈dv n:=by
     unfold dv eA;refine bH.2 ⟨n.B.getD (k/64) 0,List.mem_filter.2 ⟨?_,by simpa using z⟩,rfl⟩;rw[aW (by omega),aj,aD (by omega)];exact bM _
    rw[U _ J (k%64/8) (by omega)]
  rw[e]
 ·rw[aA h,aA h]
structure l6 (X:List Int) (T:List (bS×Value)) (own:Nat->List Nat) (ex:List Nat) (M:Nat->Nd):Prop where
 st:StX X T own ex
 abs:∀i,M i=sA X (nT T i)
 tree:dB M
theorem tG (h:cm n)(G:n.K=1):0<=n.S/\n.S<=832:=by
 rcases h.2.2 with z|z
 ·exact z.2.1
 ·omega
theorem l6.agree{G:List Nat}(h:l6 X T own G M):Lz M T:=by
 refine⟨h.tree,λi=>by rw[h.abs];rfl,λi=>by rw[h.abs];rfl,λi J hF=>J ?_⟩;rw[h.abs];show(nT T i).K=0;rcases h.st.gots.form i with ⟨z,-⟩|⟨-,U,-⟩
 ·exact absurd hF z
 ·rw[U];rfl
theorem l6.few(h:l6 X T own ex M):mW M:=by
 have W:∀i,cm (nT T i)\/nT T i=bY:=λi=>by
  rcases h.st.gots.form i with ⟨-,-,z⟩|⟨-,U,-⟩
  ·exact .inl z.right
  ·exact .inr U
 refine⟨λi e G=> ?_,λi=> ?_,λi=> ?_,λi x J=> ?_⟩
 ·rw[h.abs] at G
  have G:e∈(nT T i).E:=G;rcases W i with z|z
  ·rcases z.2.2 with ⟨-,U⟩|⟨-,U⟩
   ·have :=List.length_eq_zero_iff.1 U.2.1
    rw[this] at G;simp at G
   ·obtain⟨k,V,rfl⟩:=b9 G
    have :=(U.2.2.2 k V).1;rwa[show eY (nT T i).E k=(nT T i).E[k].1 by simp[eY,V]] at this
  ·rw[z] at G;simp[bY] at G
 ·rw[h.abs]
  exact h.st.gots.elen i
 ·rw[h.abs]
  unfold sA
  dsimp only
  split
  ·next hK=>
   rw[mM];rcases W i with z|z
   ·have :=tG z hK;omega
   ·rw[z] at hK;simp[bY] at hK
  ·simp
 ·rw[h.abs] at J
  unfold sA at J
  dsimp only at J
  split at J
  ·obtain⟨k,-,rfl⟩:=bH.1 J
   exact Ke X _ k
  ·simp at J
theorem Oq (h:∀i,M i=sA X (nT T i))(i:Nat):∀k,J7 T k i=lf M k i:=by
 intro k;induction k with
 |zero=>rfl
 |succ k ih=>
  show J7 T k i+zx (nT T k).E (nT T k).E.length i=lf M k i+tD (M k).E i;rw[ih,h k]
  congr 1
  unfold zx tD;rw[gi];rfl
theorem Ha (h:∀i,M i=sA X (nT T i))(hN:Q0 T)(ho:∀i,32<=i->(nT T i).E=[])(i:Nat):Reach T 0 (i:Int)↔kI M 0 i:=by
 constructor
 ·intro hr
  have V:∀x,Reach T 0 x->∃n:Nat,x=(n:Int)/\kI M 0 n:=by
   intro x W;induction W with
   |here=>exact⟨0,rfl,.here⟩
   | @step a b _ hb ih=>
    obtain⟨n,rfl,hn⟩:=ih;have J:=hN _ b hb;obtain⟨m,rfl⟩:∃m:Nat,b=(m:Int):=⟨b.toNat,by omega⟩;unfold oO at hb;split at hb
    ·obtain⟨e,U,z⟩:=bH.1 hb
     rw[aF] at U;exact⟨m,rfl,hn.step ⟨e,by rw[h];exact U,z⟩⟩
    ·simp at hb
  obtain⟨n,J,h2⟩:=V _ hr;rw[show i=n by omega];exact h2
 ·intro hc
  induction hc with
  |here=>exact .here
  | @step a b _ U ih=>
   obtain⟨e,G,z⟩:=U;rw[h] at G;have G:e∈(nT T a).E:=G;have ha:a<32:=by
    rcases dF a 32 with J|J
    ·exact J
    ·rw[ho a J] at G;simp at G
   refine ih.step ?_;unfold oO;rw[aB,aF];exact bH.2 ⟨e,G,z⟩
theorem BG (h:rF X T own):∀i,32<=i->(nT T i).E=[]:=λi z=>by rw[h.zero z];rfl
theorem l6.free{V:List Nat}(h:l6 X T own V M){i:Nat}(W:i<32):dR X (i:Int)↔(M i).K=0:=by
 rw[h.abs];show _↔(nT T i).K=0;rcases h.st.each W with ⟨G,z⟩|⟨G,z,-⟩
 ·refine⟨λJ=>absurd J z.notFree,λJ=> ?_⟩
  rcases z.right.2.2 with U|U<;>omega
 ·exact⟨λ_=>by rw[z];rfl,λ_=>G⟩
theorem l6.points(h:l6 X T own [] M):∀j,j<7->tB X T own j:=by
 have U:=λi=>Oq h.abs i 32
 intro j hj;rcases (show j=0\/j=1\/j=2\/j=3\/j=4\/j=5\/j=6 by omega) with rfl|rfl|rfl|rfl|rfl|rfl|rfl
 ·exact h.st.sup
 ·exact h.st.all
 ·refine⟨by have :=h.tree.root;rw[h.abs] at this;exact this,λi G hl J=> ?_⟩
  have z:0<lf M 32 i:=by rw[<-U];exact hl
  obtain⟨a,-,W⟩:=qR.1 z;exact(h.tree.dir W).2.2.1 ((h.free G).1 J)
 ·intro i G
  have z:=h.tree.links i G;rw[<-U] at z;have e1:(M i).K=(nT T i).K:=by rw[h.abs];rfl
  have e2:(M i).L=(nT T i).L:=by rw[h.abs];rfl
  rw[e1,e2] at z;exact z
 ·intro i G J
  rw[Ha h.abs h.st.gots.tabN (BG h.st.gots)];exact h.tree.reach i λh0=>J ((h.free G).2 h0)
 ·intro b V
  have :=h.st.once b V;rwa[List.count_nil,dE] at this
 ·exact h.st.tails
theorem aeQ (hl:X.length=3128)(ae:In64 X)(U:rF X T own)(hp:∀j,j<7->tB X T own j):∃M,l6 X T own [] M:=by
 refine⟨λi=>sA X (nT T i),⟨hl,ae,hp 0 (by omega),U,hp 1 (by omega),λb hb=>by rw[List.count_nil,dE];exact hp 5 (by omega) b hb,by simp,hp 6 (by omega),U.len,λ_=> .inl rfl⟩,λ_=>rfl,?_⟩;have ac:∀i,(λi=>sA X (nT T i)) i=sA X (nT T i):=λ_=>rfl
 have yl:=λi=>Oq ac i 32
 have h2:N0 X T:=hp 2 (by omega);have h3:ye T:=hp 3 (by omega);have h4:GY X T:=hp 4 (by omega);have G:∀i:Nat,i<32->(¬dR X (i:Int)↔(nT T i).K≠0):=λi J=>by
  rcases U.form i with ⟨-,-,z⟩|⟨z,h6,-⟩
  ·refine⟨λ_=> ?_,λ_=>z.notFree⟩
   rcases z.right.2.2 with W|W<;>omega
  ·rw[h6]
   refine⟨λW=> ?_,λW=>absurd rfl W⟩;rcases (show wK X T from hp 1 (by omega)) i J with V|V
   ·exact absurd V W
   ·exact absurd z V
 have aa:∀i,32<=i->sA X (nT T i)=vQ:=λi J=>by rw[U.zero J];rfl
 refine⟨aa,λi=> ?_,h2.1,λi e he=> ?_,λi=> ?_,λi J=> ?_,λi J=> ?_⟩
 ·rcases U.form i with ⟨-,-,z⟩|⟨-,h6,-⟩
  ·rcases z.right.2.2 with ⟨W,V⟩|⟨W,V⟩
   ·exact .inr (.inl ⟨W,List.length_eq_zero_iff.1 V.2.1⟩)
   ·exact .inr (.inr ⟨W,aA (by rw[W];decide)⟩)
  ·exact .inl (by rw[h6];rfl)
 ·have he:e∈(nT T i).E:=he
  have J:i<32:=by
   rcases dF i 32 with h|h
   ·exact h
   ·rw[BG U i h] at he;simp at he
  have z:=U.tabN (i:Int) e.2 (by
   unfold oO;rw[aB,aF];exact bH.2 ⟨e,he,rfl⟩)
  refine⟨z,?_⟩;have h6:0<lM T e.2.toNat:=by
   unfold lM;rw[yl];exact qR.2 ⟨i,J,e,he,by omega⟩
  exact(G _ (by omega)).1 (h2.2 _ (by omega) h6)
 ·show yc (nT T i).E
  rcases U.form i with ⟨-,-,z⟩|⟨-,h6,-⟩
  ·rcases z.right.2.2 with ⟨-,V⟩|⟨-,V⟩
   ·rw[List.length_eq_zero_iff.1 V.2.1];exact List.Pairwise.nil
   ·exact JZ V
  ·rw[h6];exact List.Pairwise.nil
 ·have z:=h3 i J
  unfold tA lM at z;rw[yl] at z;exact z
 ·have jr:i<32:=by
   rcases dF i 32 with h|h
   ·exact h
   ·rw[aa i h] at J;exact absurd rfl J
  exact(Ha ac U.tabN (BG U) i).1 (h4 i jr ((G i jr).2 J))
theorem VH (h:Fm xs):aX xs=Qk (xs.map Int.toNat):=by
 rw[Qk,aX,List.map_map];apply dL;intro z G;have :=h z G;simp only[Function.comp_apply];rw[jz this.1]
theorem aco{gb:Nat}(h:Reads w v gb (aX xs))(z:Fm xs):
  Calls prog 134 #[v] w λe w'=>e= .returned (.int .u32 (Mj (xs.map Int.toNat):Nat))/\ay [] w w':=by
 rw[VH z] at h;exact XX h
def calm (xs:List Int) (d:Int):kp:={ now:=xs,last:=xs,fl:=List.replicate ((xs.length+7)/8*8) false,deeds:=d,fused:=false,left:=0 }
def C3 (n:Nat) (qs:List (Int×Int)):List Bool:=(List.range n).map λi=>qs.any λp=>p.1/8==((i/8:Nat):Int)
def ir (xs:List Int) (ps qs:List (Int×Int)) (d:Int):kp:=
 { now:=az xs ps,last:=xs,fl:=C3 ((xs.length+7)/8*8) qs,deeds:=d,fused:=false,left:=0 }
theorem Ot (n:Nat):C3 n []=List.replicate n false:=by
 apply cG;intro j;simp only[C3,List.any_nil,bO,bB];by_cases h:j<n
 ·rw[cU h,aB h];rfl
 ·rw[aZ (by simpa using h),aA h];rfl
theorem Tc (xs:List Int)(d:Int):calm xs d=ir xs [] [] d:=by simp[calm,ir,Ot,az]
theorem mD{qs:List (Int×Int)}(z:0<=i)(h:i<xs.length):(ir xs ps qs d).refusal i=0:=by
 simp[kp.refusal,kp.gone,ir,cy];omega
theorem I0 (xs:List Int)(ps:List (Int×Int))(d:Int)(i x:Int)(z:0<=i)(h:i<xs.length):(ir xs ps [] d).store i x=ir xs (ps++[(i,x)]) [] (d+1):=by
 rw[kp.store,aB (mD z h)];simp only[ir,kp.count,br,oh,Ot]
 congr 1
 apply cG;intro j;rw[gT];simp only[bB,bJ];split
 ·rename_i e
  subst e;split<;>simp_all
 ·rfl
theorem VI (n:Nat)(qs:List (Int×Int))(i x:Int)(G:0<=i):zY (C3 n qs) (i.toNat/8) 8=C3 n (qs++[(i,x)]):=by
 apply cG;intro j;simp only[zY,C3,fV,bO];by_cases z:j<n
 ·rw[cU z]
  simp only[iB,Option.some.injEq,List.any_append,List.any_cons,List.any_nil,Bool.or_false];by_cases h:i.toNat/8*8<=j/\j<i.toNat/8*8+8
  ·rw[aB h]
   have :(i/8==((j/8:Nat):Int))=true:=by simp;omega
   rw[this,Bool.or_true]
  ·rw[aA h]
   have :(i/8==((j/8:Nat):Int))=false:=by simp;omega
   rw[this,Bool.or_false]
 ·rw[aZ (by simpa using z)];rfl
theorem VJ (n:Nat)(qs:List (Int×Int))(i x:Int)(h:i/8∈iC qs):C3 n (qs++[(i,x)])=C3 n qs:=by
 unfold C3;apply dL;intro j _;rw[List.any_append];by_cases z:(qs.any λp=>p.1/8==((j/8:Nat):Int))=true
 ·rw[z];rfl
 ·have :(i/8==((j/8:Nat):Int))=false:=by
   rw[cg];intro e;apply z;simp only[iC,bH] at h;obtain⟨p,G,J⟩:=h;exact List.any_eq_true.2 ⟨p,G,by rw[J,e];simp⟩
  simp only[List.any_cons,List.any_nil,this,Bool.or_false]
theorem I3 (xs:List Int)(ps qs:List (Int×Int))(d:Int)(i x:Int)(h:0<=i)(z:i<xs.length):(ir xs ps qs d).flush i=ir xs ps (qs++[(i,x)]) (d+1):=by
 rw[kp.flush,aB (mD h z)];simp only[ir,kp.count,VI _ _ _ x h];rfl
theorem LA (xs:List Int)(ps qs:List (Int×Int))(d:Int)(i x:Int)(h:i/8∈iC qs):ir xs ps (qs++[(i,x)]) d=ir xs ps qs d:=by
 simp only[ir,VJ _ _ _ _ h]
theorem yt (xs:List Int)(ps qs:List (Int×Int))(d:Int)(z:0<=d)(h:d<4611686018427387904):(ir xs ps qs d).fit:=by
 refine⟨z,h,?_,?_⟩<;>simp[ir]
theorem I4 (xs:List Int)(ps:List (Int×Int))(d:Int)(h:∀p∈ps,0<=p.1):(ir xs ps ps d).fence=calm (az xs ps) (d+1)/\(ir xs ps ps d).fenceE=0:=by
 have V:(ir xs ps ps d).gone=false:=rfl;refine⟨?_,by rw[kp.fenceE,V];rfl⟩;rw[kp.fence,V,aA (by simp)];have e1:iD (ir xs ps ps d) (ir xs ps ps d).now.length=az xs ps:=by
  show(xs.mapIdx λj x=>if j<(az xs ps).length/\(C3 ((xs.length+7)/8*8) ps).getD j false=true then (az xs ps).getD j 0 else x)=az xs ps;apply cG;intro j;rw[fV];by_cases G:j<xs.length
  ·have z:j<(az xs ps).length:=by rw[cy];exact G
   rw[aD G,aD z,iB];by_cases J:(C3 ((xs.length+7)/8*8) ps).getD j false=true
   ·rw[aB ⟨z,J⟩,aj,aD z];rfl
   ·rw[aA λe=>J e.2]
    have :=dX ps j xs λp U e=>by
     apply J;have W:=h p U;rw[C3,aj,bO,cU (by omega)];simp only[iB,eZ,List.any_eq_true];exact⟨p,U,by simp;omega⟩
    rw[aj,aD z,aj,aD G] at this;simp only[eZ] at this;rw[this]
  ·rw[aZ (by omega),aZ (by rw[cy];omega)];rfl
 rw[e1];simp only[ir,kp.count,calm,cy,C3,b7,fK];rfl
theorem wN (z:0<=i)(h:i<xs.length):(calm xs d).refusal i=0:=by rw[Tc];exact mD z h
theorem Kf (z:0<=i)(h:i<xs.length):(calm xs d).load i=xs.getD i.toNat 0:=by rw[kp.load,aB (wN z h)];rfl
theorem C4{gn gl gf:Nat}(h:fM w b gn gl gf (calm xs d))(i:Int)(G:0<=i)(z:i<xs.length):
  Calls prog 55 #[b,i] w λe w'=>e= .returned (.tuple #[.int .u64 (xs.getD i.toNat 0),(0:Int)])/\w=w':=by
 have :=Sb h i;rw[wN G z,Kf G z] at this;exact this
theorem Rg (x:Int)(z:0<=x)(w:World):Calls prog 132 #[.int .u64 x] w λe w'=>e=(sI x:Bool)/\w=w':=by
 by_cases h:x<3128
 ·by_cases G:x<8
  ·rw[nb.2 ⟨z,h,.inl G⟩]
   go_in;go_wp2;go_ret;exact⟨rfl,rfl⟩
  ·by_cases J:816<=x
   ·rw[nb.2 ⟨z,h,.inr J⟩]
    go_in;go_wp2;go_ret;exact⟨rfl,rfl⟩
   ·rw[show sI x=false by rw[Bool.eq_false_iff,ne_eq,nb];omega]
    go_in;go_wp2;go_ret;exact⟨rfl,rfl⟩
 ·rw[show sI x=false by rw[Bool.eq_false_iff,ne_eq,nb];omega]
  go_in;go_wp2;go_ret;exact⟨rfl,rfl⟩
theorem wO (ws:List Int)(k:Nat):mb ws (k+1)=(mb ws k&&sI (ws.getD (2*k) 0)):=by
 simp[mb,dQ,List.all_append]
theorem LC (h:mb ws k=false)(z:k<=m):mb ws m=false:=by
 induction m with
 |zero=>obtain rfl:k=0:=by omega
        exact h
 |succ m ih=>
  rw[wO];by_cases e:k=m+1
  ·subst e
   rw[wO] at h;exact h
  ·rw[ih (by omega)];rfl
theorem BH (h:Reads w v g (aX ws))(W:Fm ws)(m:Nat)(U:ws.length=2*m)(aa:m<=100000):
  Calls prog 79 #[v] w λe w'=>e=(mb ws m:Bool)/\w=w':=by
 obtain⟨a,cap,rfl,h1,h2,H3⟩:=il h;unfold maxLen at h2;obtain⟨HX,HM⟩:=hh2 W U;rw[U] at h1 ⊢;clear h W U;go_in;go_wp2_with fail;go_loopg [3] m (λg s3 wx=>∃k:Nat,k+g=m/\s3= .int .i64 ((2*k:Nat):Int)/\Hid (mb ws k=true)/\wx=w)
 case atStart=>exact⟨0,by omega,rfl,rfl,rfl⟩
 case round=>
  obtain⟨k,hk,rfl,V,rfl⟩:=hrel;cases gk with
  |zero=>
   obtain rfl:k=m:=by omega
   have J:¬((2*k:Nat):Int)<((2*k:Nat):Int):=by omega
   go_wp2;go_ret;exact⟨by rw[V.out];rfl,rfl⟩
  |succ gg=>
   have J:((2*k:Nat):Int)<((2*m:Nat):Int):=by omega
   obtain⟨hg,off,rfl,hc⟩:=H3.out (2*k) (by rw[HM.out];omega);obtain⟨z,G⟩:=hh2 (λwz=>Rg (ws.getD (2*k) 0) (Fq HX.out _).1 wz) (wO ws k);have b0:0<=((2*k:Nat):Int):=by omega
   generalize ws.getD (2*k) 0=x at *;cases hp:sI x
   ·rw[hp] at z G
    clear hp;go_wp2_with(go_at_call 132;refine C' (z.out _) ?_);go_ret;exact⟨by rw[LC (k:=k+1) (by rw[G.out];simp) (by omega)];rfl,rfl⟩
   ·rw[hp] at z G
    clear hp;go_wp2_with(go_at_call 132;refine C' (z.out _) ?_);go_roundg gg;case measure=>omega
    case rel=>exact⟨k+1,by omega,by rw[show((2*(k+1):Nat):Int)=2*(k:Int)+2 by omega],by show mb ws (k+1)=true;rw[G.out,V.out];rfl,rfl⟩
theorem acp (n s:Nat)(z:n<2147483648)(h:s<4294967296):bits .or .u64 ((n:Int)/2*4294967296) (s:Int)=(((n/2:Nat):Int)*4294967296+(s:Int)):=by
 rw[show(n:Int)/2*4294967296=((n/2*4294967296:Nat):Int) by omega,u64_or_nat _ _ (by omega) (by omega),nat_join 32 _ _ (by exact Nat.mul_mod_left _ _) h];omega
theorem zO (h:Reads w v g (aX ws))(G:Fm ws)(W:ws.length<=100000):
  Calls prog 83 #[v] w λe w'=>e= .returned (.int .u64 (rH ws))/\ay [] w w':=by
 have J:=ar (aco h G);obtain⟨a,cap,rfl,h1,h2,-⟩:=il h;unfold maxLen at h2;have V:=Kz (ws.map Int.toNat);unfold rH;have HO:=ar (acp ws.length (Mj (ws.map Int.toNat)) (by omega) V);generalize Mj (ws.map Int.toNat)=s at *;clear h G;generalize ws.length=n at *;go_in;go_wp2_with fail;refine Rr J.out λw1 z=> ?_;have U:=ar z;clear z;go_wp2;go_ret;refine⟨?_,U.out⟩;rw[<-HO.out];rfl
end Go.Proofs.YtimcfdnbpkiniaaGreatDoor
