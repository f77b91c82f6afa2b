/- Lemmas. -/
import Derived.Test.YtepbpdipenedhaaGreatDoorS20
set_option maxHeartbeats 4000000
set_option maxRecDepth 100000
namespace Go.Proofs.YtepbpdipenedhaaGreatDoor
open Go.Proofs.Tryz
open Go.RowKit
variable{B X Y ws xs:List Int}{G W ex ex' l:List Nat}{T V:List (bN×Value)}{own:Nat->List Nat}{P:List ByteArray}{b g gf gl gn gp k m:Nat}{w:World}{v:Value}{ps:List (Int×Int)}{n:bN}{M:Nat->Nd}{d i:Int}
def xS (X Y:List Int) (l:List Nat):Prop:=∀c,c<256->c≠0->dx X c=true->c∉l->∀j,j<8->Y.getD (1080+8*c+j) 0=X.getD (1080+8*c+j) 0
theorem JG (h:lW X)(G:∀k,k<8->Y.getD k 0=X.getD k 0)(J:∀k,820<=k->k<824->Y.getD k 0=X.getD k 0):lW Y:=
 ⟨by rw[G 0 (by omega)];exact h.1,by rw[G 1 (by omega)];exact h.2.1,by rw[G 2 (by omega)];exact h.2.2.1,λi z y=>by rw[G i y];exact h.2.2.2.1 i z y,λi z y=>by rw[J i z y];exact h.2.2.2.2 i z y⟩
theorem zZ (h:l.Nodup)(b:Nat):l.count b=if b∈l then 1 else 0:=by
 split
 ·next h1=>
  have y:l.count b<=1:=List.nodup_iff_count.1 h b;have z:0<l.count b:=List.count_pos_iff.2 h1;omega
 ·next h1=>exact List.count_eq_zero.2 h1
theorem uf.put(h:uf X T V own ex){i:Nat}(J:i<32){n:bN}(hB:n.B.length=13)(hR:bR n)
  (hn:dK n<=(bp (az X (cB X (own i)))).length) {ex':List Nat} (hc:∀b,b<256->(eU n).count b+ex'.count b=(eU (nT V i)).count b+ex.count b) (hx:∀c∈ex',c≠0/\c<256) (ht:jO X n):
  uf (az X (j0 X i n (own i))) (xR T i n) (xR V i n) (QN own i ((bp (az X (cB X (own i)))).take (dK n))) ex'/\
   xS X (az X (j0 X i n (own i))) (own i)/\(bp (az X (j0 X i n (own i)))).length+dK n=(bp X).length+(own i).length/\∀k,k<816->(az X (j0 X i n (own i))).getD k 0=X.getD k 0:=by
 have U:=VZ (i:=(i:Int)) h.w64 h.len hB (by omega) hR hn;rw[aJ] at U;have xc:∀k,k<816->(az X (j0 X i n (own i))).getD k 0=X.getD k 0:=λk hk=>iy _ _ _ λp hp=>by
  rcases Fl J hR rfl hn hp with y|y|y<;>omega
 have hz:=Ti h.w64 h.len (own:=own i) J hR hn;have ae:∀c∈own i,dx X c=true:=λc hc=>h.used J (dm _ hc)
 have ak:∀c∈own i,c≠0/\c<256:=λc hc=>h.rng J (dm _ hc)
 have uK:(own i).Nodup:=by
  rcases h.each J with ⟨-,y⟩|⟨-,-,y⟩
  ·exact y.nodup
  ·rw[y];exact List.nodup_nil
 have yR:(bp (az X (j0 X i n (own i)))).length+dK n=(bp X).length+(own i).length:=by
  rw[U.count,ES ak uK ae λc hc ah=>(ko (own i) X h.w64 h.len).2.1 c hc ah]
 generalize (bp (az X (cB X (own i)))).take (dK n)=o' at *;generalize az X (j0 X i n (own i))=Y at *;clear hn;have zS:xS X Y (own i):=λc hc ah hu ax j W=>by
  refine U.other _ (by omega) (by rw[aJ];omega) λy=> ?_
  have e:(1080+8*c+j-1080)/8=c:=by omega
  rw[e] at y;have z:=U.free c y.2;rw[hu,aM ax] at z;simp at z
 have av:(xR T i n).length=32:=by unfold xR;rw[dW];exact h.gots.len
 have aa:=λj=>uG h.gots.len J n j
 -- what lies elsewhere
 have ai:∀j,j<32->j≠i->((nT T j).F≠0/\eP Y (j:Int) (nT T j) (own j))\/(dO Y (j:Int)/\nT T j=cX/\own j=[]):=λj W KJ=>by
  rcases h.each W with ⟨y,z⟩|⟨y,z,h3⟩
  ·refine .inl ⟨y,U.keeps z (by omega) (λc hc=>h.used W (dm _ hc)) λc hc au=> ?_⟩
   exact h.apart W J KJ (dm _ hc) (dm _ au)
  ·exact .inr ⟨U.free_keeps y (by omega) (by omega),z,h3⟩
 have ar:∀c∈eU n,c≠0/\c<256/\dx X c=true/\c∉own i:=λc G=>by
  have y:=uF hB hR c G;have z:=hc c y.2;have h3:0<(eU n).count c:=List.count_pos_iff.2 G;rcases eK (ex.count c) with h4|h4
  ·have h5:c∈eU (nT V i):=List.count_pos_iff.1 (by omega)
   exact⟨y.1,y.2,h.used J (dA _ h5),λZ=>h.inner J Z h5⟩
  ·have h5:c∈ex:=List.count_pos_iff.1 h4
   exact⟨y.1,y.2,h.usedEx h5,λZ=>h.apartEx J (dm _ Z) h5⟩
 have ac:=λj=>uG h.vlen J n j
 refine⟨⟨U.len,U.w64,?_,⟨av,λj W=> ?_⟩,λj W=> ?_,λb hb=> ?_,hx,λj W=> ?_,by unfold xR;rw[dW];exact h.vlen,λj=>by rw[aa,ac];split;exact .inl rfl;exact h.vir j⟩,zS,yR,xc⟩
 ·exact JG h.sup (λk hk=>xc k (by omega)) λk hk ay=>U.other k hk (by rw[aJ];omega) (by omega)
 ·rw[aa]
  by_cases e:i=j
  ·subst e
   rw[aB rfl,QN,aB rfl];exact .inl U.st
  ·rw[aA e,QN,aA (eu e)]
   rcases ai j W (eu e) with y|⟨y,z,h3⟩
   ·exact .inl y.2
   ·exact .inr ⟨λ_ _ hs=>hs.notFree y,z,h3⟩
 ·rw[aa]
  by_cases e:i=j
  ·subst e
   rw[aB rfl]
   right
   rcases hR.1 with y|y<;>omega
  ·rw[aA e]
   rcases ai j W (eu e) with y|y
   ·exact .inr y.1
   ·exact .inl y.1
 ·have y:=(Tj h.vlen own J n o' b 32).2 J
  have z:=h.once b hb;have h3:=hc b hb;unfold xO at z ⊢;unfold qX at y;rw[List.count_append,List.count_append] at y;have h4:=zZ uK b;have h5:=zZ U.st.nodup b;by_cases aj:b=0
  ·subst aj
   have g1:(0:Nat)∉own i:=λh=>(ak 0 h).1 rfl
   have g2:(0:Nat)∉o':=λh=>(U.st.mem 0 h).1 rfl
   rw[aA g1] at h4;rw[aA g2] at h5;have e:jN (xR V i n) (QN own i o') 32 0+ex'.count 0=jN V own 32 0+ex.count 0:=by omega
   rw[hz,e];exact z
  ·have Z:=U.used b hb aj
   by_cases g1:b∈own i
   ·rw[aB g1] at h4
    have h7:=ae b g1;rw[bh g1,h7] at Z;have h8:=z.2.1 h7;by_cases g2:b∈o'
    ·rw[aB g2] at h5
     rw[bh g2] at Z;refine⟨by omega,λ_=>by omega,λ_=>by rw[Z];rfl⟩
    ·rw[aA g2] at h5
     rw[aM g2] at Z;refine⟨by omega,λh=>by rw[Z] at h;simp at h,λ_=>by omega⟩
   ·rw[aA g1] at h4
    rw[aM g1] at Z;by_cases g2:b∈o'
    ·rw[aB g2] at h5
     have h7:=U.free b g2;rw[aM g1] at h7;have h8:dx X b=false:=by simpa using h7
     have h9:¬(jN V own 32 b+ex.count b=1):=λh=>by rw[z.2.2 h] at h8;cases h8
     rw[bh g2] at Z;exact⟨by omega,λ_=>by omega,λ_=>by rw[Z];simp⟩
    ·rw[aA g2] at h5
     rw[aM g2] at Z;have h7:dx Y b=dx X b:=by rw[Z];simp
     rw[h7];have e:jN (xR V i n) (QN own i o') 32 b+ex'.count b=jN V own 32 b+ex.count b:=by omega
     rw[e];exact z
 ·rw[ac]
  by_cases e:i=j
  ·subst e
   rw[aB rfl];exact zg hB ht λc G k hk=>by
    have :=ar c G;exact zS c this.2.1 this.1 this.2.2.1 this.2.2.2 k hk
  ·rw[aA e]
   have af:nT V j=cX->jO Y (nT V j):=λz=>by
    rw[z];intro hK;simp[cX] at hK
   rcases h.each W with ⟨y,z⟩|⟨y,z,h3⟩
   ·by_cases ag:nT V j=cX
    ·exact af ag
    have hv:=(h.vir j).resolve_right ag;refine zg (by rw[hv];exact z.len) (h.tails j W) λc G k hk=> ?_
    have h4:=h.rng W (dA _ G);exact zS c h4.2 h4.1 (h.used W (dA _ G)) (λh5=>h.apart W J (eu e) (dA _ G) (dm _ h5)) k hk
   ·exact af ((h.vir j).elim (λhv=>by rw[hv];exact z) id)
theorem uf.change{z y:List (bN×Value)}{G:Nat->List Nat}(_:uf X T V own ex)(hl:Y.length=3128)(W:In64 Y)(aa:lW Y)(hT:z.length=32)(hV:y.length=32)(hv:∀j,nT y j=nT z j\/nT y j=cX)
  (J:∀j:Nat,j<32->((nT z j).F≠0/\eP Y (j:Int) (nT z j) (G j))\/(dO Y (j:Int)/\nT z j=cX/\G j=[]))
  (uK:∀b,b<256->xO y G b+ex'.count b<=1/\(dx Y b=true↔xO y G b+ex'.count b=1)) (hx:∀c∈ex',c≠0/\c<256) (U:∀j,j<32->jO Y (nT y j)):uf Y z y G ex':=by
 refine⟨hl,W,aa,⟨hT,λj Z=> ?_⟩,λj Z=> ?_,uK,hx,U,hV,hv⟩
 ·rcases J j Z with h|⟨h,h2,h3⟩
  ·exact .inl h.2
  ·exact .inr ⟨λ_ _ hs=>hs.notFree h,h2,h3⟩
 ·rcases J j Z with h|h
  ·exact .inr h.1
  ·exact .inl h.1
theorem uf.bits(h:uf X T V own ex)(hl:Y.length=3128)(J:In64 Y)(U:lW Y)(y:∀k,824<=k->k<1080->Y.getD k 0=X.getD k 0)
  (z:∀i,i<32->∀c∈own i,∀j,j<8->Y.getD (1080+8*c+j) 0=X.getD (1080+8*c+j) 0) (hu:∀b,b<256->xO V own b+ex'.count b<=1/\(dx Y b=true↔xO V own b+ex'.count b=1)) (hx:∀c∈ex',c≠0/\c<256) (aa:∀j,j<32->jO Y (nT V j)):uf Y T V own ex':=by
 refine h.change hl J U h.gots.len h.vlen h.vir (λj hj=> ?_) hu hx aa;rcases h.each hj with ⟨Z,G⟩|⟨Z,G,h3⟩
 ·refine .inl ⟨Z,G.same (λk W=> ?_) λc hc k W=>z j hj c hc k W⟩
  rw[aJ];exact y _ (by omega) (by omega)
 ·refine .inr ⟨Z.same λk W=> ?_,G,h3⟩
  rw[aJ];exact y _ (by omega) (by omega)
theorem uf.virLen(h:uf X T V own G){j:Nat}(J:j<32):(nT V j).B.length=13\/nT V j=cX:=by
 rcases h.vir j with y|y
 ·rcases h.each J with ⟨-,z⟩|⟨-,z,-⟩
  ·exact .inl (by rw[y];exact z.len)
  ·exact .inr (by rw[y];exact z)
 ·exact .inr y
theorem uf.tailsKeep(h:uf X T V own W)(Z:xS X Y l){j:Nat}(z:j<32)(hl:∀c∈eU (nT V j),c∉l):jO Y (nT V j):=by
 rcases h.virLen z with G|G
 ·refine zg G (h.tails j z) λc y k U=> ?_
  have J:=h.rng z (dA _ y);exact Z c J.2 J.1 (h.used z (dA _ y)) (hl c y) k U
 ·rw[G]
  intro hK;simp[cX] at hK
def jh (w:World) (v:Value) (g:Nat) (P:List ByteArray):Prop:=Reads w v g (P.map Value.string)
def jK (P:List ByteArray) (k:Nat):ByteArray:=P.getD k ByteArray.empty
theorem Tk (h:k<P.length):jK P k∈P:=by
 have :P.getD k ByteArray.empty=P[k]:=by simp[h]
 rw[jK,this];exact bA h
theorem Wo (h:k<P.length):P.drop k=jK P k::P.drop (k+1):=by
 have :P.getD k ByteArray.empty=P[k]:=by simp[h]
 rw[eV h,jK,this]
theorem jh.keep{w':World}(h:jh w v g P){l:List Nat}(y:ay l w w')(z:g∉l):jh w' v g P:=Reads.keep h y z
theorem jh.open(h:jh w v g P):∃a cap,v= .slice a P.length cap/\P.length<=cap/\cap<=maxLen/\
  Hid (∀k,k<P.length->g<w.heap.size/\∃off,a=some ⟨g,off,none⟩/\w.cell? ⟨g,off+k,none⟩=some (.string (jK P k))):=by
 obtain⟨a,cap,J,z,G,Z⟩:=h;rw[bG] at *;refine⟨a,cap,J,z,G,λk y=> ?_⟩;obtain⟨V,off,U,W⟩:=Z (by intro e;rw[List.map_eq_nil_iff] at e;rw[e] at y;simp at y);refine⟨V,off,U,(W k y).trans ?_⟩;rw[bC,aF y,jK,aj,aF y];rfl
theorem jh.init{a:Option Addr}{cap:Nat}(h:jh w (.slice a m cap) g P):jh w (.slice a (m-1) cap) g P.dropLast:=by
 obtain⟨a',G,h1,h2,V,h4⟩:=h;cases h1;rw[bG] at *;refine⟨a,cap,by rw[bG,iw],by rw[bG,iw];omega,V,λU=> ?_⟩;have y:P.dropLast≠[]:=λe=>U (by rw[e];rfl)
 have z:0<P.dropLast.length:=List.length_pos_iff.2 y;rw[iw] at z;obtain⟨J,off,Z,h7⟩:=h4 (by intro e;rw[List.map_eq_nil_iff] at e;rw[e] at z;simp at z);refine⟨J,off,Z,λj W=> ?_⟩;rw[bG,iw] at W;rw[h7 j (by omega),bC,bC,aF (show j<P.length by omega),aF (show j<P.dropLast.length by rw[iw];omega),List.getElem_dropLast]
theorem CV (P:List ByteArray):kM P=true↔∀k,k<P.length->gA (bl (jK P k))=true:=by
 unfold kM;rw[fg];constructor
 ·exact λh k y=>h _ (Tk y)
 ·intro h s z
  obtain⟨k,y,rfl⟩:=bU z;have :=h k y;rwa[jK,show P.getD k ByteArray.empty=P[k] by simp[y]] at this
theorem LS (h:jh w v g P)(hs:∀s∈P,s.size<=9223372036854775807):
  Calls prog 180 #[v] w λe w'=>e= .returned (.bool (kM P))/\w=w':=by
 obtain⟨a,cap,rfl,aa,J,uL⟩:=h.open;have V:Hid (∀k,k<P.length->∀z,Calls prog 170 #[.string (jK P k)] z λe w'=>e= .returned (.bool (gA (bl (jK P k))))/\z=w'):=λk W z=>FT _ (hs _ (Tk W)) z
 have U:Hid ((∀k,k<P.length->gA (bl (jK P k))=true)->kM P=true):=(CV P).2;have Z:Hid (∀k,k<P.length->gA (bl (jK P k))=false->kM P=false):=λk W hf=>by
  cases e:kM P
  ·rfl
  ·rw[(CV P).1 e k W] at hf;cases hf
 unfold maxLen at J;clear h hs;generalize kM P=gP at *;generalize hm:P.length=m at *;clear hm;go_enter func180,ntmps180;go_wp2_with fail;go_loopg [7] m (λgh s7 z=>∃k:Nat,k+gh=m/\s7= .int .i64 (k:Int)/\z=w/\Hid (∀j,j<k->gA (bl (jK P j))=true))
 case atStart=>exact⟨0,by omega,rfl,rfl,λj hj=>by omega⟩
 case round=>
  obtain⟨k,W,rfl,rfl,G⟩:=hrel;cases gk with
  |zero=>
   obtain rfl:k=m:=by omega
   have HR:=ar (U.out G.out);clear U Z G V;go_wp2_with fail;go_ret;exact⟨by rw[HR.out];rfl,rfl⟩
  |succ gg=>
   have EA:k<m:=by omega
   have ae:(k:Int)<(m:Int):=by omega
   have eo:(0:Int)<=(k:Int):=by omega
   obtain⟨ac,off,rfl,c0⟩:=uL.out k EA;have y:=ar (V.out k EA);cases hb:gA (bl (jK P k)) with
   |false=>
    have HR:=ar (Z.out k EA hb);rw[hb] at y;clear U Z G V uL hb;generalize jK P k=nk at *;go_wp2_with fail;refine(y.out _).mono ?_;rintro e w' ⟨rfl,rfl⟩;go_wp2_with fail;go_ret;exact⟨by rw[HR.out];rfl,rfl⟩
   |true=>
    have oM:Hid (∀j,j<k+1->gA (bl (jK P j))=true):=λj hj=>by
     by_cases e:j=k
     ·rw[e];exact hb
     ·exact G.out j (by omega)
    rw[hb] at y;clear U Z G V uL hb;generalize jK P k=nk at *;go_wp2_with fail;refine(y.out _).mono ?_;rintro e w' ⟨rfl,rfl⟩;go_wp2_with fail;go_roundg gg;case measure=>omega
    case rel=>exact⟨k+1,by omega,by go_num,rfl,oM.out⟩
def rU (w:World) (n:bN) (e:Ending) (w':World):Prop:=
 ay [] w w'/\((n.K=2/\∃v g,e= .returned (.tuple #[.agg (aU n v),.int .i64 0])/\n.B.length=13/\br w' v g n.E/\w.heap.size<=g)\/(n.K≠2/\e= .returned (.tuple #[.agg (aU cX (.slice none 0 0)),.int .i64 4])))
theorem xU (h:fX w b gp B ps T own){i:Nat}(hi:i<32)(hF:(nT T i).F≠0):
  Calls prog 182 #[.pointer (some ⟨b,0,none⟩),.int .i64 (i:Int)] w (rU w (nT T i)):=by
 have eo:ay [] w (w.alloc (.cells (aU cX (.slice none 0 0)) 111)):=(ay.refl _ _).alloc _;have hG:=(h.keep0 eo).get hi;unfold A1 at hG;have HG:=ar hG;have vv:=ar (bf.new w (aU cX (.slice none 0 0)) 111);have xB:=fu;have uo:=ar (bO w (.cells (aU cX (.slice none 0 0)) 111));have HP:Hid (∀e w',rU w (nT T i) e w'->rU w (nT T i) e w'):=λ_ _ h=>h
 have Vx:=ar hF;clear h hF hG;generalize nT T i=n at *;generalize U:aU cX (.slice none 0 0)=Z0 at *;have AY:=ar U;have Jh:Hid (Z0.size=18):=by show _=_;rw[<-U];rfl
 clear U;obtain⟨W0,G⟩:∃W0,w.alloc (.cells Z0 111)=W0:=⟨_,rfl⟩;rw[G] at HG vv eo uo;have nX:=ar G;have gH:=ar eo;clear G eo;go_enter func182,ntmps182;go_wp2_with fail;rw[nX.out];refine HG.out.mono ?_;rintro e w1 ⟨v,g,va,ga,r,rfl,y,hE,hg,-,-,z,hr⟩;have QK:r=0:=by
  have :=Vx.out;omega
 subst QK;clear hr;obtain⟨w2,p1,p2,p3⟩:=fW (n:=n) (v:=v) (bf.new w1 Z0 111) Jh.out y hE.one;have Z:ay [] W0 w2:=(z.alloc _).trans p3 (by intro x J;rw[au] at J;have :=z.size;omega);have sS:=ar p1;have pd:=ar (cC p2 y);have Us:br w2 v g n.E:=hE.keep ((((ay.refl [] w1).alloc _).mono (by simp)).trans' p3) (λh0=>hE.apart (l:=[w1.heap.size]) (λx J=>by rw[au] at J;omega) h0);have c1:w2.cell? ⟨w1.heap.size,1,none⟩=some (.int .i64 n.K):=by rw[p2.cell];exact(jL v y).f1
 have fF:=ar Z;have W:=ar Us;have HB:=ar y;have Sc:=ar hg;clear p1 p2 p3 Z Us hE hg z HG;by_cases V:n.K=2
 ·obtain⟨w3,q1,q2,q3⟩:=fW (n:=n) (v:=v) (vv.out.keep fF.out (by simp)) Jh.out y W.out.one
  have uz:=ar q1;have zO:=ar (cC q2 y);have HF:Hid (rU w n (.returned (.tuple #[.agg (aU n v),.int .i64 0])) w3):=by
   have h1:=gH.out.size;have h2:=Sc.out;have h3:=uo.out;refine⟨(gH.out.trans' fF.out).trans q3 (by intro x J;rw[au] at J;omega),.inl ⟨V,v,g,rfl,y,W.out.keep q3 (λ_=>by rw[au];omega),by omega⟩⟩
  rw[V] at c1;clear q1 q2 q3 y V HP HB;generalize aU n v=ZN at *;go_wp2_with(first|(with_reducible refine gS 111 sS.out ?_)|(with_reducible refine gL 111 pd.out ?_)|(with_reducible refine gS 111 uz.out ?_));exact aL (dc results182 rfl zO.out rfl) rfl HF.out
 ·obtain⟨w3,q1,q2,q3⟩:=fW (n:=cX) (v:= .slice none 0 0) (vv.out.keep fF.out (by simp)) Jh.out rfl rfl
  have VL:=cC q2 rfl;have HF:Hid (rU w n (.returned (.tuple #[.agg (aU cX (.slice none 0 0)),.int .i64 4])) w3):=by
   have h1:=gH.out.size;have h3:=uo.out;exact⟨(gH.out.trans' fF.out).trans q3 (by intro x J;rw[au] at J;omega),.inr ⟨V,rfl⟩⟩
  rw[AY.out] at q1 VL HF;have uz:=ar q1;have zO:=ar VL;have bK:(n.K==2)=false:=by simpa using V
  clear q1 q2 q3 y V HP HB VL;generalize aU n v=ZN at *;generalize n.K=K at *;go_wp2_with(first|(with_reducible refine gS 111 sS.out ?_)|(with_reducible refine gS 111 uz.out ?_));exact aL (dc results182 rfl zO.out rfl) rfl HF.out
structure LU (M:Nat->Nd) (T:List (bN×Value)):Prop where
 tree:dY M
 kind:∀i,(M i).K=(nT T i).K
 ents:∀i,(M i).E=(nT T i).E
 form:∀i,(M i).K≠0->(nT T i).F≠0
theorem JH {M:Nat->Nd}:∀(p:List ByteArray) (a:Nat),(ij M a p).2≠0->(ij M a p).1=0
 | [],a,h=>absurd rfl h
 |x::p,a,h=>by
  have e:ij M a (x::p)=if (M a).K=2 then (if bS (M a).E x<0 then (0,2) else ij M (bS (M a).E x).toNat p) else (0,4):=rfl
  rw[e] at h ⊢;split at h
  ·next h1=>
   rw[aB h1];split at h
   ·next h2=>rw[aB h2]
   ·next h2=>rw[aA h2];exact JH p _ h
  ·next h1=>rw[aA h1]
theorem LV (M:Nat->Nd)(a:Nat)(x:ByteArray)(p:List ByteArray):ij M a (x::p)=if (M a).K=2 then (if bS (M a).E x<0 then (0,2) else ij M (bS (M a).E x).toNat p) else (0,4):=rfl
def JI (w:World) (r:Nat×Int) (e:Ending) (w':World):Prop:=e= .returned (.tuple #[.int .i64 (r.1:Int),.int .i64 r.2])/\ay [] w w'
theorem Tm (h:fX w b gp B ps T own){M:Nat->Nd}(V:LU M T){v:Value}{g:Nat}{P:List ByteArray}(hP:jh w v g P):
  Calls prog 181 #[.pointer (some ⟨b,0,none⟩),v] w (JI w (ij M 0 P)):=by
 obtain⟨a,cap,rfl,aC,av,uL⟩:=hP.open;have HD:Hid (∀x,(M x).K≠0->∀J,ay [] w J->Calls prog 182 #[.pointer (some ⟨b,0,none⟩),.int .i64 (x:Int)] J (rU J (nT T x))):=λx hx J hk=>
  xU (h.keep0 hk) (V.tree.rng hx) (V.form x hx)
 have Au:Hid (∀x,(M x).K=2->∀J v g s,br J v g (nT T x).E->(nT T x).B.length=13->Calls prog 156 #[.agg (aU (nT T x) v),.string s] J λe w'=>
   ∃(r:Int) (ok:Bool),e= .returned (.tuple #[.int .i64 r,.bool ok])/\ay [] J w'/\((bS (M x).E s<0/\ok=false)\/(0<=bS (M x).E s/\ok=true/\r=bS (M x).E s))):=λx hx J v g s hE hB=>by
  obtain⟨A,X,B',hs⟩:=kv (V.tree.rises x) s;have h1:=jF hs λq hq=>(V.tree.lead x q hq).1.1
  rw[V.ents x] at hs;have hl:=h.gots.elen x;refine(M4 (nT T x) hB hE hs (by omega)).mono ?_;rintro e w' ⟨rfl,hk⟩;refine⟨_,_,rfl,hk,?_⟩;rcases Int.lt_or_le (bS (M x).E s) 0 with h2|h2
  ·exact .inl ⟨h2,by rw[h1.1.1 h2];rfl⟩
  ·exact .inr ⟨h2,by rw[h1.2 h2];rfl,by rw[h1.2 h2];rfl⟩
 have af:Hid (∀x k,k<P.length->ij M x (P.drop k)=if (M x).K=2 then (if bS (M x).E (jK P k)<0 then (0,2) else ij M (bS (M x).E (jK P k)).toNat (P.drop (k+1))) else (0,4)):=λx k hk=>by rw[Wo hk,LV]
 have OW:Hid (∀x,ij M x (P.drop P.length)=(x,0)):=λx=>by rw[List.drop_length];rfl
 have kR:Hid (∀x s,(M x).K=2->0<=bS (M x).E s->(M (bS (M x).E s).toNat).K≠0/\(((bS (M x).E s).toNat:Nat):Int)=bS (M x).E s):=λx s _ hf=>⟨(oW V.tree hf).2.1,(oW V.tree hf).2.2.1⟩
 have ax:Hid (∀x,(nT T x).K=(M x).K):=λx=>(V.kind x).symm
 have h0:Hid (ij M 0 P=ij M 0 (P.drop 0)/\(M 0).K≠0):=⟨rfl,by rw[V.tree.root];omega⟩;have xB:=fu;have z:Hid (∀(r:Nat×Int) w',ij M 0 P=r->ay [] w w'->JI w (ij M 0 P) (.returned (.tuple #[.int .i64 (r.1:Int),.int .i64 r.2])) w'):=λr w' h1 h2=>by rw[h1];exact⟨rfl,h2⟩
 unfold maxLen at av;clear h V hP;generalize hS:ij M 0 P=S at *;clear hS;generalize hm:P.length=m at *;clear hm;generalize ag:aU cX (.slice none 0 0)=Z0 at *;have AY:=ar ag;have Jh:Hid (Z0.size=18):=by show _=_;rw[<-ag];rfl
 clear ag;go_enter func181,ntmps181;go_wp2_with fail;go_loopg [6,15] m (λgh s6 s15 J=>∃k x:Nat,k+gh=m/\s15= .int .i64 (k:Int)/\s6= .int .i64 (x:Int)/\Hid (ay [] w J)/\Hid (S=ij M x (P.drop k)/\(M x).K≠0))
 case atStart=>exact⟨0,0,by omega,rfl,rfl,ay.refl _ _,h0.out⟩
 case round=>
  clear h0;obtain⟨k,x,hk,rfl,rfl,oF,HP⟩:=hrel;cases gk with
  |zero=>
   obtain rfl:k=m:=by omega
   have HF:=ar (z.out (x,0) _ (HP.out.1.trans (OW.out x)) oF.out);clear HP z OW kR af Au HD uL;go_wp2_with fail;go_ret2;exact HF.out
  |succ gg=>
   have EA:k<m:=by omega
   have aF:(k:Int)<(m:Int):=by omega
   have eo:(0:Int)<=(k:Int):=by omega
   obtain⟨ak,off,rfl,c0⟩:=uL.out k EA;have aD:=(aK (w:=w) (a:=⟨g,off+k,none⟩) (oF.out.block g ak (by simp))).trans c0;have ai:=ar (HD.out x HP.out.2 _ oF.out);have G:=ar (HP.out.1.trans (af.out x k EA));have ae:=ar (Au.out x);have Z:=ar (kR.out x (jK P k));have U:=ax.out x;clear HD Au af kR HP OW c0 ak;generalize jK P k=nk at *;generalize nT T x=n at *;go_wp2_with fail;refine ai.out.mono ?_;rintro e w1 ⟨aa,⟨hK,v,g1,rfl,hB,hE,az⟩|⟨hK,rfl⟩⟩
   ·obtain⟨w2,p1,p2,p3⟩:=fW (n:=n) (v:=v) (bf.new w1 Z0 111) Jh.out hB hE.one
    have sS:=ar p1;have pd:=ar (cC p2 hB);have Us:br w2 v g1 n.E:=hE.keep ((((ay.refl [] w1).alloc _).mono (by simp)).trans' p3) (λh0=>hE.apart (l:=[w1.heap.size]) (λx hx=>by rw[au] at hx;omega) h0);have fF:Hid (ay [] w w2):=(oF.out.trans' aa).trans (((ay.refl [] w1).alloc _).trans p3 (by intro x hx;rw[au] at hx;omega)) (by simp);have ah:=ar (ae.out (U▸hK) w2 v g1 nk Us hB);have W:(M x).K=2:=by rw[<-U];exact hK
    rw[aB W] at G;clear p1 p2 p3 hE Us hB az aa ae ai hK U;generalize aU n v=ZN at *;go_wp2_with(first|(with_reducible refine gS 111 sS.out ?_)|(with_reducible refine gL 111 pd.out ?_));refine ah.out.mono ?_;rintro e w3 ⟨r,ok,rfl,ac,⟨hf,rfl⟩|⟨hf,rfl,rfl⟩⟩
    ·have HF:=ar (z.out (0,2) w3 (by rw[G.out,aB hf]) (fF.out.trans' ac))
     clear G z Z ac hf W ah;go_wp2_with fail;go_ret2;exact HF.out
    ·obtain⟨aj,XN⟩:=Z.out W hf
     have HN:Hid (ay [] w w3/\S=ij M (bS (M x).E nk).toNat (P.drop (k+1))/\(M (bS (M x).E nk).toNat).K≠0):=⟨fF.out.trans' ac,by rw[G.out,aA (by omega)],aj⟩;clear G z Z ac hf W ah aj;rw[<-XN];generalize (bS (M x).E nk).toNat=y at *;clear XN;go_wp2_with fail;go_roundg gg;case measure=>omega
     case rel=>exact⟨k+1,y,by omega,by go_num,rfl,HN.out.1,HN.out.2⟩
   ·obtain⟨w2,p1,p2,p3⟩:=fW (n:=cX) (v:= .slice none 0 0) (bf.new w1 Z0 111) Jh.out rfl rfl
    have sS:=ar p1;have fF:Hid (ay [] w w2):=(oF.out.trans' aa).trans (((ay.refl [] w1).alloc _).trans p3 (by intro x hx;rw[au] at hx;omega)) (by simp);have HF:=ar (z.out (0,4) w2 (by rw[G.out,aA (by rw[<-U];exact hK)]) fF.out);clear p1 p2 p3 aa ae ai hK U G z Z;go_wp2_with(with_reducible refine gS 111 sS.out ?_);go_ret2;exact HF.out
def oJ (w:World) (r:Nat×Int) (nm:ByteArray) (e:Ending) (w':World):Prop:=
 ay [] w w'/\((r.2=0/\e= .returned (.tuple #[.int .i64 (r.1:Int),.string nm,.int .i64 0]))\/(r.2≠0/\e= .returned (.tuple #[.int .i64 0,.string ⟨#[]⟩,.int .i64 r.2])))
def JJ (X:List Int) (n:bN) (k:Nat):Int:=if n.B.getD (k/64) 0=0 then 0 else ((pU (X.getD (1080+8*(n.B.getD (k/64) 0).toNat+k%64/8) 0).toNat (k%8):Nat):Int)
def Fm (X:List Int) (n:bN):List Int:=(List.range n.S.toNat).map (JJ X n)
def xV (X:List Int) (n:bN):Nd:=⟨n.K,n.L,if n.K=1 then Fm X n else [],n.E⟩
theorem Tn (X:List Int):xV X cX=sU:=rfl
theorem PI (X:List Int)(n:bN)(k:Nat):0<=JJ X n k/\JJ X n k<256:=by
 unfold JJ;split
 ·omega
 ·have :=yg (X.getD (1080+8*(n.B.getD (k/64) 0).toNat+k%64/8) 0).toNat (k%8)
  omega
theorem PJ (X:List Int)(n:bN):(Fm X n).length=n.S.toNat:=by simp[Fm]
theorem JK (V:n.B.length=13)(G:n.K=1->n.S<=832)(U:∀c∈eU n,∀j,j<8->Y.getD (1080+8*c+j) 0=X.getD (1080+8*c+j) 0):xV Y n=xV X n:=by
 unfold xV;by_cases y:n.K=1
 ·rw[aB y,aB y]
  have e:Fm Y n=Fm X n:=by
   unfold Fm;apply dL;intro k J;rw[bP] at J;unfold JJ;by_cases h:n.B.getD (k/64) 0=0
   ·rw[aB h,aB h]
   ·rw[aA h,aA h]
    have W:=G y;have z:(n.B.getD (k/64) 0).toNat∈eU n:=by
     unfold eU fK;refine bL.2 ⟨n.B.getD (k/64) 0,List.mem_filter.2 ⟨?_,by simpa using h⟩,rfl⟩;rw[aW (by omega),aj,aF (by omega)];exact bA _
    rw[U _ z (k%64/8) (by omega)]
  rw[e]
 ·rw[aA y,aA y]
structure nS (X:List Int) (T:List (bN×Value)) (own:Nat->List Nat) (ex:List Nat) (M:Nat->Nd):Prop where
 st:StX X T own ex
 abs:∀i,M i=xV X (nT T i)
 tree:dY M
theorem wH (h:bR n)(z:n.K=1):0<=n.S/\n.S<=832:=by
 rcases h.2.2 with y|y
 ·exact y.2.1
 ·omega
theorem nS.agree(h:nS X T own G M):LU M T:=by
 refine⟨h.tree,λi=>by rw[h.abs];rfl,λi=>by rw[h.abs];rfl,λi y hF=>y ?_⟩;rw[h.abs];show(nT T i).K=0;rcases h.st.gots.form i with ⟨J,-⟩|⟨-,z,-⟩
 ·exact absurd hF J
 ·rw[z];rfl
theorem nS.few(h:nS X T own W M):lL M:=by
 have V:∀i,bR (nT T i)\/nT T i=cX:=λi=>by
  rcases h.st.gots.form i with ⟨-,-,y⟩|⟨-,J,-⟩
  ·exact .inl y.right
  ·exact .inr J
 refine⟨λi e z=> ?_,λi=> ?_,λi=> ?_,λi x G=> ?_⟩
 ·rw[h.abs] at z
  have z:e∈(nT T i).E:=z;rcases V i with y|y
  ·rcases y.2.2 with ⟨-,J⟩|⟨-,J⟩
   ·have :=List.length_eq_zero_iff.1 J.2.1
    rw[this] at z;simp at z
   ·obtain⟨k,U,rfl⟩:=bU z
    have :=(J.2.2.2 k U).1;rwa[show dZ (nT T i).E k=(nT T i).E[k].1 by simp[dZ,U]] at this
  ·rw[y] at z;simp[cX] at z
 ·rw[h.abs]
  exact h.st.gots.elen i
 ·rw[h.abs]
  unfold xV
  dsimp only
  split
  ·next hK=>
   rw[PJ];rcases V i with y|y
   ·have :=wH y hK;omega
   ·rw[y] at hK;simp[cX] at hK
  ·simp
 ·rw[h.abs] at G
  unfold xV at G
  dsimp only at G
  split at G
  ·obtain⟨k,-,rfl⟩:=bL.1 G
   exact PI X _ k
  ·simp at G
theorem JL (h:∀i,M i=xV X (nT T i))(i:Nat):∀k,Fe T k i=jE M k i:=by
 intro k;induction k with
 |zero=>rfl
 |succ k ih=>
  show Fe T k i+uR (nT T k).E (nT T k).E.length i=jE M k i+qm (M k).E i;rw[ih,h k]
  congr 1
  unfold uR qm;rw[gY];rfl
theorem CW (h:∀i,M i=xV X (nT T i))(hN:Ph T)(ho:∀i,32<=i->(nT T i).E=[])(i:Nat):Reach T 0 (i:Int)↔lv M 0 i:=by
 constructor
 ·intro hr
  have U:∀x,Reach T 0 x->∃n:Nat,x=(n:Int)/\lv M 0 n:=by
   intro x W;induction W with
   |here=>exact⟨0,rfl,.here⟩
   | @step a b _ hb ih=>
    obtain⟨n,rfl,hn⟩:=ih;have G:=hN _ b hb;obtain⟨m,rfl⟩:∃m:Nat,b=(m:Int):=⟨b.toNat,by omega⟩;unfold mW at hb;split at hb
    ·obtain⟨e,J,y⟩:=bL.1 hb
     rw[aJ] at J;exact⟨m,rfl,hn.step ⟨e,by rw[h];exact J,y⟩⟩
    ·simp at hb
  obtain⟨n,G,V⟩:=U _ hr;rw[show i=n by omega];exact V
 ·intro Z
  induction Z with
  |here=>exact .here
  | @step a b _ J ih=>
   obtain⟨e,z,y⟩:=J;rw[h] at z;have z:e∈(nT T a).E:=z;have ha:a<32:=by
    rcases dg a 32 with G|G
    ·exact G
    ·rw[ho a G] at z;simp at z
   refine ih.step ?_;unfold mW;rw[aB (by omega),aJ];exact bL.2 ⟨e,z,y⟩
theorem CX (h:oo X T own):∀i,32<=i->(nT T i).E=[]:=λi y=>by rw[h.zero y];rfl
theorem nS.free{U:List Nat}(h:nS X T own U M){i:Nat}(J:i<32):dO X (i:Int)↔(M i).K=0:=by
 rw[h.abs];show _↔(nT T i).K=0;rcases h.st.each J with ⟨G,y⟩|⟨G,y,-⟩
 ·refine⟨λz=>absurd z y.notFree,λz=> ?_⟩
  rcases y.right.2.2 with V|V<;>omega
 ·exact⟨λ_=>by rw[y];rfl,λ_=>G⟩
theorem nS.points(h:nS X T own [] M):∀j,j<7->pK X T own j:=by
 have J:=λi=>JL h.abs i 32
 intro j hj;rcases (show j=0\/j=1\/j=2\/j=3\/j=4\/j=5\/j=6 by omega) with rfl|rfl|rfl|rfl|rfl|rfl|rfl
 ·exact h.st.sup
 ·exact h.st.all
 ·refine⟨by have :=h.tree.root;rw[h.abs] at this;exact this,λi y Z G=> ?_⟩
  have z:0<jE M 32 i:=by rw[<-J];exact Z
  obtain⟨a,-,V⟩:=nQ.1 z;exact(h.tree.dir V).2.2.1 ((h.free y).1 G)
 ·intro i y
  have z:=h.tree.links i y;rw[<-J] at z;have e1:(M i).K=(nT T i).K:=by rw[h.abs];rfl
  have e2:(M i).L=(nT T i).L:=by rw[h.abs];rfl
  rw[e1,e2] at z;exact z
 ·intro i y G
  rw[CW h.abs h.st.gots.tabN (CX h.st.gots)];exact h.tree.reach i λW=>G ((h.free y).2 W)
 ·intro b U
  have :=h.st.once b U;rwa[List.count_nil,dP] at this
 ·exact h.st.tails
theorem aab (hl:X.length=3128)(ac:In64 X)(J:oo X T own)(Z:∀j,j<7->pK X T own j):∃M,nS X T own [] M:=by
 refine⟨λi=>xV X (nT T i),⟨hl,ac,Z 0 (by omega),J,Z 1 (by omega),λb hb=>by rw[List.count_nil,dP];exact Z 5 (by omega) b hb,by simp,Z 6 (by omega),J.len,λ_=> .inl rfl⟩,λ_=>rfl,?_⟩;have aa:∀i,(λi=>xV X (nT T i)) i=xV X (nT T i):=λ_=>rfl
 have ua:=λi=>JL aa i 32
 have h2:Jo X T:=Z 2 (by omega);have h3:tV T:=Z 3 (by omega);have h4:CN X T:=Z 4 (by omega);have G:∀i:Nat,i<32->(¬dO X (i:Int)↔(nT T i).K≠0):=λi z=>by
  rcases J.form i with ⟨-,-,y⟩|⟨y,h6,-⟩
  ·refine⟨λ_=> ?_,λ_=>y.notFree⟩
   rcases y.right.2.2 with V|V<;>omega
  ·rw[h6]
   refine⟨λV=> ?_,λV=>absurd rfl V⟩;rcases (show uE X T from Z 1 (by omega)) i z with U|U
   ·exact absurd U V
   ·exact absurd y U
 have W:∀i,32<=i->xV X (nT T i)=sU:=λi z=>by rw[J.zero z];rfl
 refine⟨W,λi=> ?_,h2.1,λi e he=> ?_,λi=> ?_,λi z=> ?_,λi z=> ?_⟩
 ·rcases J.form i with ⟨-,-,y⟩|⟨-,h6,-⟩
  ·rcases y.right.2.2 with ⟨V,U⟩|⟨V,U⟩
   ·exact .inr (.inl ⟨V,List.length_eq_zero_iff.1 U.2.1⟩)
   ·exact .inr (.inr ⟨V,aA (by rw[V];decide)⟩)
  ·exact .inl (by rw[h6];rfl)
 ·have he:e∈(nT T i).E:=he
  have z:i<32:=by
   rcases dg i 32 with h|h
   ·exact h
   ·rw[CX J i h] at he;simp at he
  have y:=J.tabN (i:Int) e.2 (by
   unfold mW;rw[aB (by omega),aJ];exact bL.2 ⟨e,he,rfl⟩)
  refine⟨y,?_⟩;have h6:0<jQ T e.2.toNat:=by
   unfold jQ;rw[ua];exact nQ.2 ⟨i,z,e,he,by omega⟩
  exact(G _ (by omega)).1 (h2.2 _ (by omega) h6)
 ·show tU (nT T i).E
  rcases J.form i with ⟨-,-,y⟩|⟨-,h6,-⟩
  ·rcases y.right.2.2 with ⟨-,U⟩|⟨-,U⟩
   ·rw[List.length_eq_zero_iff.1 U.2.1];exact List.Pairwise.nil
   ·exact EY U
  ·rw[h6];exact List.Pairwise.nil
 ·have y:=h3 i z
  unfold pJ jQ at y;rw[ua] at y;exact y
 ·have kg:i<32:=by
   rcases dg i 32 with h|h
   ·exact h
   ·rw[W i h] at z;exact absurd rfl z
  exact(CW aa J.tabN (CX J) i).1 (h4 i kg ((G i kg).2 z))
theorem Tp:¬∃M T own,nS (List.replicate 3128 0) T own [] M:=by
 rintro⟨M,T,own,h⟩;have y:=h.st.sup.1;have z:∀n:Nat,(List.replicate n (0:Int)).getD 0 0=0:=λn=>by cases n<;>rfl
 rw[z] at y;omega
theorem PK (h:Bh xs):aO xs=KS (xs.map Int.toNat):=by
 rw[KS,aO,List.map_map];apply dL;intro z y;have :=h z y;simp only[Function.comp_apply];rw[gM this.1]
theorem Wp{gb:Nat}(h:Reads w v gb (aO xs))(y:Bh xs):
  Calls prog 124 #[v] w λe w'=>e= .returned (.int .u32 (Hh (xs.map Int.toNat):Nat))/\ay [] w w':=by
 rw[PK y] at h;exact RA h
def calm (xs:List Int) (d:Int):iN:={ now:=xs,last:=xs,fl:=List.replicate ((xs.length+7)/8*8) false,deeds:=d,fused:=false,left:=0 }
def zh (n:Nat) (qs:List (Int×Int)):List Bool:=(List.range n).map λi=>qs.any λp=>p.1/8==((i/8:Nat):Int)
def fw (xs:List Int) (ps qs:List (Int×Int)) (d:Int):iN:=
 { now:=az xs ps,last:=xs,fl:=zh ((xs.length+7)/8*8) qs,deeds:=d,fused:=false,left:=0 }
theorem JM (n:Nat):zh n []=List.replicate n false:=by
 apply bW;intro j;simp only[zh,List.any_nil,bC,bb];by_cases h:j<n
 ·rw[bV h,aB h];rfl
 ·rw[aP (by simpa using h),aA h];rfl
theorem Nh (xs:List Int)(d:Int):calm xs d=fw xs [] [] d:=by simp[calm,fw,JM,az]
theorem kx{qs:List (Int×Int)}(h:0<=i)(y:i<xs.length):(fw xs ps qs d).refusal i=0:=by
 simp[iN.refusal,iN.gone,fw,bY];omega
theorem DY (xs:List Int)(ps:List (Int×Int))(d:Int)(i x:Int)(h:0<=i)(y:i<xs.length):(fw xs ps [] d).store i x=fw xs (ps++[(i,x)]) [] (d+1):=by
 rw[iN.store,aB (kx h y)];simp only[fw,iN.count,bJ,oY,JM]
 congr 1
 apply bW;intro j;rw[eB];simp only[bb,bj];split
 ·rename_i e
  subst e;split<;>simp_all
 ·rfl
theorem PL (n:Nat)(qs:List (Int×Int))(i x:Int)(z:0<=i):vL (zh n qs) (i.toNat/8) 8=zh n (qs++[(i,x)]):=by
 apply bW;intro j;simp only[vL,zh,fh,bC];by_cases y:j<n
 ·rw[bV y]
  simp only[fC,Option.some.injEq,List.any_append,List.any_cons,List.any_nil,Bool.or_false];by_cases h:i.toNat/8*8<=j/\j<i.toNat/8*8+8
  ·rw[aB h]
   have :(i/8==((j/8:Nat):Int))=true:=by simp;omega
   rw[this,Bool.or_true]
  ·rw[aA h]
   have :(i/8==((j/8:Nat):Int))=false:=by simp;omega
   rw[this,Bool.or_false]
 ·rw[aP (by simpa using y)];rfl
theorem PN (n:Nat)(qs:List (Int×Int))(i x:Int)(h:i/8∈gV qs):zh n (qs++[(i,x)])=zh n qs:=by
 unfold zh;apply dL;intro j _;rw[List.any_append];by_cases y:(qs.any λp=>p.1/8==((j/8:Nat):Int))=true
 ·rw[y];rfl
 ·have :(i/8==((j/8:Nat):Int))=false:=by
   rw[cj];intro e;apply y;simp only[gV,bL] at h;obtain⟨p,G,z⟩:=h;exact List.any_eq_true.2 ⟨p,G,by rw[z,e];simp⟩
  simp only[List.any_cons,List.any_nil,this,Bool.or_false]
theorem DZ (xs:List Int)(ps qs:List (Int×Int))(d:Int)(i x:Int)(h:0<=i)(y:i<xs.length):(fw xs ps qs d).flush i=fw xs ps (qs++[(i,x)]) (d+1):=by
 rw[iN.flush,aB (kx h y)];simp only[fw,iN.count,PL _ _ _ x h];rfl
theorem GG (xs:List Int)(ps qs:List (Int×Int))(d:Int)(i x:Int)(h:i/8∈gV qs):fw xs ps (qs++[(i,x)]) d=fw xs ps qs d:=by
 simp only[fw,PN _ _ _ _ h]
theorem ug (xs:List Int)(ps qs:List (Int×Int))(d:Int)(h:0<=d)(y:d<4611686018427387904):(fw xs ps qs d).fit:=by
 refine⟨h,y,?_,?_⟩<;>simp[fw]
theorem D3 (xs:List Int)(ps:List (Int×Int))(d:Int)(h:∀p∈ps,0<=p.1):(fw xs ps ps d).fence=calm (az xs ps) (d+1)/\(fw xs ps ps d).fenceE=0:=by
 have U:(fw xs ps ps d).gone=false:=rfl;refine⟨?_,by rw[iN.fenceE,U];rfl⟩;rw[iN.fence,U,aA (by simp)];have W:gK (fw xs ps ps d) (fw xs ps ps d).now.length=az xs ps:=by
  show(xs.mapIdx λj x=>if j<(az xs ps).length/\(zh ((xs.length+7)/8*8) ps).getD j false=true then (az xs ps).getD j 0 else x)=az xs ps;apply bW;intro j;rw[fh];by_cases G:j<xs.length
  ·have y:j<(az xs ps).length:=by rw[bY];exact G
   rw[aF G,aF y,fC];by_cases z:(zh ((xs.length+7)/8*8) ps).getD j false=true
   ·rw[aB ⟨y,z⟩,aj,aF y];rfl
   ·rw[aA λe=>z e.2]
    have :=iy ps j xs λp J e=>by
     apply z;have V:=h p J;rw[zh,aj,bC,bV (by omega)];simp only[fC,gZ,List.any_eq_true];exact⟨p,J,by simp;omega⟩
    rw[aj,aF y,aj,aF G] at this;simp only[gZ] at this;rw[this]
  ·rw[aP (by omega),aP (by rw[bY];omega)];rfl
 rw[W];simp only[fw,iN.count,calm,bY,zh,bG,eX];rfl
theorem rV (h:0<=i)(y:i<xs.length):(calm xs d).refusal i=0:=by rw[Nh];exact kx h y
theorem Fp (h:0<=i)(y:i<xs.length):(calm xs d).load i=xs.getD i.toNat 0:=by rw[iN.load,aB (rV h y)];rfl
theorem qY (h:dQ w b gn gl gf (calm xs d))(i:Int)(y:0<=i)(z:i<xs.length):
  Calls prog 52 #[.pointer (some ⟨b,0,none⟩),.int .i64 i] w λe w'=>e= .returned (.tuple #[.int .u64 (xs.getD i.toNat 0),.int .i64 0])/\w=w':=by
 have :=Mv h i;rw[rV y z,Fp y z] at this;exact this
theorem LW (x:Int)(h:0<=x)(w:World):Calls prog 122 #[.int .u64 x] w λe w'=>e= .returned (.bool (oZ x))/\w=w':=by
 by_cases y:x<3128
 ·by_cases z:x<8
  ·rw[kT.2 ⟨h,y,.inl z⟩]
   go_enter func122,ntmps122;go_wp2_with fail;go_ret;exact⟨rfl,rfl⟩
  ·by_cases G:816<=x
   ·rw[kT.2 ⟨h,y,.inr G⟩]
    go_enter func122,ntmps122;go_wp2_with fail;go_ret;exact⟨rfl,rfl⟩
   ·rw[show oZ x=false by rw[Bool.eq_false_iff,ne_eq,kT];omega]
    go_enter func122,ntmps122;go_wp2_with fail;go_ret;exact⟨rfl,rfl⟩
 ·rw[show oZ x=false by rw[Bool.eq_false_iff,ne_eq,kT];omega]
  go_enter func122,ntmps122;go_wp2_with fail;go_ret;exact⟨rfl,rfl⟩
theorem rW (ws:List Int)(k:Nat):j4 ws (k+1)=(j4 ws k&&oZ (ws.getD (2*k) 0)):=by
 simp[j4,dI,List.all_append]
theorem GH (h:j4 ws k=false)(y:k<=m):j4 ws m=false:=by
 induction m with
 |zero=>obtain rfl:k=0:=by omega
        exact h
 |succ m ih=>
  rw[rW];by_cases e:k=m+1
  ·subst e
   rw[rW] at h;exact h
  ·rw[ih (by omega)];rfl
theorem xW (h:Reads w v g (aO ws))(V:Bh ws)(m:Nat)(G:ws.length=2*m)(Z:m<=100000):
  Calls prog 68 #[v] w λe w'=>e= .returned (.bool (j4 ws m))/\w=w':=by
 obtain⟨a,cap,rfl,h1,h2,H3⟩:=gy h;unfold maxLen at h2;have HX:=ar V;have HM:=ar G;rw[G] at h1 ⊢;clear h V G;go_enter func68,ntmps68;go_wp2_with fail;go_loopg [3] m (λg s3 wx=>∃k:Nat,k+g=m/\s3= .int .i64 ((2*k:Nat):Int)/\Hid (j4 ws k=true)/\wx=w)
 case atStart=>exact⟨0,by omega,rfl,rfl,rfl⟩
 case round=>
  obtain⟨k,hk,rfl,U,rfl⟩:=hrel;cases gk with
  |zero=>
   obtain rfl:k=m:=by omega
   have J:¬((2*k:Nat):Int)<((2*k:Nat):Int):=by omega
   go_wp2_with fail;go_ret;exact⟨by rw[U.out];rfl,rfl⟩
  |succ gg=>
   have J:((2*k:Nat):Int)<((2*m:Nat):Int):=by omega
   obtain⟨hg,off,rfl,hc⟩:=H3.out (2*k) (by rw[HM.out];omega);have z:=ar (λW=>LW (ws.getD (2*k) 0) (Bj HX.out _).1 W);have y:=ar (rW ws k);have b0:0<=((2*k:Nat):Int):=by omega
   generalize ws.getD (2*k) 0=x at *;cases hp:oZ x
   ·rw[hp] at z y
    clear hp;go_wp2_with(go_at_call 122;refine(z.out _).mono ?_;rintro e w' ⟨rfl,rfl⟩);go_ret;exact⟨by rw[GH (k:=k+1) (by rw[y.out];simp) (by omega)];rfl,rfl⟩
   ·rw[hp] at z y
    clear hp;go_wp2_with(go_at_call 122;refine(z.out _).mono ?_;rintro e w' ⟨rfl,rfl⟩);go_roundg gg;case measure=>omega
    case rel=>exact⟨k+1,by omega,by rw[show((2*(k+1):Nat):Int)=2*(k:Int)+2 by omega],by show j4 ws (k+1)=true;rw[y.out,U.out];rfl,rfl⟩
theorem Wq (n s:Nat)(y:n<2147483648)(h:s<4294967296):bits .or .u64 ((n:Int)/2*4294967296) (s:Int)=(((n/2:Nat):Int)*4294967296+(s:Int)):=by
 rw[show(n:Int)/2*4294967296=((n/2*4294967296:Nat):Int) by omega,u64_or_nat _ _ (by omega) (by omega),nat_join 32 _ _ (by exact Nat.mul_mod_left _ _) h];omega
theorem vD (h:Reads w v g (aO ws))(z:Bh ws)(J:ws.length<=100000):
  Calls prog 72 #[v] w λe w'=>e= .returned (.int .u64 (ou ws))/\ay [] w w':=by
 have W:=ar (Wp h z);obtain⟨a,cap,rfl,h1,G,-⟩:=gy h;unfold maxLen at G;have Z:=FA (ws.map Int.toNat);unfold ou;have V:=ar (Wq ws.length (Hh (ws.map Int.toNat)) (by omega) Z);generalize Hh (ws.map Int.toNat)=s at *;clear h z;generalize ws.length=n at *;go_enter func72,ntmps72;go_wp2_with fail;refine W.out.mono ?_;rintro e w1 ⟨rfl,y⟩;have U:=ar y;clear y;go_wp2_with fail;go_ret;refine⟨?_,U.out⟩;rw[<-V.out];rfl
theorem LY (h:lF w v g ps)(Z:WU ps)(hn:ps.length<=400):
  Calls prog 67 #[v] w (iK w (eH ps)):=by
 obtain⟨i0,hi,af,ac,ag⟩:=cr Tryz.info_u64;have H:=ar h;have Hc:=ar Z;obtain⟨a,cap,rfl,h1,h2⟩:=h.val;unfold maxLen at h2;have aa:=wX (2*ps.length) (by omega) (2*(ps.length:Int)) (by omega) 0 (.inl rfl) w;rw[Int.natCast_zero] at aa;have HO:Hid ((w.alloc (.cells (madeCells #[.int .u64 0] (2*ps.length)) 56)).ownsRow w.heap.size 56 1 (.slice (some ⟨w.heap.size,0,none⟩) 0 (2*ps.length)) 0 []):=
  World.ownsRow_made w _ _ (aG _) (by simp[maxLen];omega) (by simp[size_madeCells])
 clear h Z;go_enter func67,ntmps67;go_wp2_with fail;go_loopg [3,12] ps.length (λgh s3 s12 wx=>∃k:Nat,k+gh=ps.length/\s12= .int .i64 (k:Int)/\s3= .slice (some ⟨w.heap.size,0,none⟩) (2*k) (2*ps.length)/\
  Hid (wx.ownsRow w.heap.size 56 1 (.slice (some ⟨w.heap.size,0,none⟩) (2*k) (2*ps.length)) (2*k) (aO (eH (ps.take k)))/\ay [] w wx))
 case atStart=>exact⟨0,by omega,rfl,rfl,HO.out,(ay.refl _ _).alloc _⟩
 case round=>
  obtain⟨k,hk,rfl,rfl,W⟩:=hrel;cases gk with
  |zero=>
   obtain rfl:k=ps.length:=by omega
   have ae:¬(ps.length:Int)<(ps.length:Int):=by omega
   obtain⟨hr,U⟩:=W.out;rw[aW (aG _)] at hr;obtain⟨g',ho,-⟩:=eQ.of_row hr;have hb:g'=w.heap.size\/ps.length=0:=by
    by_cases e:ps.length=0
    ·exact .inr e
    ·left
     obtain⟨-,⟨_,hv,-,-⟩,-,-⟩:=ho.cell (by omega);cases hv;rfl
   have HM:Hid (iK w (eH ps) (.returned (.slice (some ⟨w.heap.size,0,none⟩) (2*ps.length) (2*ps.length))) wr):=by
    rcases hb with rfl|hb
    ·exact⟨_,_,rfl,ho.reads,aG _,U⟩
    ·exact⟨_,w.heap.size,rfl,(ho.anyG (by omega) _).reads,aG _,U⟩
   clear hr ho hb U W;go_wp2_with fail;go_ret;exact HM.out
  |succ gg=>
   have ae:(k:Int)<(ps.length:Int):=by omega
   obtain⟨hg,off,rfl,c0,c1⟩:=(H.out.keep W.out.2 (by simp)).get (j:=k) (by omega);have b1:=Mu Hc.out (k:=k) (by omega);have HW:=ar (yj ps k (by omega));generalize ja ps k=x at *;generalize nY ps k=y at *;obtain⟨J,U⟩:=W.out;have V:=ar J;have iA:=ar U;clear J U W;go_wp2_with(at_builtin;refine wpList_append_fits _ rfl _ _ 71 rfl w.heap.size 56 i0 1 underlying71 hi ac w.heap.size (2*k) (2*ps.length) _ rfl ((V.out.alloc _).alloc _) ⟨wr.heap.size+1,0,none⟩ 2 2 [.int .u64 (IntKind.u64.wrap x),.int .u64 y] rfl rfl ?c1 ?c2 (by omega) ?_);case c1=>exact iX _ [_,_] _ _ (by simp)
   case c2=>simp[Value.oneCell']
   intro w1 G z;have jl:Hid (ay [] w w1):=((iA.out.alloc _).alloc _).trans (ay.of_grown (l:=[w.heap.size]) z (by intro q hq;cases hq;simp)) (by simp);have Ag:=ar G;clear G z;go_wp2_with fail;go_roundg gg;case measure=>omega
   case rel=>
    refine⟨k+1,by omega,by go_num,rfl,?_,jl.out⟩;have :=Ag.out;rw[HW.out,ma];rw[fN] at this;exact this
theorem GI (ws:List Int)(k:Nat)(h:k<ws.length):(kQ ws)[k]'(by rw[lM];exact h)=(9+(k:Int),ws.getD k 0):=by
 simp[kQ,h]
theorem Tq (h:Reads w v g (aO ws))(hn:ws.length<=800):
  Calls prog 70 #[v] w (ky w (kQ ws)):=by
 have H:=ar h;obtain⟨a,cap,rfl,h1,h2,-⟩:=gy h;unfold maxLen at h2;have aa:=Kq ws.length (by omega) (ws.length:Int) rfl w;have z:=Kr w ws.length (by omega);rw[show List.replicate ws.length ((0:Int),(0:Int))=dn (0,0) (kQ ws) 0 by rw[jA,lM]] at z;have z:=ar z;generalize madeCells #[Value.int .i64 0,Value.int .u64 0] (ws.length*2)=mc at *;clear h;go_enter func70,ntmps70;go_wp2_with fail;go_loopg [11] ws.length (λgh NZ W=>∃k:Nat,k+gh=ws.length/\NZ= .int .i64 (k:Int)/\
  Hid (eQ W (.slice (some ⟨w.heap.size,0,none⟩) ws.length ws.length) w.heap.size 58 2 ws.length (iz (dn (0,0) (kQ ws) k))/\ay [] w W))
 case atStart=>exact⟨0,by omega,rfl,z.out,(ay.refl _ _).alloc _⟩
 case round=>
  obtain⟨k,hk,rfl,y⟩:=hrel;cases gk with
  |zero=>
   obtain rfl:k=ws.length:=by omega
   have U:¬(ws.length:Int)<(ws.length:Int):=by omega
   have HM:Hid (ky w (kQ ws) (.returned (.slice (some ⟨w.heap.size,0,none⟩) ws.length ws.length)) wr):=by
    obtain⟨Z,eW⟩:=y.out;have e:dn (0,0) (kQ ws) ws.length=kQ ws:=by
     have :=j5 ((0:Int),(0:Int)) (kQ ws);rw[lM] at this;exact this
    rw[e] at Z;exact ky.mk Z (lM ws).symm (aG _) eW
   go_wp2_with fail;go_ret;exact HM.out
  |succ gg=>
   have U:(k:Int)<(ws.length:Int):=by omega
   obtain⟨_,_,hv,-,-,HC⟩:=gy (H.out.keep y.out.2 (by simp));cases hv;obtain⟨hg,off,rfl,c0⟩:=HC.out k (by omega);have V:=jG ((0:Int),(0:Int)) (kQ ws) k (by rw[lM];omega);rw[lM] at V;obtain⟨-,-,J,G⟩:=y.out.1.cell (by omega);have d0:=(J (k*2) (by omega)).trans (mZ (dn (0,0) (kQ ws) k) k (by omega)).1;have d1:=(J (k*2+1) (by omega)).trans (mZ (dn (0,0) (kQ ws) k) k (by omega)).2;have f0:=G (k*2);have f1:=G (k*2+1);have HE:=ar (jB ((0:Int),(0:Int)) (kQ ws) k (by rw[lM];omega) _ (GI ws k (by omega)));generalize ja (dn (0,0) (kQ ws) k) k=o1 at *;generalize nY (dn (0,0) (kQ ws) k) k=o2 at *;have HP:=ar (y.out.1.pair k (9+(k:Int)) (ws.getD k 0));have iA:=ar y.out.2;generalize ws.getD k 0=x at *;clear J G V HC y;go_wp2_with fail;go_roundg gg;case measure=>omega
   case rel=>
    refine⟨k+1,by omega,by go_num,?_,(iA.out.setCell (.inr (aG _)) _).setCell (.inr (aG _)) _⟩;rw[<-HE.out];exact HP.out
def aac (ws:List Int) (m:Nat):List (Int×Int):=(List.range m).map λk=>(ws.getD (2*k) 0,ws.getD (2*k+1) 0)
def nB (xs:List Int) (m:Nat):List Int:=(List.range m).map λk=>xs.getD (9+k) 0
theorem nU (xs:List Int)(m:Nat):(nB xs m).length=m:=by simp[nB]
theorem GJ (xs:List Int)(m k:Nat)(h:k<m):(nB xs m)[k]'(by rw[nU];exact h)=xs.getD (9+k) 0:=by simp[nB]
theorem JN (h:Bh xs)(m:Nat):Bh (nB xs m):=by
 intro x y;simp only[nB,bL] at y;obtain⟨k,-,rfl⟩:=y;exact Bj h _
theorem CY (w:World)(n:Nat)(h:n<=100000):eQ (w.alloc (.cells (madeCells #[.int .u64 0] n) 56)) (.slice (some ⟨w.heap.size,0,none⟩) n n) w.heap.size 56 1 n (aO (List.replicate n 0)):=by
 refine⟨by simp[aO],_,n,rfl,aG _,by unfold maxLen;omega,λ_=>⟨rfl,_,bf.new _ _ _,by simp[size_madeCells],?_⟩⟩;rw[toList_madeCells_one,Ee,aW (by simp[aO])]
def nV (w:World) (ws:List Int) (e:Ending) (w':World):Prop:=
 ∃v g,e= .returned (.tuple #[v,.int .i64 0])/\Reads w' v g (aO ws)/\w.heap.size<=g/\ay [] w w'
theorem Tt (h:dQ w b gn gl gf (calm xs d))(m:Nat)(hm:m<=800)(hx:xs.length=3128):
  Calls prog 135 #[.pointer (some ⟨b,0,none⟩),.int .i64 9,.int .i64 (m:Int)] w (nV w (nB xs m)):=by
 have H:=ar h;have HX:=ar hx;have aa:=wX m (by omega) (m:Int) rfl m (.inr rfl) w;have G:=CY w m (by omega);rw[show List.replicate m (0:Int)=dn 0 (nB xs m) 0 by rw[jA,nU]] at G;have G:=ar G;generalize madeCells #[Value.int .u64 0] m=mc at *;clear h hx;go_enter func135,ntmps135;go_wp2_with fail;go_loopg [16] m (λgh s16 wx=>∃k:Nat,k+gh=m/\s16= .int .i64 (k:Int)/\
  Hid (eQ wx (.slice (some ⟨w.heap.size,0,none⟩) m m) w.heap.size 56 1 m (aO (dn 0 (nB xs m) k))/\ay [] w wx))
 case atStart=>exact⟨0,by omega,rfl,G.out,(ay.refl _ _).alloc _⟩
 case round=>
  obtain⟨k,hk,rfl,y⟩:=hrel;cases gk with
  |zero=>
   obtain rfl:k=m:=by omega
   have U:¬(k:Int)<(k:Int):=by omega
   have J:Hid (nV w (nB xs k) (.returned (.tuple #[.slice (some ⟨w.heap.size,0,none⟩) k k,.int .i64 0])) wr):=by
    obtain⟨ho,eW⟩:=y.out;have e:dn 0 (nB xs k) k=nB xs k:=by
     have :=j5 (0:Int) (nB xs k);rw[nU] at this;exact this
    rw[e] at ho;exact⟨_,_,rfl,ho.reads,aG _,eW⟩
   go_wp2_with fail;go_ret2;exact J.out
  |succ gg=>
   have U:(k:Int)<(m:Int):=by omega
   have Z:=ar (qY (H.out.keep y.out.2 (by simp) (by simp)) (9+(k:Int)) (by omega) (by rw[HX.out];omega));rw[show(9+(k:Int)).toNat=9+k by omega] at Z;have hl:=jG (0:Int) (nB xs m) k (by rw[nU];omega);rw[nU] at hl;obtain⟨-,-,W,V⟩:=y.out.1.cell (by omega);have d0:=(W k (by omega)).trans (cG (l:=dn 0 (nB xs m) k) (by omega));have f0:=V k;have HE:=ar (jB (0:Int) (nB xs m) k (by rw[nU];omega) _ (GJ xs m k (by omega)));generalize (dn 0 (nB xs m) k).getD k 0=o1 at *;have z:=y.out.1.set k (.int .u64 (xs.getD (9+k) 0));rw[ku] at z;have z:=ar z;have iA:=ar y.out.2;generalize xs.getD (9+k) 0=x at *;clear W V hl y;go_wp2_with(go_at_call 52;refine Z.out.mono ?_;rintro e w' ⟨rfl,rfl⟩);go_roundg gg;case measure=>omega
   case rel=>
    refine⟨k+1,by omega,by go_num,?_,iA.out.setCell (.inr (aG _)) _⟩;rw[<-HE.out];exact z.out
end Go.Proofs.YtepbpdipenedhaaGreatDoor
