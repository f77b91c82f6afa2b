/- Lemmas. -/
import Derived.Test.YtimcfdnbpkiniaaGreatDoorM10
import Derived.Lib.AppendZerosOnto
set_option maxHeartbeats 8000000
set_option maxRecDepth 100000
namespace Go.Proofs.YtimcfdnbpkiniaaGreatDoor
open Go.Proofs.Tryz
open Go.RowKit
variable{B X l:List Int}{x:Int}{own:List Nat}{n:bT}{w:World}{b g:Nat}{P:Program}{v:Value}
theorem In64.of_mem(h:∀x,x∈l->0<=x/\x<18446744073709551616):In64 l:=λi=>by
 rw[aj];by_cases z:i<l.length
 ·rw[aD z]
  exact h _ (bF z)
 ·rw[aP (by omega)]
  simp
theorem NI (l:List Int):∀f e,oV l f e<=e+f
 |0,e=>aH _
 |f+1,e=>by
  unfold oV;split
  ·have :=NI l f (e+1);omega
  ·omega
theorem GL {l:List Int}{x:Int}:∀{k:Nat},x∈gD l k->∃j,j<k/\sP l j/\x=zA j (l.getD j 0) (rM l j)
 |0,h=>by simp[gD] at h
 |k+1,h=>by
  unfold gD at h;split at h
  ·rename_i hs
   rcases aT.1 h with h|h
   ·obtain⟨j,G,z⟩:=GL h
    exact⟨j,by omega,z⟩
   ·rw[au] at h
    exact⟨k,by omega,hs,h⟩
  ·obtain⟨j,G,z⟩:=GL h
   exact⟨j,by omega,z⟩
theorem Fj (h:x∈fw l):0<=x/\x<9223372036854775808:=by
 obtain⟨j,J,z,rfl⟩:=GL h;have G:=z.1;have U:=NI l 13 (j+1);unfold DZ at G;unfold zA rM;omega
theorem QL (z:∀c∈own,c≠0/\c<256)(k:Nat):own.getD k 0<256:=by
 by_cases h:k<own.length
 ·exact(z _ (jE h)).2
 ·rw[aj,aP (by omega)]
  decide
theorem abG (V:ct n)(U:∀c∈own,c≠0/\c<256):In64 (oa n own):=by
 obtain⟨t1,t2,t3,W⟩:=uh V;have J:0<=pn n/\pn n<18446744073709551616:=by unfold pn;omega
 have G:0<=n.S/\n.S<18446744073709551616:=by omega
 refine In64.of_mem λx h=> ?_
 unfold oa at h;split at h
 ·have z:∀q,0<=Aq n.E own 4 0 q/\Aq n.E own 4 0 q<18446744073709551616:=λq=>by
   unfold Aq hdD;have h1:=QL U (fO n.E q);split
   ·split<;>omega
   ·split<;>omega
  simp only[Gu,rE,aL,aK,bC] at h;rcases h with rfl|rfl|rfl|rfl|rfl|rfl|rfl|rfl
  ·exact J
  ·exact G
  ·exact z 0
  ·exact z 1
  ·exact z 2
  ·exact z 3
  ·omega
  ·omega
 ·unfold np at h
  split at h
  ·rcases aL.1 h with rfl|h
   ·exact J
   ·rcases aL.1 h with rfl|h
    ·exact G
    ·rcases aT.1 h with h|h
     ·have :=Fj h;omega
     ·have :=il h;omega
  ·rcases aL.1 h with rfl|h
   ·exact J
   ·rcases aL.1 h with rfl|h
    ·exact G
    ·rcases aT.1 h with h|h
     ·have :=Fj (bO h);omega
     ·rw[au] at h
      have :=QL U 0;omega
theorem QM (hR:ct n)(W:∀c∈own,c≠0/\c<256)(m:Nat):In64 ((gX n own).getD m []):=by
 by_cases z:m<(gX n own).length
 ·unfold gX at z ⊢
  split at z
  ·rename_i hK
   rw[aB hK];have U:pk n:=(hR.2.2.resolve_left (λh=>by have :=h.1;omega)).2;rw[oZ] at z;obtain⟨b,j,hb,hj,rfl⟩:=uW n.E z;rw[sk n.E own hj hb];intro y;cases y with
   |zero=>
    show 0<=(if j+1<dN n.E b then ((own.getD (fO n.E b+(j+1)) 0:Nat):Int) else 0)/\(if j+1<dN n.E b then ((own.getD (fO n.E b+(j+1)) 0:Nat):Int) else 0)<_;have :=QL W (fO n.E b+(j+1));split<;>omega
   |succ y=>
    rw[X3,oY];by_cases hy:y<7
    ·rw[Nu _ _ _ hy]
     split
     ·rename_i hc
      split
      ·have :=NC (eX (eB n.E b) (3*j+y/2));omega
      ·obtain⟨k,J,-,V⟩:=Fi hc.1
       rw[V];have :=(U.2.2.2 k J).2.1;omega
     ·omega
    ·rw[aj,aP (by rw[lf,nS];omega)]
     simp
  ·rename_i hK
   rw[aA hK];unfold kx at *;split
   ·simp[In64]
   ·refine In64.of_mem λx G=> ?_
    rename_i h6
    rw[aA h6] at z;obtain rfl:m=0:=by simpa using z
    have G:x∈(fw n.B).drop 5++List.replicate (13-(fw n.B).length) 0:=G;rcases aT.1 G with G|G
    ·have :=Fj (gA G);omega
    ·have :=il G;omega
 ·rw[aj,aP (by omega)]
  simp[In64]
theorem vt{p:Int×Int}{Ls:List (List Int)}{k:Nat}(h:p∈ui Ls own k):∃m j,m<k/\j<8/\p.1.toNat=1080+8*own.getD m 0+j/\p.2=(Ls.getD m []).getD j 0:=by
 unfold ui at h;obtain⟨m,z,h⟩:=List.mem_flatMap.1 h;rw[b7] at z;obtain⟨j,J,G,U⟩:=mh h;exact⟨m,j,z,J,G,U⟩
theorem abH (G:X.length=3128){Ls:List (List Int)}{own:List Nat}(U:∀m,m<own.length->(Ls.getD m []).length=8)(V:own.Nodup)(z:∀c∈own,c≠0/\c<256):∀k,k<=own.length->∀m,m<k->eo (az X (ui Ls own k)) (1080+8*own.getD m 0)=Ls.getD m []:=by
 intro k;induction k with
 |zero=>intro _ m h;omega
 |succ k ih=>
  intro hk m aa;have J:=z _ (jE (show k<own.length by omega));have W:=z _ (jE (show m<own.length by omega));rw[Av,bz];by_cases e:m=k
  ·subst e
   exact qW (by rw[cj,G]) _ (by omega) (U m (by omega))
  ·have :own.getD m 0≠own.getD k 0:=λh=>e (getD_inj V (by omega) (by omega) h)
   rw[qX (by rw[cj,G]) _ _ (by omega) (by omega)];exact ih (by omega) m (by omega)
theorem U2 (ae:In64 X)(V:X.length=3128){i:Int}{n:bT}(G:yh i n)(hn:eW n<=(aZ X).length):
  pO (az X (nb X i.toNat n ((aZ X).take (eW n)))) (eo (az X (nb X i.toNat n ((aZ X).take (eW n)))) (824+8*i.toNat)) n ((aZ X).take (eW n))/\In64 (az X (nb X i.toNat n ((aZ X).take (eW n))))/\
  (∀k,820<=k->¬(824+8*i.toNat<=k/\k<824+8*i.toNat+8)->¬(1080<=k/\(k-1080)/8∈(aZ X).take (eW n))->(az X (nb X i.toNat n ((aZ X).take (eW n)))).getD k 0=X.getD k 0):=by
 have aa:=uj hn;have hi:=G.1;have J:∀c∈(aZ X).take (eW n),c≠0/\c<256:=qy;have ac:((aZ X).take (eW n)).Nodup:=sx;generalize (aZ X).take (eW n)=own at *;have h8:∀m,m<own.length->((gX n own).getD m []).length=8:=λm W=>wE (by rw[yg G.2.2 aa];exact W)
 refine⟨?_,?_,λk hk h1 h2=> ?_⟩
 ·unfold nb
  rw[bz,bz];refine⟨λm W=> ?_,(qW (by rw[cj,cj,V]) _ (by omega) (Bz n own)).symm⟩;have af:=J _ (jE W);rw[qX (by rw[cj,cj,V]) _ _ (by omega) (by omega)];exact(abH (by rw[cj,V]) h8 ac J _ (aH _) m W).symm
 ·unfold nb
  rw[bz];refine(nP own X ae V J).1.put λp z=> ?_
  rcases aT.1 z with z|z
  ·obtain⟨m,j,-,-,-,h⟩:=vt z
   rw[h];exact QM G.2.2 J m j
  ·obtain⟨j,-,-,h⟩:=mh z
   rw[h];exact abG G.2.2 J j
 ·refine dX _ _ _ λp z U=> ?_
  unfold nb at z;rcases aT.1 z with z|z
  ·rcases GI _ _ J z with h|h
   ·omega
   ·rw[U] at h;exact h2 h
  ·rcases aT.1 z with z|z
   ·obtain⟨m,j,h3,h4,h5,-⟩:=vt z
    refine h2 ⟨by omega,?_⟩;rw[<-U,h5,show(1080+8*own.getD m 0+j-1080)/8=own.getD m 0 by omega];exact jE h3
   ·obtain⟨j,h4,h5,-⟩:=mh z
    exact h1 ⟨by omega,by omega⟩
def tj (w:World) (b z:Nat) (B:List Int) (ps:List (Int×Int)) (i:Int) (n:bT) (e:Ending) (w':World):Prop:=
 ∃r qs h,e=(r:Int)/\(h=z\/(w.heap.size<=h/\h<w'.heap.size))/\eK w' b h B (ps++qs)/\ay [b,z] w w'/\qs.length<=600/\
  ((r=1/\¬yh i n/\qs=[])\/(r=7/\yh i n/\(aZ (az B ps)).length<eW n/\qs=[])\/
   (r=0/\yh i n/\eW n<=(aZ (az B ps)).length/\qs=nb (az B ps) i.toNat n ((aZ (az B ps)).take (eW n))))
theorem QN{i:Nat}(h:∀c∈own,c≠0/\c<256)(z:own.length<=32):(nb X i n own).length<=600:=by
 unfold nb;rw[aC,aC,qj _ _ h,CY,oX];omega
theorem Yy{J:Nat}{ps:List (Int×Int)}(h:eK w b J B ps)(U:In64 (az B ps))(hT:kN w)(DV:J<w.heap.size)(ac:ps.length<=800000)(i:Int)(n:bT)(v:Value)(g:Nat)(W:n.B.length=13)(hE:bD w v g n.E)
  (hN:∀k,k<n.E.length->(eX n.E k).size<=9223372036854775807) (aa:n.E.length≠0->g≠b/\g≠J):
  Calls prog 152 #[b,i,aM n v] w (tj w b J B ps i n):=by
 by_cases z:yh i n
 ·by_cases V:eW n<=(aZ (az B ps)).length
  ·refine(aby h U hT DV ac i n v g W hE hN z aa V).mono λe w' G=> ?_
   obtain⟨G,gI,h1,h2,h3⟩:=G;exact⟨0,_,gI,G,h1,h2,h3,QN qy (by rw[uj V];exact GC z.2.2),.inr (.inr ⟨rfl,z,V,rfl⟩)⟩
  ·refine(QC h U i n v g W hE hN z (by omega)).mono λe w' G=> ?_
   exact⟨7,[],J,G.1,.inl rfl,by rw[br];exact h.keep G.2 (by simp) (by simp),G.2.mono (by simp),by simp,.inr (.inl ⟨rfl,z,by omega,rfl⟩)⟩
 ·refine(Yf i n v g W hE hN z).mono λe w' G=> ?_
  exact⟨1,[],J,G.1,.inl rfl,by rw[br];exact h.keep G.2 (by simp) (by simp),G.2.mono (by simp),by simp,.inl ⟨rfl,z,rfl⟩⟩
theorem aej (z: -9223372036854775808<=x)(h:x<9223372036854775808):wrap64 x=x:=by unfold wrap64;omega
theorem Fk (z:0<=x)(h:x<18446744073709551616):IntKind.u64.wrap x=x:=by
 simp[IntKind.wrap,IntKind.bits,IntKind.signed];omega
def uk (l:List Int) (p b:Nat):Nat->List Int
 |0=>l
 |j+1=>(uk l p b j).set (p+j) (((b+j:Nat):Int))
theorem yZ (l:List Int)(p b:Nat):∀j,(uk l p b j).length=l.length
 |0=>rfl
 |j+1=>by unfold uk;rw[cY,yZ l p b j]
def kA (L:List Int):Nat->Option (List Int)
 |0=>some (List.replicate 13 0)
 |k+1=>match kA L k with
  |none=>none
  |some l=>if 13<(L.getD k 0).toNat/4294967296+(L.getD k 0).toNat%256 then none
   else some (uk l ((L.getD k 0).toNat/4294967296) ((L.getD k 0).toNat/256%16777216) ((L.getD k 0).toNat%256))
theorem Ee {L:List Int}{k:Nat}(h:kA L k=none):∀n,k<=n->kA L n=none
 |0,hn=>by have :k=0:=by omega
           subst this;exact h
 |n+1,hn=>by
  by_cases e:k=n+1
  ·subst e;exact h
  ·unfold kA
   rw[Ee h n (by omega)]
theorem wH {L:List Int}:∀{k:Nat} {l:List Int},kA L k=some l->l.length=13
 |0,l,h=>by cases h;simp
 |k+1,l,h=>by
  unfold kA at h;split at h
  ·cases h
  ·rename_i l0 h0
   split at h
   ·cases h
   ·cases h
    rw[yZ,wH h0]
theorem run_parts(x:Nat)(h:x<18446744073709551616):bits .and .u64 ((x:Int)/256) 16777215=((x/256%16777216:Nat):Int)/\bits .and .u64 (x:Int) 255=((x%256:Nat):Int):=by
 have z:=Nat.div_le_self x 256;constructor
 ·rw[show(x:Int)/256=((x/256:Nat):Int) by omega,show(16777215:Int)=((16777215:Nat):Int) from rfl,ir (x/256) 16777215 (by omega) (by omega),show x/256 &&& 16777215=x/256%2^24 from dW _ 24]
 ·rw[show(255:Int)=((255:Nat):Int) from rfl,ir x 255 h (by omega),show x &&& 255=x%2^8 from dW x 8]
theorem yj{fn:Func}{tmps:Array Value}{a t:Nat}{z:Addr}{x:Value}(h:fn.results= #[.cell a t,.tmp b])(G:tmps.getD a undef= .pointer (some z))(U:(loadVar t z).run P w= .ok v w)
  (J:tmps.getD b undef=x):(results fn tmps).run P w= .ok (.tuple #[v,x]) w:=by
 rw[fg] at G J;unfold results;rw[h];simp[G,vY,U,J]
def GM (w:World) (L:List Int) (e:Ending) (w':World):Prop:=
 ∃l ok,e= .returned (.tuple #[(zs l).toArray,.bool ok])/\l.length=13/\(ok=true->kA L L.length=some l)/\(ok=false->kA L L.length=none/\l=List.replicate 13 0)/\ay [] w w'
theorem QO (x P N C:Nat)(U:x<18446744073709551616)(W:P=x/4294967296)(G:N=x/256%16777216)(V:C=x%256):
  ∃h:Int,(x:Int)/4294967296=(P:Int)/\bits .and .u64 ((x:Int)/256) 16777215=(N:Int)/\bits .and .u64 (x:Int) 255=(C:Int)/\(P:Int)+(C:Int)=h/\IntKind.u64.wrap h=h/\(13<P+C↔13<h)/\P<4294967296/\N<16777216/\C<256:=by
 obtain⟨z,J⟩:=run_parts x U;refine⟨(P:Int)+(C:Int),by omega,by rw[G];exact z,by rw[V];exact J,rfl,Fk (by omega) (by omega),by omega,by omega,by omega,by omega⟩
theorem QP (P N C k:Nat)(G:P+C<=13)(J:k<C)(U:N<16777216):∃z h:Int,(P:Int)+(k:Int)=z/\IntKind.u64.wrap z=z/\0<=z/\z<13/\z.toNat=P+k/\(N:Int)+(k:Int)=h/\IntKind.u64.wrap h=h/\wrap64 h=h/\h=((N+k:Nat):Int):=
 ⟨(P:Int)+(k:Int),(N:Int)+(k:Int),rfl,Fk (by omega) (by omega),by omega,by omega,by omega,rfl,Fk (by omega) (by omega),aej (by omega) (by omega),by omega⟩
theorem NJ{L:List Int}(h:Reads w v g (aY L))(hL:L.length<=100)(ah:∀k,0<=L.getD k 0/\L.getD k 0<18446744073709551616):
  Calls prog 224 #[v] w (GM w L):=by
 obtain⟨a,cap,rfl,h1,h2,HC⟩:=fW h;have ae:=pC;have oP:Hid (bh ((w.alloc (.cells (zs (List.replicate 13 0)).toArray 73)).alloc (.cells (zs (List.replicate 13 0)).toArray 73)) w.heap.size (zs (List.replicate 13 0)).toArray 73):=(bh.new w _ _).alloc _;have CX:Hid (bh ((w.alloc (.cells (zs (List.replicate 13 0)).toArray 73)).alloc (.cells (zs (List.replicate 13 0)).toArray 73)) (w.heap.size+1) (zs (List.replicate 13 0)).toArray 73):=by
  have :=bh.new (w.alloc (.cells (zs (List.replicate 13 0)).toArray 73)) (zs (List.replicate 13 0)).toArray 73;have e:(w.alloc (.cells (zs (List.replicate 13 0)).toArray 73)).heap.size=w.heap.size+1:=by simp
  rw[e] at this;exact this
 have fJ:Hid (ay [] w ((w.alloc (.cells (zs (List.replicate 13 0)).toArray 73)).alloc (.cells (zs (List.replicate 13 0)).toArray 73))):=((ay.refl _ _).alloc _).alloc _;have lU:Hid (∀J l,l.length=13->bh J w.heap.size (zs (List.replicate 13 0)).toArray 73->∃w',(storeVar 73 w.heap.size (.agg (zs l).toArray)).run prog J= .ok () w'/\(loadVar 73 w.heap.size).run prog w'= .ok (.agg (zs l).toArray) w'/\ay [w.heap.size] J w'):=λJ l hl hb=>by
  obtain⟨w',q1,q2,q3⟩:=bG (P:= prog) (ty:= 73) (cs:=zs l) (by rw[eO,hl];exact mf) hb (by simp[eO,hl]) (nB _);exact⟨w',q1,fA (off:=0) q2 hl (λk hk=>by rw[bc,aF,gK (by omega)]),q3⟩
 have uQ:=ar ah;clear h ah;generalize hn:L.length=n at *;have HN:=ar hn;clear hn;generalize aj:(zs (List.replicate 13 0)).toArray=Z0 at *;have jy:=ar aj;clear aj;go_in;go_wp2_with fail;go_loopg [13] n (λgh s13 J=>∃(k:Nat) (l:List Int),k+gh=n/\s13= .int .i64 (k:Int)/\Hid (kA L k=some l/\bh J (w.heap.size+1) (zs l).toArray 73/\bh J w.heap.size Z0 73/\ay [] w J))
 case atStart=>exact⟨0,List.replicate 13 0,by omega,rfl,rfl,by rw[jy.out];exact CX.out,oP.out,fJ.out⟩
 case round=>
  clear oP CX fJ;obtain⟨k,l,hk,rfl,HP⟩:=hrel;obtain⟨uD,z,G,V⟩:=HP.out;have tq:=wH uD;cases gk with
  |zero=>
   obtain rfl:k=n:=by omega
   have HL:=ar (fA (off:=0) z tq (λk hk=>by rw[bc,aF,gK (by omega)]));obtain⟨w2,hS,ot,U⟩:=lU.out wr l tq G;obtain⟨HS,mY⟩:=hh2 hS ot;have HF:Hid (GM w L (.returned (.tuple #[(zs l).toArray,true])) w2):=⟨l,true,rfl,tq,λ_=>by rw[HN.out];exact uD,λh=>(by cases h),V.trans U (by simp)⟩;clear HP uD z G V hS ot U hk ae;go_wp2_with(with_reducible first|refine gL 73 HL.out ?_|refine gS 73 HS.out ?_);exact aI (yj results224 rfl mY.out rfl) rfl HF.out
  |succ gg=>
   have aD:k<n:=by omega
   have aJ:(k:Int)<(n:Int):=by omega
   have cM:(0:Int)<=(k:Int):=by omega
   obtain⟨au,off,rfl,c0⟩:=HC.out k aD;have d0:=(aO (w:=w) (a:=⟨g,off+k,none⟩) (V.block g au (by simp))).trans c0;have aC:=uQ.out k;obtain⟨x,hx⟩:∃x:Nat,L.getD k 0=(x:Int):=⟨(L.getD k 0).toNat,by omega⟩;have ak:(L.getD k 0).toNat=x:=by omega
   have Sz:Hid (kA L (k+1)=if 13<x/4294967296+x%256 then none else some (uk l (x/4294967296) (x/256%16777216) (x%256))):=by
    show _=_;rw[kA,uD,ak]
   rw[hx] at d0;obtain⟨P,hP⟩:∃P,P=x/4294967296:=⟨_,rfl⟩;obtain⟨N,ac⟩:∃N,N=x/256%16777216:=⟨_,rfl⟩;obtain⟨C,W⟩:∃C,C=x%256:=⟨_,rfl⟩;obtain⟨si,q1,q2,q3,q4,q5,q6,q7,q8,q9⟩:=QO x P N C (by omega) hP ac W;rw[<-hP,<-ac,<-W] at Sz;obtain⟨jr,oP,CX⟩:=hh3 V G z;clear hP ac W c0 hx ak aC HP uD z G V;by_cases af:13<si
   ·have jY:Hid (kA L n=none):=Ee (by rw[Sz.out,aB (q6.2 af)]) n (by omega)
    obtain⟨w2,hS,ot,U⟩:=lU.out wr (List.replicate 13 0) (by simp) oP.out;rw[jy.out] at hS ot;obtain⟨HS,mY⟩:=hh2 hS ot;have HF:Hid (GM w L (.returned (.tuple #[Z0,false])) w2):=⟨List.replicate 13 0,false,by rw[jy.out],by simp,λh=>(by cases h),λ_=>⟨by rw[HN.out];exact jY.out,rfl⟩,jr.out.trans U (by simp)⟩;clear hS ot U q6 q7 q8 q9;go_wp2_with(with_reducible refine gS 73 HS.out ?_);exact aI (yj results224 rfl mY.out rfl) rfl HF.out
   ·have ax:P+C<=13:=by
     have :¬13<P+C:=λh=>af (q6.1 h)
     omega
    have nE:Hid (kA L (k+1)=some (uk l P N C)):=by
     show _=_;rw[Sz.out,aA]
    clear q6 Sz;go_wp2_with fail;clear d0 q1 q2 q3 q4 q5 ae;go_loopg [30] C (λgh s30 J=>∃j:Nat,j+gh=C/\s30= .int .u64 (j:Int)/\Hid (bh J (w.heap.size+1) (zs (uk l P N j)).toArray 73/\bh J w.heap.size Z0 73/\ay [] w J))
    case atStart=>exact⟨0,by omega,rfl,CX.out,oP.out,jr.out⟩
    case round=>
     clear CX oP jr;obtain⟨j,hj,rfl,HQ⟩:=hrel;cases gk with
     |zero=>
      obtain rfl:j=C:=by omega
      have aa:=ar HQ.out;clear HQ hj;go_wp2_with fail;go_roundg gg;case measure=>omega
      case rel=>exact⟨k+1,_,by omega,by go_num,nE.out,aa.out.1,aa.out.2.1,aa.out.2.2⟩
     |succ gk=>
      have av:j<C:=by omega
      have aH:(j:Int)<(C:Int):=by omega
      have Ci:(0:Int)<=(j:Int):=by omega
      obtain⟨ji,vi,r1,r2,r3,r4,r5,r6,r7,r8,r9⟩:=QP P N C j ax av q8;obtain⟨z,G,V⟩:=HQ.out;have ai:(uk l P N j).length=13:=by rw[yZ];exact tq
      have az:wr.cell? ⟨w.heap.size+1,P+j,none⟩=some (.int .i64 ((uk l P N j).getD (P+j) 0)):=by rw[z.cell,aF,gK (by omega)]
      have aK:wr.frozen? ⟨w.heap.size+1,P+j,none⟩=false:=z.frozen _;have HR:Hid (bh (wr.setCell ⟨w.heap.size+1,P+j,none⟩ (.int .i64 vi)) (w.heap.size+1) (zs (uk l P N (j+1))).toArray 73/\bh (wr.setCell ⟨w.heap.size+1,P+j,none⟩ (.int .i64 vi)) w.heap.size Z0 73/\ay [] w (wr.setCell ⟨w.heap.size+1,P+j,none⟩ (.int .i64 vi))):=by
       refine⟨?_,G.other (by simp) _,V.setCell (.inr (by show w.heap.size<=w.heap.size+1;omega)) _⟩;have :=z.set (P+j) (.int .i64 vi);rw[ag,Xx,r9] at this;rw[r9];exact this
      clear HQ z G V ai r9;generalize (uk l P N j).getD (P+j) 0=y at *;have aG:IntKind.u64.wrap ((j:Int)+1)=(j:Int)+1:=Fk (by omega) (by omega);go_wp2_with fail;go_roundg gk;case measure=>omega
      case rel=>exact⟨j+1,by omega,by go_num,HR.out⟩
theorem GP (l:List Int):∀f e,e<=oV l f e
 |0,e=>aH _
 |f+1,e=>by
  unfold oV;split
  ·have :=GP l f (e+1);omega
  ·omega
theorem Aw (l:List Int):∀f e i,e<=i->i<oV l f e->mg l i
 |0,e,i,h1,h2=>by unfold oV at h2;omega
 |f+1,e,i,h1,h2=>by
  unfold oV at h2;split at h2
  ·rename_i hc
   by_cases h:i=e
   ·subst h;exact hc
   ·exact Aw l f (e+1) i (by omega) h2
  ·omega
theorem GQ (l:List Int):∀f e,13<=e+f->¬mg l (oV l f e)
 |0,e,h=>by
  unfold oV;exact λz=>by have :=z.2.1;omega
 |f+1,e,h=>by
  unfold oV;split
  ·exact GQ l f (e+1) (by omega)
  ·assumption
theorem Yz (l:List Int)(f e:Nat)(h:e<=13):oV l f e<=13:=by
 by_cases z:oV l f e=e
 ·omega
 ·have G:=GP l f e
  have :=(Aw l f e (oV l f e-1) (by omega) (by omega)).2.1;omega
def abI (l:List Int) (k j:Nat):Prop:=∃s,s<k/\sP l s/\s<=j/\j<s+rM l s
theorem qY (l:List Int){s:Nat}(G:s<13):1<=rM l s/\s+rM l s<=13/\s+rM l s=oV l 13 (s+1):=by
 have h:=GP l 13 (s+1);have z:=Yz l 13 (s+1) (by omega);unfold rM;omega
theorem abJ{s j:Nat}(G:s<13)(J:s<=j)(z:j<s+rM l s):l.getD j 0=l.getD s 0+((j-s:Nat):Int):=by
 obtain⟨-,-,U⟩:=qY l G;rw[U] at z;exact abc (λi V h=>Aw l 13 (s+1) i (by omega) h) j J z
theorem abK:∀j,j<13->DZ (l.getD j 0)->abI l (j+1) j:=by
 intro j;induction j with
 |zero=>
  intro _ J;refine⟨0,by omega,⟨J,λh=>by have :=h.1;omega⟩,by omega,?_⟩;have :=(qY l (show 0<13 by omega)).1;omega
 |succ j ih=>
  intro W J;by_cases G:mg l (j+1)
  ·have z:=G.2.2.2.1
   rw[ib] at z;obtain⟨s,h1,h2,h3,U⟩:=ih (by omega) z;obtain⟨-,-,h5⟩:=qY l (show s<13 by omega);refine⟨s,by omega,h2,by omega,?_⟩;rw[h5] at U ⊢;refine Nat.lt_of_not_le λV=> ?_
   have h6:oV l 13 (s+1)=j+1:=by omega
   have :=GQ l 13 (s+1) (by omega);rw[h6] at this;exact this G
  ·refine⟨j+1,by omega,⟨J,G⟩,by omega,?_⟩
   have :=(qY l W).1;omega
theorem GR (A C:List Int):∀k,k<=A.length->kA (A++C) k=kA A k
 |0,_=>rfl
 |k+1,h=>by
  unfold kA;rw[GR A C k (by omega),aj,aj,ba (by omega)]
theorem C4 (l:List Int)(p b:Nat):∀c,p+c<=l.length->∀j,(uk l p b c).getD j 0=if p<=j/\j<p+c then ((b+(j-p):Nat):Int) else l.getD j 0
 |0,_,j=>by rw[aA];rfl
 |c+1,h,j=>by
  rw[uk,A8,yZ,C4 l p b c (by omega)];by_cases e:p+c=j
  ·subst e
   rw[aB ⟨rfl,by omega⟩,aB ⟨by omega,by omega⟩,dD]
  ·rw[aA]
   by_cases z:p<=j/\j<p+c
   ·rw[aB z,aB ⟨z.1,by omega⟩]
   ·rw[aA z,aA]
theorem QQ (k b n:Nat)(G:k<256)(z:b<256)(h:n<256):(zA k (b:Int) n).toNat/4294967296=k/\(zA k (b:Int) n).toNat/256%16777216=b/\(zA k (b:Int) n).toNat%256=n:=by
 have e:(zA k (b:Int) n).toNat=k*4294967296+b*256+n:=by unfold zA;omega
 rw[e];omega
theorem U3 (B:List Int):∀k,k<=13->∃l,kA (gD B k) (gD B k).length=some l/\(∀j,abI B k j->l.getD j 0=B.getD j 0)/\∀j,¬abI B k j->l.getD j 0=0:=by
 intro k;induction k with
 |zero=>
  intro _;refine⟨List.replicate 13 0,rfl,λj h=> ?_,λj _=> ?_⟩
  ·obtain⟨s,V,-⟩:=h
   omega
  ·rw[aj,bj]
   split<;>rfl
 |succ k ih=>
  intro hk;obtain⟨l,V,h2,h3⟩:=ih (by omega);by_cases U:sP B k
  ·obtain⟨f1,f2,-⟩:=qY B (show k<13 by omega)
   obtain⟨b,hb⟩:∃b:Nat,B.getD k 0=(b:Int):=⟨(B.getD k 0).toNat,by have :=U.1;unfold DZ at this;omega⟩;have aa:b<256:=by have :=U.1;unfold DZ at this;omega
   obtain⟨p1,p2,p3⟩:=QQ k b (rM B k) (by omega) aa (by omega);have hl:=wH V;have hg:(gD B k++[zA k (B.getD k 0) (rM B k)]).getD (gD B k).length 0=zA k (b:Int) (rM B k):=by rw[hb];simp
   refine⟨uk l k b (rM B k),?_,λj J=> ?_,λj J=> ?_⟩
   ·rw[gD,aB U,aC,jZ,kA,GR _ _ _ (aH _),V,hg,p1,p2,p3]
    show(if 13<k+rM B k then none else some _)=_;rw[aA]
   ·rw[C4 _ _ _ _ (by omega)]
    by_cases G:k<=j/\j<k+rM B k
    ·rw[aB G,abJ (by omega) G.1 G.2,hb]
     omega
    ·rw[aA G]
     obtain⟨s,g1,z,W,g4⟩:=J;refine h2 j ⟨s,?_,z,W,g4⟩;rcases (show s<k\/s=k by omega) with h|h
     ·exact h
     ·subst h;exact absurd ⟨W,g4⟩ G
   ·rw[C4 _ _ _ _ (by omega),aA (λG=>J ⟨k,by omega,U,G.1,G.2⟩)]
    exact h3 j λ⟨s,g1,z⟩=>J ⟨s,by omega,z⟩
  ·refine⟨l,?_,λj J=> ?_,λj J=> ?_⟩
   ·rw[gD,aA U];exact V
   ·obtain⟨s,g1,z,W⟩:=J
    refine h2 j ⟨s,?_,z,W⟩;rcases (show s<k\/s=k by omega) with h|h
    ·exact h
    ·subst h;exact absurd z U
   ·exact h3 j λ⟨s,g1,z⟩=>J ⟨s,by omega,z⟩
theorem BC (A:List Int){l:List Int}(h:kA A A.length=some l):∀z,kA (A++List.replicate z 0) (A.length+z)=some l
 |0=>by simpa using h
 |z+1=>by
  have J:=BC A h z;have G:(A++List.replicate (z+1) (0:Int)).getD (A.length+z) 0=0:=by
   rw[aj,aR (by omega),bj];split<;>rfl
  have e:A++List.replicate (z+1) (0:Int)=(A++List.replicate z 0)++[0]:=by rw[List.replicate_succ',aV]
  show kA _ (A.length+z+1)=_;rw[kA,G,e,GR _ _ _ (by simp),J];rfl
theorem GU (hB:B.length=13)(V:∀k,k<13->0<=B.getD k 0/\B.getD k 0<256)(z:Nat):kA (fw B++List.replicate z 0) ((fw B).length+z)=some B:=by
 obtain⟨l,G,h2,W⟩:=U3 B 13 (aH _);have hl:=wH G;have e:l=B:=DW (by omega) λj hj=>by
  by_cases h:abI B 13 j
  ·exact h2 j h
  ·rw[W j h]
   by_cases J:DZ (B.getD j 0)
   ·obtain⟨s,g1,U⟩:=abK j (by omega) J
    exact absurd ⟨s,by omega,U⟩ h
   ·have :=V j (by omega)
    unfold DZ at J;omega
 subst e;exact BC (fw l) G z
theorem mi (t T ty:TypeId)(i:TypeInfo)(z:Value)(size bytes:Nat)(ht:P.underlying t=some (.slice T))(hi:P.info? T=some i)(hz:i.zero=some z)(af:i.size=size)(ai:i.bytes=bytes)(ag:z.cells.size=size)(ac:0<size)
  (G n:Nat) (v:Value) (xs:List Value) (J:w.ownsRow G T size v n xs) (a:Option Addr) (m c:Nat) (V:List Value) (hl:V.length=m*size) (hc:m≠0->∃ad,a=some ad/\∀j u,V[j]? =some u->w.cell? (ad.add j)=some u) (h1:∀u∈V,u.oneCell'=true)
  (ae:n+m<=maxLen) (U:(n+m)*bytes<=140737488355328) (W:G<=w.heap.size):
  ∃v' w',(Builtin.append_ #[t,t] ty #[v,.slice a m c]).run P w= .ok v' w'/\w'.ownsRow G T size v' (n+m) (xs++V)/\w.grownBy w' v.ownBlock:=by
 cases a with
 |none=>
  have h0:m=0:=by
   rcases dZ m with h|h
   ·exact h
   ·obtain⟨ad,e,-⟩:=hc (by omega);cases e
  subst h0;have aj:V=[]:=bo (by rw[hl];simp);subst aj;refine⟨v,w,?_,by simpa using J,⟨rfl,rfl,rfl,aH _,λ_ _ _=>rfl⟩⟩;obtain⟨-,h5⟩:=J;rcases h5 with ⟨rfl,rfl⟩|⟨g',ak,au,rfl,hg,hh,q2,q3,q4,q5⟩
  ·simp[Builtin.append_,dB ht,sizeOf,typeInfo,hi,Builtin.lenOf,Builtin.firstCells]
  ·simp[Builtin.append_,dB ht,sizeOf,typeInfo,hi,Builtin.lenOf,Builtin.firstCells,q2,storeCells]
 |some ad=>
  have aa:∀j u,V[j]? =some u->w.cell? (ad.add j)=some u:=by
   intro j u hu;have hj:j<V.length:=(List.getElem?_eq_some_iff.1 hu).1;have hm:m≠0:=by
    intro e;rw[hl,e] at hj;simp at hj
   obtain⟨ar,e,ah⟩:=hc hm;cases e;exact ah j u hu
  obtain⟨v',w',hr,ho,hg,-⟩:=run_append_own (P:=P) w G t ty T i z size bytes ht hi hz af ai ag ac v n xs J ad m c V hl aa h1 ae U W;exact⟨v',w',hr,ho,hg⟩
theorem wpList_append_run{z:Array Oper}{rest:List Oper}{o:Oper}{a:Act}{Q:Exit->Act->World->Prop}(G:o.guard=none)(d x:Operand)(t J:TypeId)
  (ho:o.op= .call { callee:= .builtin .append,args:= #[d,x],argTypes:= #[t,J] }) (v u:Value) (V:a.eval d=v) (hx:a.eval x=u) {U:Value} {w':World}
  (hr:(Builtin.append_ #[t,J] o.type #[v,u]).run P w= .ok U w') (h:wpList P z Q rest (a.put o.dst U) w'):wpList P z Q (o::rest) a w:=
 wpList_plain G λ_ W=>by
  unfold Oper.wp execOp;simp only[ho,resolve,invoke,builtin,cr,fQ,cO,List.map_toArray,List.map_cons,List.map_nil,V,hx,hr];exact W _ _ h
theorem BD (w:World)(t W e:TypeId)(i:TypeInfo)(z:Value)(kq kn:IntKind)(ht:P.underlying t=some (.slice e))(aa:P.underlying W=some (.int kn))(hi:P.info? e=some i)(hz:i.zero=some z)(ae:i.size=1)(YA:z.cells.size=1)
  (k:Nat) (h0:0<k) (hk:k<=1000) (J:i.bytes=8):
  ∃c w',(∀ty,(Builtin.append_ #[t,W] ty #[(),.int kq k]).run P w= .ok (.slice w.heap.size k c) w')/\k<=c/\w'.ownsRow w.heap.size e 1 (.slice w.heap.size 0 c) 0 []/\ay [] w w':=by
 have V:(Builtin.firstCells i.size 0 (.slice none 0 0)).run P w.drew= .ok ([]:List Value).toArray w.drew:=by simp[Builtin.firstCells]
 have ac:Builtin.nextslicecap (0+k) 0<=4*1000+64:=by
  unfold Builtin.nextslicecap;split<;>omega
 have h:=λty=>Lib.run_append_grow_zeros w t W ty e i z kq kn ht aa hi hz none 0 0 [] V k h0 (by omega) (by omega) (by omega) (by rw[J];omega) (by rw[J];omega)
 have U:=grownCap_ge w (0+k) 0 e;have G:=grownCap_le_maxLen w (0+k) 0 e (by unfold maxLen;omega);rw[bc] at U G;simp only[bc] at h;refine⟨_,_,h,U,⟨rfl,.inr ⟨w.heap.size,grownCap w k 0 e,_,rfl,aH _,bh.new w.drew _ _,fD _,G,?_,by simp⟩⟩,((ay.refl [] w).drew).alloc _⟩;simp[oG,YA];omega
theorem abL (k:Nat)(h0:0<k)(hk:k<=1000)(z:Int)(xD:z=(k:Int))(w:World):Calls prog 234 #[(),z] w λe w'=>
  ∃c,e= .returned (.slice w.heap.size 0 c)/\w'.ownsRow w.heap.size 70 1 (.slice w.heap.size 0 c) 0 []/\ay [] w w':=by
 obtain⟨i0,W,J,V,U⟩:=df Tryz.info_u64;obtain⟨c,w',hr,hc,h,G⟩:=BD (P:= prog) w 65 3 70 i0 _ .i64 .i64 underlying65 underlying3 W J V rfl k h0 hk U;have h1:¬z<0:=by omega
 have h2:0<z:=by omega
 have h3:wrap64 z=z:=by unfold wrap64;omega
 simp only[<-xD] at hr;obtain⟨HO,HK⟩:=hh2 h G;have aa:c≠0:=by omega
 have ac:(0:Int)<=(c:Int):=by omega
 clear h G xD W J V U hc;go_in;go_wp2_with(at_builtin;refine wpList_append_run rfl (.tmp 20) (.tmp 21) 65 3 ?_ (.slice none 0 0) (.int .i64 z) ?_ ?_ (hr _) ?_;all_goals first|rfl|skip);go_ret;exact⟨c,rfl,HO.out,HK.out⟩
theorem Ef{a:Option Addr}{m c:Nat}{z:List Value}(h:Reads w (.slice a m c) g z)(J:m≠0):∃G,a=some G/\∀j u,z[j]? =some u->w.cell? (G.add j)=some u:=by
 obtain⟨a',c',V,h2,h3,W⟩:=h;cases V;obtain⟨-,off,rfl,hc⟩:=W (by intro e;rw[e] at J;exact J rfl);refine⟨_,rfl,λj u U=> ?_⟩;have hj:j<z.length:=(List.getElem?_eq_some_iff.1 U).1;rw[add_plain,hc j hj,U]
def szC (j:Nat):Nat:=if j=0 then 0 else if j=1 then 5 else 13
def QR (h z:List Int) (j:Nat):List Int:=if j=0 then [] else if j=1 then h else h++z
theorem U4{gs g1 g2 T:Nat}{x1 x2:Value}{z G:List Int}(hb:bh w gs #[x1,x2] T)(h1:Reads w x1 g1 (aY z))(h2:Reads w x2 g2 (aY G))(Cx:z.length=5)(ai:G.length=8):
  Calls prog 223 #[.slice gs 2 2] w (jJ w (z++G)):=by
 obtain⟨i0,hi,af,aj,ah⟩:=df Tryz.info_u64;obtain⟨a1,c1,rfl,ax,WW,H1⟩:=fW h1;obtain⟨a2,c2,rfl,av,az,H2⟩:=fW h2;rw[Cx] at hb ax h1;rw[ai] at hb av h2;obtain⟨au,TM,HB⟩:=hh3 h1 h2 hb;clear h1 h2 hb H1 H2;have ac:∀U,ay [] w U->U.cell? gs=some (.slice a1 5 c1):=λU hk=>by rw[(HB.out.keep hk (by simp)).cell];rfl
 have ak:∀U,ay [] w U->U.cell? ⟨gs,1,none⟩=some (.slice a2 8 c2):=λU hk=>by rw[(HB.out.keep hk (by simp)).cell];rfl
 obtain⟨ag,aa⟩:=hh2 ac ak;clear ac ak;go_in;go_wp2_with fail;go_loopg [3,11] 2 (λgh s3 K3 U=>∃j:Nat,j+gh=2/\K3= .int .i64 (j:Int)/\s3= .int .i64 ((szC j:Nat):Int)/\w=U)
 case atStart=>exact⟨0,rfl,rfl,rfl,rfl⟩
 case round=>
  obtain⟨j,hj,rfl,rfl,rfl⟩:=hrel;have e0:=ag.out w (ay.refl _ _);have e1:=aa.out w (ay.refl _ _);rcases (show gk=0\/gk=1\/gk=2 by omega) with rfl|rfl|rfl
  ·obtain rfl:j=2:=by omega
   rw[show szC 2=13 from rfl];clear e0 e1;go_wp2_with fail;refine(abL 13 (by omega) (by omega) 13 rfl w).mono ?_;rintro e w1 ⟨c,rfl,h,ae⟩;obtain⟨HO,HK⟩:=hh2 h ae;clear h ae;go_wp2_with fail;go_loopg [6,27] 2 (λgh s6 s27 U=>∃j:Nat,j+gh=2/\s27= .int .i64 (j:Int)/\Hid (U.ownsRow w.heap.size 70 1 s6 (szC j) (aY (QR z G j))/\ay [] w U))
   case atStart=>exact⟨0,rfl,rfl,HO.out,HK.out⟩
   case round=>
    clear HO HK;obtain⟨j,hj,rfl,HP⟩:=hrel;obtain⟨h,J⟩:=HP.out;have e0:=ag.out _ J;have e1:=aa.out _ J;rcases (show gk=0\/gk=1\/gk=2 by omega) with rfl|rfl|rfl
    ·obtain rfl:j=2:=by omega
     have HM:Hid (jJ w (z++G) (.returned u6) wr):=by
      obtain⟨g,W,V⟩:=eZ.of_row h;exact⟨u6,g,rfl,W.reads,(V (by decide)).1,J⟩
     clear e0 e1 h J HP;go_wp2_with fail;go_ret;exact HM.out
    ·obtain rfl:j=1:=by omega
     obtain⟨v',w',hr,W,V⟩:=mi (P:= prog) 65 70 65 i0 _ 1 8 underlying65 hi af aj ah rfl (by omega) w.heap.size 5 _ _ h a2 8 c2 (aY G) (by rw[bB,ai]) (Ef (TM.out.keep J (by simp))) (fk _) (by decide) (by omega) J.size;have HN:Hid (w'.ownsRow w.heap.size 70 1 v' 13 (aY (QR z G 2))/\ay [] w w'):=by
      refine⟨?_,J.grown V (dQ h)⟩;have e:aY (QR z G 2)=aY (QR z G 1)++aY G:=by rw[<-tX];rfl
      rw[e];exact W
     clear h J HP W V e0;go_wp2_with(at_builtin;refine wpList_append_run rfl (.tmp 31) (.tmp 32) 65 65 ?_ u6 (.slice a2 8 c2) ?_ ?_ hr ?_;all_goals first|rfl|skip);go_roundg 0;case measure=>omega
     case rel=>exact⟨2,rfl,rfl,HN.out⟩
    ·obtain rfl:j=0:=by omega
     obtain⟨v',w',hr,W,V⟩:=mi (P:= prog) 65 70 65 i0 _ 1 8 underlying65 hi af aj ah rfl (by omega) w.heap.size 0 _ _ h a1 5 c1 (aY z) (by rw[bB,Cx]) (Ef (au.out.keep J (by simp))) (fk _) (by decide) (by omega) J.size;have HN:Hid (w'.ownsRow w.heap.size 70 1 v' 5 (aY (QR z G 1))/\ay [] w w'):=by
      refine⟨?_,J.grown V (dQ h)⟩;have e:aY (QR z G 1)=aY (QR z G 0)++aY z:=rfl;rw[e];exact W
     clear h J HP W V e1;go_wp2_with(at_builtin;refine wpList_append_run rfl (.tmp 31) (.tmp 32) 65 65 ?_ u6 (.slice a1 5 c1) ?_ ?_ hr ?_;all_goals first|rfl|skip);go_roundg 1;case measure=>omega
     case rel=>exact⟨1,rfl,rfl,HN.out⟩
  ·obtain rfl:j=1:=by omega
   rw[show szC 1=5 from rfl];clear e0;go_wp2_with fail;go_roundg 0;case measure=>omega
   case rel=>exact⟨2,rfl,rfl,rfl,rfl⟩
  ·obtain rfl:j=0:=by omega
   rw[show szC 0=0 from rfl];clear e1;go_wp2_with fail;go_roundg 1;case measure=>omega
   case rel=>exact⟨1,rfl,rfl,rfl,rfl⟩
end Go.Proofs.YtimcfdnbpkiniaaGreatDoor
