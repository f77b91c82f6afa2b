/- Lemmas. -/
import Derived.Test.YtepbpdipenedhaaGreatDoorM10
import Derived.Lib.AppendZerosOnto
set_option maxHeartbeats 8000000
set_option maxRecDepth 100000
namespace Go.Proofs.YtepbpdipenedhaaGreatDoor
open Go.Proofs.Tryz
open Go.RowKit
variable{B X l:List Int}{x:Int}{own:List Nat}{n:bT}{w:World}{b g:Nat}{P:Program}{v:Value}
theorem In64.of_mem(h:∀x,x∈l->0<=x/\x<18446744073709551616):In64 l:=λi=>by
 rw[aj];by_cases z:i<l.length
 ·rw[aD z]
  exact h _ (bG z)
 ·rw[aP (by omega)]
  simp
theorem NI (l:List Int):∀f e,oW l f e<=e+f
 |0,e=>aH _
 |f+1,e=>by
  unfold oW;split
  ·have :=NI l f (e+1);omega
  ·omega
theorem GI {l:List Int}{x:Int}:∀{k:Nat},x∈gD l k->∃j,j<k/\sS l j/\x=zz j (l.getD j 0) (rM l j)
 |0,h=>by simp[gD] at h
 |k+1,h=>by
  unfold gD at h;split at h
  ·rename_i hs
   rcases aT.1 h with h|h
   ·obtain⟨j,G,z⟩:=GI h
    exact⟨j,by omega,z⟩
   ·rw[au] at h
    exact⟨k,by omega,hs,h⟩
  ·obtain⟨j,G,z⟩:=GI h
   exact⟨j,by omega,z⟩
theorem Fa (h:x∈fu l):0<=x/\x<9223372036854775808:=by
 obtain⟨j,U,z,rfl⟩:=GI h;have G:=z.1;have J:=NI l 13 (j+1);unfold DR at G;unfold zz rM;omega
theorem QL (z:∀c∈own,c≠0/\c<256)(k:Nat):own.getD k 0<256:=by
 by_cases h:k<own.length
 ·exact(z _ (jH h)).2
 ·rw[aj,aP (by omega)]
  decide
theorem abA (V:cm n)(U:∀c∈own,c≠0/\c<256):In64 (od n own):=by
 obtain⟨t1,W,t3,t4⟩:=uq V;have G:0<=po n/\po n<18446744073709551616:=by unfold po;omega
 have J:0<=n.S/\n.S<18446744073709551616:=by omega
 refine In64.of_mem λx h=> ?_
 unfold od at h;split at h
 ·have z:∀q,0<=Ap n.E own 4 0 q/\Ap n.E own 4 0 q<18446744073709551616:=λq=>by
   unfold Ap hdD;have h1:=QL U (fN n.E q);split
   ·split<;>omega
   ·split<;>omega
  simp only[Gr,rD,aL,aK,bC] at h;rcases h with rfl|rfl|rfl|rfl|rfl|rfl|rfl|rfl
  ·exact G
  ·exact J
  ·exact z 0
  ·exact z 1
  ·exact z 2
  ·exact z 3
  ·omega
  ·omega
 ·unfold nr at h
  split at h
  ·rcases aL.1 h with rfl|h
   ·exact G
   ·rcases aL.1 h with rfl|h
    ·exact J
    ·rcases aT.1 h with h|h
     ·have :=Fa h;omega
     ·have :=il h;omega
  ·rcases aL.1 h with rfl|h
   ·exact G
   ·rcases aL.1 h with rfl|h
    ·exact J
    ·rcases aT.1 h with h|h
     ·have :=Fa (bO h);omega
     ·rw[au] at h
      have :=QL U 0;omega
theorem QM (U:cm n)(hm:∀c∈own,c≠0/\c<256)(m:Nat):In64 ((gX n own).getD m []):=by
 by_cases z:m<(gX n own).length
 ·unfold gX at z ⊢
  split at z
  ·rename_i hK
   rw[aB hK];have hd:pn n:=(U.2.2.resolve_left (λh=>by have :=h.1;omega)).2;rw[o5] at z;obtain⟨b,j,hb,hj,rfl⟩:=vh n.E z;rw[sx n.E own hj hb];intro y;cases y with
   |zero=>
    show 0<=(if j+1<dN n.E b then ((own.getD (fN n.E b+(j+1)) 0:Nat):Int) else 0)/\(if j+1<dN n.E b then ((own.getD (fN n.E b+(j+1)) 0:Nat):Int) else 0)<_;have :=QL hm (fN n.E b+(j+1));split<;>omega
   |succ y=>
    rw[XY,oZ];by_cases W:y<7
    ·rw[Nu _ _ _ W]
     split
     ·rename_i hc
      split
      ·have :=NC (eX (eB n.E b) (3*j+y/2));omega
      ·obtain⟨k,J,-,V⟩:=E9 hc.1
       rw[V];have :=(hd.2.2.2 k J).2.1;omega
     ·omega
    ·rw[aj,aP (by rw[lf,nU];omega)]
     simp
  ·rename_i hK
   rw[aA hK];unfold kz at *;split
   ·simp[In64]
   ·refine In64.of_mem λx G=> ?_
    rename_i h6
    rw[aA h6] at z;obtain rfl:m=0:=by simpa using z
    have G:x∈(fu n.B).drop 5++List.replicate (13-(fu n.B).length) 0:=G;rcases aT.1 G with G|G
    ·have :=Fa (gA G);omega
    ·have :=il G;omega
 ·rw[aj,aP (by omega)]
  simp[In64]
theorem vF{p:Int×Int}{Ls:List (List Int)}{k:Nat}(h:p∈uu Ls own k):∃m j,m<k/\j<8/\p.1.toNat=1080+8*own.getD m 0+j/\p.2=(Ls.getD m []).getD j 0:=by
 unfold uu at h;obtain⟨m,z,h⟩:=List.mem_flatMap.1 h;rw[bW] at z;obtain⟨j,J,U,G⟩:=mg h;exact⟨m,j,z,J,U,G⟩
theorem abB (z:X.length=3128){Ls:List (List Int)}{own:List Nat}(J:∀m,m<own.length->(Ls.getD m []).length=8)(V:own.Nodup)(G:∀c∈own,c≠0/\c<256):∀k,k<=own.length->∀m,m<k->dZ (az X (uu Ls own k)) (1080+8*own.getD m 0)=Ls.getD m []:=by
 intro k;induction k with
 |zero=>intro _ m h;omega
 |succ k ih=>
  intro hk m aa;have W:=G _ (jH (show k<own.length by omega));have U:=G _ (jH (show m<own.length by omega));rw[Au,bz];by_cases e:m=k
  ·subst e
   exact qU (by rw[ct,z]) _ (by omega) (J m (by omega))
  ·have :own.getD m 0≠own.getD k 0:=λh=>e (getD_inj V (by omega) (by omega) h)
   rw[qV (by rw[ct,z]) _ _ (by omega) (by omega)];exact ih (by omega) m (by omega)
theorem U3 (aa:In64 X)(W:X.length=3128){i:Int}{n:bT}(G:yj i n)(hn:eW n<=(aZ X).length):
  pQ (az X (ng X i.toNat n ((aZ X).take (eW n)))) (dZ (az X (ng X i.toNat n ((aZ X).take (eW n)))) (824+8*i.toNat)) n ((aZ X).take (eW n))/\In64 (az X (ng X i.toNat n ((aZ X).take (eW n))))/\
  (∀k,820<=k->¬(824+8*i.toNat<=k/\k<824+8*i.toNat+8)->¬(1080<=k/\(k-1080)/8∈(aZ X).take (eW n))->(az X (ng X i.toNat n ((aZ X).take (eW n)))).getD k 0=X.getD k 0):=by
 have ac:=uw hn;have hi:=G.1;have J:∀c∈(aZ X).take (eW n),c≠0/\c<256:=qy;have ae:((aZ X).take (eW n)).Nodup:=sB;generalize (aZ X).take (eW n)=own at *;have h8:∀m,m<own.length->((gX n own).getD m []).length=8:=λm V=>wK (by rw[yh G.2.2 ac];exact V)
 refine⟨?_,?_,λk hk h1 h2=> ?_⟩
 ·unfold ng
  rw[bz,bz];refine⟨λm V=> ?_,(qU (by rw[ct,ct,W]) _ (by omega) (Bt n own)).symm⟩;have af:=J _ (jH V);rw[qV (by rw[ct,ct,W]) _ _ (by omega) (by omega)];exact(abB (by rw[ct,W]) h8 ae J _ (aH _) m V).symm
 ·unfold ng
  rw[bz];refine(nQ own X aa W J).1.put λp z=> ?_
  rcases aT.1 z with z|z
  ·obtain⟨m,j,-,-,-,h⟩:=vF z
   rw[h];exact QM G.2.2 J m j
  ·obtain⟨j,-,-,h⟩:=mg z
   rw[h];exact abA G.2.2 J j
 ·refine dW _ _ _ λp z U=> ?_
  unfold ng at z;rcases aT.1 z with z|z
  ·rcases GF _ _ J z with h|h
   ·omega
   ·rw[U] at h;exact h2 h
  ·rcases aT.1 z with z|z
   ·obtain⟨m,j,h3,h4,h5,-⟩:=vF z
    refine h2 ⟨by omega,?_⟩;rw[<-U,h5,show(1080+8*own.getD m 0+j-1080)/8=own.getD m 0 by omega];exact jH h3
   ·obtain⟨j,h4,h5,-⟩:=mg z
    exact h1 ⟨by omega,by omega⟩
def tv (w:World) (b z:Nat) (B:List Int) (ps:List (Int×Int)) (i:Int) (n:bT) (e:Ending) (w':World):Prop:=
 ∃r qs h,e=(r:Int)/\(h=z\/(w.heap.size<=h/\h<w'.heap.size))/\eK w' b h B (ps++qs)/\ay [b,z] w w'/\qs.length<=600/\
  ((r=1/\¬yj i n/\qs=[])\/(r=7/\yj i n/\(aZ (az B ps)).length<eW n/\qs=[])\/
   (r=0/\yj i n/\eW n<=(aZ (az B ps)).length/\qs=ng (az B ps) i.toNat n ((aZ (az B ps)).take (eW n))))
theorem QN{i:Nat}(h:∀c∈own,c≠0/\c<256)(z:own.length<=32):(ng X i n own).length<=600:=by
 unfold ng;rw[aC,aC,qj _ _ h,CR,oY];omega
theorem Yv{J:Nat}{ps:List (Int×Int)}(h:eK w b J B ps)(U:In64 (az B ps))(hT:lD w)(Ew:J<w.heap.size)(aa:ps.length<=800000)(i:Int)(n:bT)(v:Value)(g:Nat)(W:n.B.length=13)(hE:bD w v g n.E)
  (hN:∀k,k<n.E.length->(eX n.E k).size<=9223372036854775807) (ac:n.E.length≠0->g≠b/\g≠J):
  Calls prog 174 #[b,i,aM n v] w (tv w b J B ps i n):=by
 by_cases z:yj i n
 ·by_cases V:eW n<=(aZ (az B ps)).length
  ·refine(abr h U hT Ew aa i n v g W hE hN z ac V).mono λe w' G=> ?_
   obtain⟨G,gI,h1,h2,h3⟩:=G;exact⟨0,_,gI,G,h1,h2,h3,QN qy (by rw[uw V];exact Gy z.2.2),.inr (.inr ⟨rfl,z,V,rfl⟩)⟩
  ·refine(QC h U i n v g W hE hN z (by omega)).mono λe w' G=> ?_
   exact⟨7,[],J,G.1,.inl rfl,by rw[br];exact h.keep G.2 (by simp) (by simp),G.2.mono (by simp),by simp,.inr (.inl ⟨rfl,z,by omega,rfl⟩)⟩
 ·refine(Yc i n v g W hE hN z).mono λe w' G=> ?_
  exact⟨1,[],J,G.1,.inl rfl,by rw[br];exact h.keep G.2 (by simp) (by simp),G.2.mono (by simp),by simp,.inl ⟨rfl,z,rfl⟩⟩
theorem aed (h: -9223372036854775808<=x)(z:x<9223372036854775808):wrap64 x=x:=by unfold wrap64;omega
theorem Fb (h:0<=x)(z:x<18446744073709551616):IntKind.u64.wrap x=x:=by
 simp[IntKind.wrap,IntKind.bits,IntKind.signed];omega
def uy (l:List Int) (p b:Nat):Nat->List Int
 |0=>l
 |j+1=>(uy l p b j).set (p+j) (((b+j:Nat):Int))
theorem yZ (l:List Int)(p b:Nat):∀j,(uy l p b j).length=l.length
 |0=>rfl
 |j+1=>by unfold uy;rw[cX,yZ l p b j]
def kD (L:List Int):Nat->Option (List Int)
 |0=>some (List.replicate 13 0)
 |k+1=>match kD L k with
  |none=>none
  |some l=>if 13<(L.getD k 0).toNat/4294967296+(L.getD k 0).toNat%256 then none
   else some (uy l ((L.getD k 0).toNat/4294967296) ((L.getD k 0).toNat/256%16777216) ((L.getD k 0).toNat%256))
theorem D5 {L:List Int}{k:Nat}(h:kD L k=none):∀n,k<=n->kD L n=none
 |0,hn=>by have :k=0:=by omega
           subst this;exact h
 |n+1,hn=>by
  by_cases e:k=n+1
  ·subst e;exact h
  ·unfold kD
   rw[D5 h n (by omega)]
theorem wO {L:List Int}:∀{k:Nat} {l:List Int},kD L k=some l->l.length=13
 |0,l,h=>by cases h;simp
 |k+1,l,h=>by
  unfold kD at h;split at h
  ·cases h
  ·rename_i l0 h0
   split at h
   ·cases h
   ·cases h
    rw[yZ,wO h0]
theorem run_parts(x:Nat)(h:x<18446744073709551616):bits .and .u64 ((x:Int)/256) 16777215=((x/256%16777216:Nat):Int)/\bits .and .u64 (x:Int) 255=((x%256:Nat):Int):=by
 have z:=Nat.div_le_self x 256;constructor
 ·rw[show(x:Int)/256=((x/256:Nat):Int) by omega,show(16777215:Int)=((16777215:Nat):Int) from rfl,iu (x/256) 16777215 (by omega) (by omega),show x/256 &&& 16777215=x/256%2^24 from dV _ 24]
 ·rw[show(255:Int)=((255:Nat):Int) from rfl,iu x 255 h (by omega),show x &&& 255=x%2^8 from dV x 8]
theorem ym{fn:Func}{tmps:Array Value}{a t:Nat}{G:Addr}{x:Value}(h:fn.results= #[.cell a t,.tmp b])(z:tmps.getD a undef= .pointer (some G))(U:(loadVar t G).run P w= .ok v w)
  (J:tmps.getD b undef=x):(results fn tmps).run P w= .ok (.tuple #[v,x]) w:=by
 rw[fg] at z J;unfold results;rw[h];simp[z,wu,U,J]
def GJ (w:World) (L:List Int) (e:Ending) (w':World):Prop:=
 ∃l ok,e= .returned (.tuple #[(zs l).toArray,.bool ok])/\l.length=13/\(ok=true->kD L L.length=some l)/\(ok=false->kD L L.length=none/\l=List.replicate 13 0)/\ay [] w w'
theorem QO (x P N C:Nat)(U:x<18446744073709551616)(W:P=x/4294967296)(G:N=x/256%16777216)(z:C=x%256):
  ∃h:Int,(x:Int)/4294967296=(P:Int)/\bits .and .u64 ((x:Int)/256) 16777215=(N:Int)/\bits .and .u64 (x:Int) 255=(C:Int)/\(P:Int)+(C:Int)=h/\IntKind.u64.wrap h=h/\(13<P+C↔13<h)/\P<4294967296/\N<16777216/\C<256:=by
 obtain⟨V,J⟩:=run_parts x U;refine⟨(P:Int)+(C:Int),by omega,by rw[G];exact V,by rw[z];exact J,rfl,Fb (by omega) (by omega),by omega,by omega,by omega,by omega⟩
theorem QP (P N C k:Nat)(G:P+C<=13)(J:k<C)(U:N<16777216):∃z h:Int,(P:Int)+(k:Int)=z/\IntKind.u64.wrap z=z/\0<=z/\z<13/\z.toNat=P+k/\(N:Int)+(k:Int)=h/\IntKind.u64.wrap h=h/\wrap64 h=h/\h=((N+k:Nat):Int):=
 ⟨(P:Int)+(k:Int),(N:Int)+(k:Int),rfl,Fb (by omega) (by omega),by omega,by omega,by omega,rfl,Fb (by omega) (by omega),aed (by omega) (by omega),by omega⟩
theorem NJ{L:List Int}(h:Reads w v g (aY L))(hL:L.length<=100)(aj:∀k,0<=L.getD k 0/\L.getD k 0<18446744073709551616):
  Calls prog 223 #[v] w (GJ w L):=by
 obtain⟨a,cap,rfl,h1,h2,HC⟩:=fV h;have ae:=pD;have oQ:Hid (bh ((w.alloc (.cells (zs (List.replicate 13 0)).toArray 109)).alloc (.cells (zs (List.replicate 13 0)).toArray 109)) w.heap.size (zs (List.replicate 13 0)).toArray 109):=(bh.new w _ _).alloc _;have CQ:Hid (bh ((w.alloc (.cells (zs (List.replicate 13 0)).toArray 109)).alloc (.cells (zs (List.replicate 13 0)).toArray 109)) (w.heap.size+1) (zs (List.replicate 13 0)).toArray 109):=by
  have :=bh.new (w.alloc (.cells (zs (List.replicate 13 0)).toArray 109)) (zs (List.replicate 13 0)).toArray 109;have e:(w.alloc (.cells (zs (List.replicate 13 0)).toArray 109)).heap.size=w.heap.size+1:=by simp
  rw[e] at this;exact this
 have fI:Hid (ay [] w ((w.alloc (.cells (zs (List.replicate 13 0)).toArray 109)).alloc (.cells (zs (List.replicate 13 0)).toArray 109))):=((ay.refl _ _).alloc _).alloc _;have lU:Hid (∀J l,l.length=13->bh J w.heap.size (zs (List.replicate 13 0)).toArray 109->∃w',(storeVar 109 w.heap.size (.agg (zs l).toArray)).run prog J= .ok () w'/\(loadVar 109 w.heap.size).run prog w'= .ok (.agg (zs l).toArray) w'/\ay [w.heap.size] J w'):=λJ l hl hb=>by
  obtain⟨w',q1,q2,q3⟩:=bH (P:= prog) (ty:= 109) (cs:=zs l) (by rw[eO,hl];exact mb) hb (by simp[eO,hl]) (nC _);exact⟨w',q1,fA (off:=0) q2 hl (λk hk=>by rw[bc,aF,gK (by omega)]),q3⟩
 have uV:=ar aj;clear h aj;generalize hn:L.length=n at *;have HN:=ar hn;clear hn;generalize ai:(zs (List.replicate 13 0)).toArray=Z0 at *;have jt:=ar ai;clear ai;go_in;go_wp2_with fail;go_loopg [13] n (λgh s13 J=>∃(k:Nat) (l:List Int),k+gh=n/\s13= .int .i64 (k:Int)/\Hid (kD L k=some l/\bh J (w.heap.size+1) (zs l).toArray 109/\bh J w.heap.size Z0 109/\ay [] w J))
 case atStart=>exact⟨0,List.replicate 13 0,by omega,rfl,rfl,by rw[jt.out];exact CQ.out,oQ.out,fI.out⟩
 case round=>
  clear oQ CQ fI;obtain⟨k,l,hk,rfl,HP⟩:=hrel;obtain⟨uH,z,G,V⟩:=HP.out;have tz:=wO uH;cases gk with
  |zero=>
   obtain rfl:k=n:=by omega
   have HL:=ar (fA (off:=0) z tz (λk hk=>by rw[bc,aF,gK (by omega)]));obtain⟨w2,hS,ot,U⟩:=lU.out wr l tz G;obtain⟨HS,mY⟩:=hh2 hS ot;have HF:Hid (GJ w L (.returned (.tuple #[(zs l).toArray,true])) w2):=⟨l,true,rfl,tz,λ_=>by rw[HN.out];exact uH,λh=>(by cases h),V.trans U (by simp)⟩;clear HP uH z G V hS ot U hk ae;go_wp2_with(with_reducible first|refine gL 109 HL.out ?_|refine gS 109 HS.out ?_);exact aI (ym results223 rfl mY.out rfl) rfl HF.out
  |succ gg=>
   have az:k<n:=by omega
   have aH:(k:Int)<(n:Int):=by omega
   have cJ:(0:Int)<=(k:Int):=by omega
   obtain⟨aD,off,rfl,c0⟩:=HC.out k az;have d0:=(aO (w:=w) (a:=⟨g,off+k,none⟩) (V.block g aD (by simp))).trans c0;have au:=uV.out k;obtain⟨x,hx⟩:∃x:Nat,L.getD k 0=(x:Int):=⟨(L.getD k 0).toNat,by omega⟩;have ah:(L.getD k 0).toNat=x:=by omega
   have Sy:Hid (kD L (k+1)=if 13<x/4294967296+x%256 then none else some (uy l (x/4294967296) (x/256%16777216) (x%256))):=by
    show _=_;rw[kD,uH,ah]
   rw[hx] at d0;obtain⟨P,hP⟩:∃P,P=x/4294967296:=⟨_,rfl⟩;obtain⟨N,aa⟩:∃N,N=x/256%16777216:=⟨_,rfl⟩;obtain⟨C,W⟩:∃C,C=x%256:=⟨_,rfl⟩;obtain⟨si,q1,q2,q3,q4,q5,q6,q7,q8,q9⟩:=QO x P N C (by omega) hP aa W;rw[<-hP,<-aa,<-W] at Sy;obtain⟨jA,oQ,CQ⟩:=hh3 V G z;clear hP aa W c0 hx ah au HP uH z G V;by_cases af:13<si
   ·have j6:Hid (kD L n=none):=D5 (by rw[Sy.out,aB (q6.2 af)]) n (by omega)
    obtain⟨w2,hS,ot,U⟩:=lU.out wr (List.replicate 13 0) (by simp) oQ.out;rw[jt.out] at hS ot;obtain⟨HS,mY⟩:=hh2 hS ot;have HF:Hid (GJ w L (.returned (.tuple #[Z0,false])) w2):=⟨List.replicate 13 0,false,by rw[jt.out],by simp,λh=>(by cases h),λ_=>⟨by rw[HN.out];exact j6.out,rfl⟩,jA.out.trans U (by simp)⟩;clear hS ot U q6 q7 q8 q9;go_wp2_with(with_reducible refine gS 109 HS.out ?_);exact aI (ym results223 rfl mY.out rfl) rfl HF.out
   ·have ax:P+C<=13:=by
     have :¬13<P+C:=λh=>af (q6.1 h)
     omega
    have nG:Hid (kD L (k+1)=some (uy l P N C)):=by
     show _=_;rw[Sy.out,aA]
    clear q6 Sy;go_wp2_with fail;clear d0 q1 q2 q3 q4 q5 ae;go_loopg [30] C (λgh s30 J=>∃j:Nat,j+gh=C/\s30= .int .u64 (j:Int)/\Hid (bh J (w.heap.size+1) (zs (uy l P N j)).toArray 109/\bh J w.heap.size Z0 109/\ay [] w J))
    case atStart=>exact⟨0,by omega,rfl,CQ.out,oQ.out,jA.out⟩
    case round=>
     clear CQ oQ jA;obtain⟨j,hj,rfl,HQ⟩:=hrel;cases gk with
     |zero=>
      obtain rfl:j=C:=by omega
      have ac:=ar HQ.out;clear HQ hj;go_wp2_with fail;go_roundg gg;case measure=>omega
      case rel=>exact⟨k+1,_,by omega,by go_num,nG.out,ac.out.1,ac.out.2.1,ac.out.2.2⟩
     |succ gk=>
      have av:j<C:=by omega
      have aK:(j:Int)<(C:Int):=by omega
      have Cf:(0:Int)<=(j:Int):=by omega
      obtain⟨ji,vi,r1,r2,r3,r4,r5,r6,r7,r8,r9⟩:=QP P N C j ax av q8;obtain⟨z,G,V⟩:=HQ.out;have ak:(uy l P N j).length=13:=by rw[yZ];exact tz
      have aC:wr.cell? ⟨w.heap.size+1,P+j,none⟩=some (.int .i64 ((uy l P N j).getD (P+j) 0)):=by rw[z.cell,aF,gK (by omega)]
      have aJ:wr.frozen? ⟨w.heap.size+1,P+j,none⟩=false:=z.frozen _;have HR:Hid (bh (wr.setCell ⟨w.heap.size+1,P+j,none⟩ (.int .i64 vi)) (w.heap.size+1) (zs (uy l P N (j+1))).toArray 109/\bh (wr.setCell ⟨w.heap.size+1,P+j,none⟩ (.int .i64 vi)) w.heap.size Z0 109/\ay [] w (wr.setCell ⟨w.heap.size+1,P+j,none⟩ (.int .i64 vi))):=by
       refine⟨?_,G.other (by simp) _,V.setCell (.inr (by show w.heap.size<=w.heap.size+1;omega)) _⟩;have :=z.set (P+j) (.int .i64 vi);rw[ag,Xu,r9] at this;rw[r9];exact this
      clear HQ z G V ak r9;generalize (uy l P N j).getD (P+j) 0=y at *;have aG:IntKind.u64.wrap ((j:Int)+1)=(j:Int)+1:=Fb (by omega) (by omega);go_wp2_with fail;go_roundg gk;case measure=>omega
      case rel=>exact⟨j+1,by omega,by go_num,HR.out⟩
theorem GK (l:List Int):∀f e,e<=oW l f e
 |0,e=>aH _
 |f+1,e=>by
  unfold oW;split
  ·have :=GK l f (e+1);omega
  ·omega
theorem Av (l:List Int):∀f e i,e<=i->i<oW l f e->mf l i
 |0,e,i,h1,h2=>by unfold oW at h2;omega
 |f+1,e,i,h1,h2=>by
  unfold oW at h2;split at h2
  ·rename_i hc
   by_cases h:i=e
   ·subst h;exact hc
   ·exact Av l f (e+1) i (by omega) h2
  ·omega
theorem GL (l:List Int):∀f e,13<=e+f->¬mf l (oW l f e)
 |0,e,h=>by
  unfold oW;exact λz=>by have :=z.2.1;omega
 |f+1,e,h=>by
  unfold oW;split
  ·exact GL l f (e+1) (by omega)
  ·assumption
theorem Yw (l:List Int)(f e:Nat)(h:e<=13):oW l f e<=13:=by
 by_cases G:oW l f e=e
 ·omega
 ·have z:=GK l f e
  have :=(Av l f e (oW l f e-1) (by omega) (by omega)).2.1;omega
def abC (l:List Int) (k j:Nat):Prop:=∃s,s<k/\sS l s/\s<=j/\j<s+rM l s
theorem qW (l:List Int){s:Nat}(z:s<13):1<=rM l s/\s+rM l s<=13/\s+rM l s=oW l 13 (s+1):=by
 have G:=GK l 13 (s+1);have h:=Yw l 13 (s+1) (by omega);unfold rM;omega
theorem abD{s j:Nat}(J:s<13)(U:s<=j)(z:j<s+rM l s):l.getD j 0=l.getD s 0+((j-s:Nat):Int):=by
 obtain⟨-,-,G⟩:=qW l J;rw[G] at z;exact aa7 (λi V h=>Av l 13 (s+1) i (by omega) h) j U z
theorem abE:∀j,j<13->DR (l.getD j 0)->abC l (j+1) j:=by
 intro j;induction j with
 |zero=>
  intro _ G;refine⟨0,by omega,⟨G,λh=>by have :=h.1;omega⟩,by omega,?_⟩;have :=(qW l (show 0<13 by omega)).1;omega
 |succ j ih=>
  intro hj G;by_cases J:mf l (j+1)
  ·have z:=J.2.2.2.1
   rw[ib] at z;obtain⟨s,h1,h2,h3,W⟩:=ih (by omega) z;obtain⟨-,-,h5⟩:=qW l (show s<13 by omega);refine⟨s,by omega,h2,by omega,?_⟩;rw[h5] at W ⊢;refine Nat.lt_of_not_le λU=> ?_
   have V:oW l 13 (s+1)=j+1:=by omega
   have :=GL l 13 (s+1) (by omega);rw[V] at this;exact this J
  ·refine⟨j+1,by omega,⟨G,J⟩,by omega,?_⟩
   have :=(qW l hj).1;omega
theorem GM (A C:List Int):∀k,k<=A.length->kD (A++C) k=kD A k
 |0,_=>rfl
 |k+1,h=>by
  unfold kD;rw[GM A C k (by omega),aj,aj,ba (by omega)]
theorem CX (l:List Int)(p b:Nat):∀c,p+c<=l.length->∀j,(uy l p b c).getD j 0=if p<=j/\j<p+c then ((b+(j-p):Nat):Int) else l.getD j 0
 |0,_,j=>by rw[aA];rfl
 |c+1,h,j=>by
  rw[uy,AY,yZ,CX l p b c (by omega)];by_cases e:p+c=j
  ·subst e
   rw[aB ⟨rfl,by omega⟩,aB ⟨by omega,by omega⟩,dD]
  ·rw[aA]
   by_cases z:p<=j/\j<p+c
   ·rw[aB z,aB ⟨z.1,by omega⟩]
   ·rw[aA z,aA]
theorem QQ (k b n:Nat)(h:k<256)(G:b<256)(z:n<256):(zz k (b:Int) n).toNat/4294967296=k/\(zz k (b:Int) n).toNat/256%16777216=b/\(zz k (b:Int) n).toNat%256=n:=by
 have e:(zz k (b:Int) n).toNat=k*4294967296+b*256+n:=by unfold zz;omega
 rw[e];omega
theorem U4 (B:List Int):∀k,k<=13->∃l,kD (gD B k) (gD B k).length=some l/\(∀j,abC B k j->l.getD j 0=B.getD j 0)/\∀j,¬abC B k j->l.getD j 0=0:=by
 intro k;induction k with
 |zero=>
  intro _;refine⟨List.replicate 13 0,rfl,λj h=> ?_,λj _=> ?_⟩
  ·obtain⟨s,W,-⟩:=h
   omega
  ·rw[aj,bj]
   split<;>rfl
 |succ k ih=>
  intro hk;obtain⟨l,W,h2,h3⟩:=ih (by omega);by_cases U:sS B k
  ·obtain⟨f1,f2,-⟩:=qW B (show k<13 by omega)
   obtain⟨b,hb⟩:∃b:Nat,B.getD k 0=(b:Int):=⟨(B.getD k 0).toNat,by have :=U.1;unfold DR at this;omega⟩;have aa:b<256:=by have :=U.1;unfold DR at this;omega
   obtain⟨p1,p2,p3⟩:=QQ k b (rM B k) (by omega) aa (by omega);have hl:=wO W;have hg:(gD B k++[zz k (B.getD k 0) (rM B k)]).getD (gD B k).length 0=zz k (b:Int) (rM B k):=by rw[hb];simp
   refine⟨uy l k b (rM B k),?_,λj z=> ?_,λj z=> ?_⟩
   ·rw[gD,aB U,aC,ka,kD,GM _ _ _ (aH _),W,hg,p1,p2,p3]
    show(if 13<k+rM B k then none else some _)=_;rw[aA]
   ·rw[CX _ _ _ _ (by omega)]
    by_cases J:k<=j/\j<k+rM B k
    ·rw[aB J,abD (by omega) J.1 J.2,hb]
     omega
    ·rw[aA J]
     obtain⟨s,g1,G,V,g4⟩:=z;refine h2 j ⟨s,?_,G,V,g4⟩;rcases (show s<k\/s=k by omega) with h|h
     ·exact h
     ·subst h;exact absurd ⟨V,g4⟩ J
   ·rw[CX _ _ _ _ (by omega),aA (λJ=>z ⟨k,by omega,U,J.1,J.2⟩)]
    exact h3 j λ⟨s,g1,G⟩=>z ⟨s,by omega,G⟩
  ·refine⟨l,?_,λj z=> ?_,λj z=> ?_⟩
   ·rw[gD,aA U];exact W
   ·obtain⟨s,g1,G,V⟩:=z
    refine h2 j ⟨s,?_,G,V⟩;rcases (show s<k\/s=k by omega) with h|h
    ·exact h
    ·subst h;exact absurd G U
   ·exact h3 j λ⟨s,g1,G⟩=>z ⟨s,by omega,G⟩
theorem Bw (A:List Int){l:List Int}(h:kD A A.length=some l):∀z,kD (A++List.replicate z 0) (A.length+z)=some l
 |0=>by simpa using h
 |z+1=>by
  have G:=Bw A h z;have J:(A++List.replicate (z+1) (0:Int)).getD (A.length+z) 0=0:=by
   rw[aj,aR (by omega),bj];split<;>rfl
  have e:A++List.replicate (z+1) (0:Int)=(A++List.replicate z 0)++[0]:=by rw[List.replicate_succ',aV]
  show kD _ (A.length+z+1)=_;rw[kD,J,e,GM _ _ _ (by simp),G];rfl
theorem GP (hB:B.length=13)(V:∀k,k<13->0<=B.getD k 0/\B.getD k 0<256)(z:Nat):kD (fu B++List.replicate z 0) ((fu B).length+z)=some B:=by
 obtain⟨l,J,W,U⟩:=U4 B 13 (aH _);have hl:=wO J;have e:l=B:=DK (by omega) λj hj=>by
  by_cases h:abC B 13 j
  ·exact W j h
  ·rw[U j h]
   by_cases G:DR (B.getD j 0)
   ·obtain⟨s,g1,g2⟩:=abE j (by omega) G
    exact absurd ⟨s,by omega,g2⟩ h
   ·have :=V j (by omega)
    unfold DR at G;omega
 subst e;exact Bw (fu l) J z
theorem mh (t T ty:TypeId)(i:TypeInfo)(z:Value)(size bytes:Nat)(ht:P.underlying t=some (.slice T))(hi:P.info? T=some i)(hz:i.zero=some z)(af:i.size=size)(aj:i.bytes=bytes)(ag:z.cells.size=size)(ae:0<size)
  (G n:Nat) (v:Value) (xs:List Value) (J:w.ownsRow G T size v n xs) (a:Option Addr) (m c:Nat) (V:List Value) (hl:V.length=m*size) (hc:m≠0->∃ad,a=some ad/\∀j u,V[j]? =some u->w.cell? (ad.add j)=some u) (h1:∀u∈V,u.oneCell'=true)
  (ac:n+m<=maxLen) (U:(n+m)*bytes<=140737488355328) (aa:G<=w.heap.size):
  ∃v' w',(Builtin.append_ #[t,t] ty #[v,.slice a m c]).run P w= .ok v' w'/\w'.ownsRow G T size v' (n+m) (xs++V)/\w.grownBy w' v.ownBlock:=by
 cases a with
 |none=>
  have h0:m=0:=by
   rcases dY m with h|h
   ·exact h
   ·obtain⟨ad,e,-⟩:=hc (by omega);cases e
  subst h0;have ah:V=[]:=bo (by rw[hl];simp);subst ah;refine⟨v,w,?_,by simpa using J,⟨rfl,rfl,rfl,aH _,λ_ _ _=>rfl⟩⟩;obtain⟨-,h5⟩:=J;rcases h5 with ⟨rfl,rfl⟩|⟨g',ak,ar,rfl,hg,hh,q2,q3,q4,q5⟩
  ·simp[Builtin.append_,dA ht,sizeOf,typeInfo,hi,Builtin.lenOf,Builtin.firstCells]
  ·simp[Builtin.append_,dA ht,sizeOf,typeInfo,hi,Builtin.lenOf,Builtin.firstCells,q2,storeCells]
 |some ad=>
  have W:∀j u,V[j]? =some u->w.cell? (ad.add j)=some u:=by
   intro j u hu;have hj:j<V.length:=(List.getElem?_eq_some_iff.1 hu).1;have hm:m≠0:=by
    intro e;rw[hl,e] at hj;simp at hj
   obtain⟨au,e,ai⟩:=hc hm;cases e;exact ai j u hu
  obtain⟨v',w',hr,ho,hg,-⟩:=run_append_own (P:=P) w G t ty T i z size bytes ht hi hz af aj ag ae v n xs J ad m c V hl W h1 ac U aa;exact⟨v',w',hr,ho,hg⟩
theorem wpList_append_run{z:Array Oper}{rest:List Oper}{o:Oper}{a:Act}{Q:Exit->Act->World->Prop}(G:o.guard=none)(d x:Operand)(t J:TypeId)
  (ho:o.op= .call { callee:= .builtin .append,args:= #[d,x],argTypes:= #[t,J] }) (v u:Value) (W:a.eval d=v) (hx:a.eval x=u) {U:Value} {w':World}
  (V:(Builtin.append_ #[t,J] o.type #[v,u]).run P w= .ok U w') (h:wpList P z Q rest (a.put o.dst U) w'):wpList P z Q (o::rest) a w:=
 wpList_plain G λ_ hK=>by
  unfold Oper.wp execOp;simp only[ho,resolve,invoke,builtin,ck,fO,cL,List.map_toArray,List.map_cons,List.map_nil,W,hx,V];exact hK _ _ h
theorem Bx (w:World)(t tn e:TypeId)(i:TypeInfo)(z:Value)(kq kn:IntKind)(ht:P.underlying t=some (.slice e))(W:P.underlying tn=some (.int kn))(hi:P.info? e=some i)(hz:i.zero=some z)(ac:i.size=1)(Yx:z.cells.size=1)
  (k:Nat) (h0:0<k) (hk:k<=1000) (U:i.bytes=8):
  ∃c w',(∀ty,(Builtin.append_ #[t,tn] ty #[(),.int kq k]).run P w= .ok (.slice w.heap.size k c) w')/\k<=c/\w'.ownsRow w.heap.size e 1 (.slice w.heap.size 0 c) 0 []/\ay [] w w':=by
 have V:(Builtin.firstCells i.size 0 (.slice none 0 0)).run P w.drew= .ok ([]:List Value).toArray w.drew:=by simp[Builtin.firstCells]
 have aa:Builtin.nextslicecap (0+k) 0<=4*1000+64:=by
  unfold Builtin.nextslicecap;split<;>omega
 have h:=λty=>Lib.run_append_grow_zeros w t tn ty e i z kq kn ht W hi hz none 0 0 [] V k h0 (by omega) (by omega) (by omega) (by rw[U];omega) (by rw[U];omega)
 have J:=grownCap_ge w (0+k) 0 e;have G:=grownCap_le_maxLen w (0+k) 0 e (by unfold maxLen;omega);rw[bc] at J G;simp only[bc] at h;refine⟨_,_,h,J,⟨rfl,.inr ⟨w.heap.size,grownCap w k 0 e,_,rfl,aH _,bh.new w.drew _ _,fC _,G,?_,by simp⟩⟩,((ay.refl [] w).drew).alloc _⟩;simp[oG,Yx];omega
theorem abF (k:Nat)(h0:0<k)(hk:k<=1000)(z:Int)(W:z=(k:Int))(w:World):Calls prog 233 #[(),z] w λe w'=>
  ∃c,e= .returned (.slice w.heap.size 0 c)/\w'.ownsRow w.heap.size 56 1 (.slice w.heap.size 0 c) 0 []/\ay [] w w':=by
 obtain⟨i0,hi,U,V,J⟩:=dc Tryz.info_u64;obtain⟨c,w',hr,hc,h,G⟩:=Bx (P:= prog) w 71 3 56 i0 _ .i64 .i64 underlying71 underlying3 hi U V rfl k h0 hk J;have h1:¬z<0:=by omega
 have h2:0<z:=by omega
 have h3:wrap64 z=z:=by unfold wrap64;omega
 simp only[<-W] at hr;obtain⟨HO,HK⟩:=hh2 h G;have aa:c≠0:=by omega
 have ac:(0:Int)<=(c:Int):=by omega
 clear h G W hi U V J hc;go_in;go_wp2_with(at_builtin;refine wpList_append_run rfl (.tmp 20) (.tmp 21) 71 3 ?_ (.slice none 0 0) (.int .i64 z) ?_ ?_ (hr _) ?_;all_goals first|rfl|skip);go_ret;exact⟨c,rfl,HO.out,HK.out⟩
theorem D7{a:Option Addr}{m c:Nat}{z:List Value}(h:Reads w (.slice a m c) g z)(J:m≠0):∃G,a=some G/\∀j u,z[j]? =some u->w.cell? (G.add j)=some u:=by
 obtain⟨a',c',V,h2,h3,W⟩:=h;cases V;obtain⟨-,off,rfl,hc⟩:=W (by intro e;rw[e] at J;exact J rfl);refine⟨_,rfl,λj u U=> ?_⟩;have hj:j<z.length:=(List.getElem?_eq_some_iff.1 U).1;rw[add_plain,hc j hj,U]
def szC (j:Nat):Nat:=if j=0 then 0 else if j=1 then 5 else 13
def QR (h z:List Int) (j:Nat):List Int:=if j=0 then [] else if j=1 then h else h++z
theorem U5{gs g1 g2 T:Nat}{x1 x2:Value}{G z:List Int}(hb:bh w gs #[x1,x2] T)(h1:Reads w x1 g1 (aY G))(h2:Reads w x2 g2 (aY z))(Cr:G.length=5)(ae:z.length=8):
  Calls prog 222 #[.slice gs 2 2] w (jN w (G++z)):=by
 obtain⟨i0,hi,aj,ak,ac⟩:=dc Tryz.info_u64;obtain⟨a1,c1,rfl,ax,WT,H1⟩:=fV h1;obtain⟨a2,c2,rfl,av,az,H2⟩:=fV h2;rw[Cr] at hb ax h1;rw[ae] at hb av h2;obtain⟨au,TN,HB⟩:=hh3 h1 h2 hb;clear h1 h2 hb H1 H2;have ai:∀U,ay [] w U->U.cell? gs=some (.slice a1 5 c1):=λU hk=>by rw[(HB.out.keep hk (by simp)).cell];rfl
 have af:∀U,ay [] w U->U.cell? ⟨gs,1,none⟩=some (.slice a2 8 c2):=λU hk=>by rw[(HB.out.keep hk (by simp)).cell];rfl
 obtain⟨aa,ag⟩:=hh2 ai af;clear ai af;go_in;go_wp2_with fail;go_loopg [3,11] 2 (λgh s3 M8 U=>∃j:Nat,j+gh=2/\M8= .int .i64 (j:Int)/\s3= .int .i64 ((szC j:Nat):Int)/\w=U)
 case atStart=>exact⟨0,rfl,rfl,rfl,rfl⟩
 case round=>
  obtain⟨j,hj,rfl,rfl,rfl⟩:=hrel;have e0:=aa.out w (ay.refl _ _);have e1:=ag.out w (ay.refl _ _);rcases (show gk=0\/gk=1\/gk=2 by omega) with rfl|rfl|rfl
  ·obtain rfl:j=2:=by omega
   rw[show szC 2=13 from rfl];clear e0 e1;go_wp2_with fail;refine(abF 13 (by omega) (by omega) 13 rfl w).mono ?_;rintro e w1 ⟨c,rfl,h,ah⟩;obtain⟨HO,HK⟩:=hh2 h ah;clear h ah;go_wp2_with fail;go_loopg [6,27] 2 (λgh s6 s27 U=>∃j:Nat,j+gh=2/\s27= .int .i64 (j:Int)/\Hid (U.ownsRow w.heap.size 56 1 s6 (szC j) (aY (QR G z j))/\ay [] w U))
   case atStart=>exact⟨0,rfl,rfl,HO.out,HK.out⟩
   case round=>
    clear HO HK;obtain⟨j,hj,rfl,HP⟩:=hrel;obtain⟨h,J⟩:=HP.out;have e0:=aa.out _ J;have e1:=ag.out _ J;rcases (show gk=0\/gk=1\/gk=2 by omega) with rfl|rfl|rfl
    ·obtain rfl:j=2:=by omega
     have HM:Hid (jN w (G++z) (.returned u6) wr):=by
      obtain⟨g,W,V⟩:=fp.of_row h;exact⟨u6,g,rfl,W.reads,(V (by decide)).1,J⟩
     clear e0 e1 h J HP;go_wp2_with fail;go_ret;exact HM.out
    ·obtain rfl:j=1:=by omega
     obtain⟨v',w',hr,W,V⟩:=mh (P:= prog) 71 56 71 i0 _ 1 8 underlying71 hi aj ak ac rfl (by omega) w.heap.size 5 _ _ h a2 8 c2 (aY z) (by rw[bB,ae]) (D7 (TN.out.keep J (by simp))) (fh _) (by decide) (by omega) J.size;have HN:Hid (w'.ownsRow w.heap.size 56 1 v' 13 (aY (QR G z 2))/\ay [] w w'):=by
      refine⟨?_,J.grown V (dP h)⟩;have e:aY (QR G z 2)=aY (QR G z 1)++aY z:=by rw[<-uf];rfl
      rw[e];exact W
     clear h J HP W V e0;go_wp2_with(at_builtin;refine wpList_append_run rfl (.tmp 31) (.tmp 32) 71 71 ?_ u6 (.slice a2 8 c2) ?_ ?_ hr ?_;all_goals first|rfl|skip);go_roundg 0;case measure=>omega
     case rel=>exact⟨2,rfl,rfl,HN.out⟩
    ·obtain rfl:j=0:=by omega
     obtain⟨v',w',hr,W,V⟩:=mh (P:= prog) 71 56 71 i0 _ 1 8 underlying71 hi aj ak ac rfl (by omega) w.heap.size 0 _ _ h a1 5 c1 (aY G) (by rw[bB,Cr]) (D7 (au.out.keep J (by simp))) (fh _) (by decide) (by omega) J.size;have HN:Hid (w'.ownsRow w.heap.size 56 1 v' 5 (aY (QR G z 1))/\ay [] w w'):=by
      refine⟨?_,J.grown V (dP h)⟩;have e:aY (QR G z 1)=aY (QR G z 0)++aY G:=rfl;rw[e];exact W
     clear h J HP W V e1;go_wp2_with(at_builtin;refine wpList_append_run rfl (.tmp 31) (.tmp 32) 71 71 ?_ u6 (.slice a1 5 c1) ?_ ?_ hr ?_;all_goals first|rfl|skip);go_roundg 1;case measure=>omega
     case rel=>exact⟨1,rfl,rfl,HN.out⟩
  ·obtain rfl:j=1:=by omega
   rw[show szC 1=5 from rfl];clear e0;go_wp2_with fail;go_roundg 0;case measure=>omega
   case rel=>exact⟨2,rfl,rfl,rfl,rfl⟩
  ·obtain rfl:j=0:=by omega
   rw[show szC 0=0 from rfl];clear e1;go_wp2_with fail;go_roundg 1;case measure=>omega
   case rel=>exact⟨1,rfl,rfl,rfl,rfl⟩
end Go.Proofs.YtepbpdipenedhaaGreatDoor
