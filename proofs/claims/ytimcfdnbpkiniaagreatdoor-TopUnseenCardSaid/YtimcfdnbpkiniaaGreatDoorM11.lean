/- Lemmas. -/
import Derived.Test.YtimcfdnbpkiniaaGreatDoorM10
import Derived.Lib.AppendZerosOnto
set_option maxHeartbeats 8000000
set_option maxRecDepth 100000
namespace Go.Proofs.YtimcfdnbpkiniaaGreatDoor
open Go.Proofs.Tryz
open Go.RowKit
variable{B X l:List Int}{x:Int}{own:List Nat}{n:bS}{w:World}{b g:Nat}{P:Program}{v:Value}
theorem In64.of_mem(h:∀x,x∈l->0<=x/\x<18446744073709551616):In64 l:=λi=>by
 rw[aj];by_cases z:i<l.length
 ·rw[aD z]
  exact h _ (bM z)
 ·rw[aZ (by omega)]
  simp
theorem Ny (l:List Int):∀f e,oH l f e<=e+f
 |0,e=>aI _
 |f+1,e=>by
  unfold oH;split
  ·have :=Ny l f (e+1);omega
  ·omega
theorem Gw {l:List Int}{x:Int}:∀{k:Nat},x∈gy l k->∃j,j<k/\sO l j/\x=zq j (l.getD j 0) (rI l j)
 |0,h=>by simp[gy] at h
 |k+1,h=>by
  unfold gy at h;split at h
  ·rename_i hs
   rcases aR.1 h with h|h
   ·obtain⟨j,G,z⟩:=Gw h
    exact⟨j,by omega,z⟩
   ·rw[au] at h
    exact⟨k,by omega,hs,h⟩
  ·obtain⟨j,G,z⟩:=Gw h
   exact⟨j,by omega,z⟩
theorem EY (h:x∈fu l):0<=x/\x<9223372036854775808:=by
 obtain⟨j,J,G,rfl⟩:=Gw h;have z:=G.1;have U:=Ny l 13 (j+1);unfold DN at z;unfold zq rI;omega
theorem QJ (z:∀c∈own,c≠0/\c<256)(k:Nat):own.getD k 0<256:=by
 by_cases h:k<own.length
 ·exact(z _ (jA h)).2
 ·rw[aj,aZ (by omega)]
  decide
theorem abS (V:cm n)(U:∀c∈own,c≠0/\c<256):In64 (nR n own):=by
 obtain⟨t1,t2,t3,t4⟩:=uj V;have J:0<=oX n/\oX n<18446744073709551616:=by unfold oX;omega
 have G:0<=n.S/\n.S<18446744073709551616:=by omega
 refine In64.of_mem λx h=> ?_
 unfold nR at h;split at h
 ·have z:∀q,0<=Ae n.E own 4 0 q/\Ae n.E own 4 0 q<18446744073709551616:=λq=>by
   unfold Ae hdD;have W:=QJ U (fO n.E q);split
   ·split<;>omega
   ·split<;>omega
  simp only[Gf,rC,aM,aK,bC] at h;rcases h with rfl|rfl|rfl|rfl|rfl|rfl|rfl|rfl
  ·exact J
  ·exact G
  ·exact z 0
  ·exact z 1
  ·exact z 2
  ·exact z 3
  ·omega
  ·omega
 ·unfold mY at h
  split at h
  ·rcases aM.1 h with rfl|h
   ·exact J
   ·rcases aM.1 h with rfl|h
    ·exact G
    ·rcases aR.1 h with h|h
     ·have :=EY h;omega
     ·have :=ib h;omega
  ·rcases aM.1 h with rfl|h
   ·exact J
   ·rcases aM.1 h with rfl|h
    ·exact G
    ·rcases aR.1 h with h|h
     ·have :=EY (bL h);omega
     ·rw[au] at h
      have :=QJ U 0;omega
theorem QK (hR:cm n)(U:∀c∈own,c≠0/\c<256)(m:Nat):In64 ((gY n own).getD m []):=by
 by_cases z:m<(gY n own).length
 ·unfold gY at z ⊢
  split at z
  ·rename_i hK
   rw[aB hK];have J:oW n:=(hR.2.2.resolve_left (λh=>by have :=h.1;omega)).2;rw[oL] at z;obtain⟨b,j,W,V,rfl⟩:=uT n.E z;rw[se n.E own V W];intro y;cases y with
   |zero=>
    show 0<=(if j+1<dN n.E b then ((own.getD (fO n.E b+(j+1)) 0:Nat):Int) else 0)/\(if j+1<dN n.E b then ((own.getD (fO n.E b+(j+1)) 0:Nat):Int) else 0)<_;have :=QJ U (fO n.E b+(j+1));split<;>omega
   |succ y=>
    rw[Ya,oK];by_cases hy:y<7
    ·rw[Nl _ _ _ hy]
     split
     ·rename_i hc
      split
      ·have :=Ns (eY (eD n.E b) (3*j+y/2));omega
      ·obtain⟨k,hk,-,e2⟩:=EX hc.1
       rw[e2];have :=(J.2.2.2 k hk).2.1;omega
     ·omega
    ·rw[aj,aZ (by rw[kT,pC];omega)]
     simp
  ·rename_i hK
   rw[aA hK];unfold kf at *;split
   ·simp[In64]
   ·refine In64.of_mem λx G=> ?_
    rename_i h6
    rw[aA h6] at z;obtain rfl:m=0:=by simpa using z
    have G:x∈(fu n.B).drop 5++List.replicate (13-(fu n.B).length) 0:=G;rcases aR.1 G with G|G
    ·have :=EY (gj G);omega
    ·have :=ib G;omega
 ·rw[aj,aZ (by omega)]
  simp[In64]
theorem vh{p:Int×Int}{Ls:List (List Int)}{k:Nat}(h:p∈um Ls own k):∃m j,m<k/\j<8/\p.1.toNat=1080+8*own.getD m 0+j/\p.2=(Ls.getD m []).getD j 0:=by
 unfold um at h;obtain⟨m,z,h⟩:=List.mem_flatMap.1 h;rw[cu] at z;obtain⟨j,J,G,U⟩:=lU h;exact⟨m,j,z,J,G,U⟩
theorem abT (z:X.length=3128){Ls:List (List Int)}{own:List Nat}(h8:∀m,m<own.length->(Ls.getD m []).length=8)(J:own.Nodup)(G:∀c∈own,c≠0/\c<256):∀k,k<=own.length->∀m,m<k->eu (az X (um Ls own k)) (1080+8*own.getD m 0)=Ls.getD m []:=by
 intro k;induction k with
 |zero=>intro _ m h;omega
 |succ k ih=>
  intro hk m W;have V:=G _ (jA (show k<own.length by omega));have U:=G _ (jA (show m<own.length by omega));rw[Ah,br];by_cases e:m=k
  ·subst e
   exact qO (by rw[cy,z]) _ (by omega) (h8 m (by omega))
  ·have :own.getD m 0≠own.getD k 0:=λh=>e (getD_inj J (by omega) (by omega) h)
   rw[qP (by rw[cy,z]) _ _ (by omega) (by omega)];exact ih (by omega) m (by omega)
theorem U0 (ac:In64 X)(W:X.length=3128){i:Int}{n:bS}(G:xY i n)(hn:eQ n<=(aY X).length):
  pE (az X (mR X i.toNat n ((aY X).take (eQ n)))) (eu (az X (mR X i.toNat n ((aY X).take (eQ n)))) (824+8*i.toNat)) n ((aY X).take (eQ n))/\In64 (az X (mR X i.toNat n ((aY X).take (eQ n))))/\
  (∀k,820<=k->¬(824+8*i.toNat<=k/\k<824+8*i.toNat+8)->¬(1080<=k/\(k-1080)/8∈(aY X).take (eQ n))->(az X (mR X i.toNat n ((aY X).take (eQ n)))).getD k 0=X.getD k 0):=by
 have ae:=uo hn;have hi:=G.1;have J:∀c∈(aY X).take (eQ n),c≠0/\c<256:=qm;have aa:((aY X).take (eQ n)).Nodup:=su;generalize (aY X).take (eQ n)=own at *;have h8:∀m,m<own.length->((gY n own).getD m []).length=8:=λm V=>wC (by rw[xW G.2.2 ae];exact V)
 refine⟨?_,?_,λk hk h1 h2=> ?_⟩
 ·unfold mR
  rw[br,br];refine⟨λm V=> ?_,(qO (by rw[cy,cy,W]) _ (by omega) (Bl n own)).symm⟩;have af:=J _ (jA V);rw[qP (by rw[cy,cy,W]) _ _ (by omega) (by omega)];exact(abT (by rw[cy,W]) h8 aa J _ (aI _) m V).symm
 ·unfold mR
  rw[br];refine(nH own X ac W J).1.put λp z=> ?_
  rcases aR.1 z with z|z
  ·obtain⟨m,j,-,-,-,h⟩:=vh z
   rw[h];exact QK G.2.2 J m j
  ·obtain⟨j,-,-,h⟩:=lU z
   rw[h];exact abS G.2.2 J j
 ·refine dX _ _ _ λp z U=> ?_
  unfold mR at z;rcases aR.1 z with z|z
  ·rcases Gt _ _ J z with h|h
   ·omega
   ·rw[U] at h;exact h2 h
  ·rcases aR.1 z with z|z
   ·obtain⟨m,j,h3,h4,h5,-⟩:=vh z
    refine h2 ⟨by omega,?_⟩;rw[<-U,h5,show(1080+8*own.getD m 0+j-1080)/8=own.getD m 0 by omega];exact jA h3
   ·obtain⟨j,h4,h5,-⟩:=lU z
    exact h1 ⟨by omega,by omega⟩
def sZ (w:World) (b z:Nat) (B:List Int) (ps:List (Int×Int)) (i:Int) (n:bS) (e:Ending) (w':World):Prop:=
 ∃r qs h,e=(r:Int)/\(h=z\/(w.heap.size<=h/\h<w'.heap.size))/\eN w' b h B (ps++qs)/\ay [b,z] w w'/\qs.length<=600/\
  ((r=1/\¬xY i n/\qs=[])\/(r=7/\xY i n/\(aY (az B ps)).length<eQ n/\qs=[])\/
   (r=0/\xY i n/\eQ n<=(aY (az B ps)).length/\qs=mR (az B ps) i.toNat n ((aY (az B ps)).take (eQ n))))
theorem QL{i:Nat}(h:∀c∈own,c≠0/\c<256)(z:own.length<=32):(mR X i n own).length<=600:=by
 unfold mR;rw[aC,aC,qb _ _ h,CJ,oJ];omega
theorem YE{J:Nat}{ps:List (Int×Int)}(h:eN w b J B ps)(U:In64 (az B ps))(hT:ku w)(Ic:J<w.heap.size)(aa:ps.length<=800000)(i:Int)(n:bS)(v:Value)(g:Nat)(hB:n.B.length=13)(V:bD w v g n.E)
  (hN:∀k,k<n.E.length->(eY n.E k).size<=9223372036854775807) (W:n.E.length≠0->g≠b/\g≠J):
  Calls prog 152 #[b,i,aL n v] w (sZ w b J B ps i n):=by
 by_cases z:xY i n
 ·by_cases hn:eQ n<=(aY (az B ps)).length
  ·refine(abK h U hT Ic aa i n v g hB V hN z W hn).mono λe w' G=> ?_
   obtain⟨G,gG,h1,h2,h3⟩:=G;exact⟨0,_,gG,G,h1,h2,h3,QL qm (by rw[uo hn];exact Gm z.2.2),.inr (.inr ⟨rfl,z,hn,rfl⟩)⟩
  ·refine(QA h U i n v g hB V hN z (by omega)).mono λe w' G=> ?_
   exact⟨7,[],J,G.1,.inl rfl,by rw[bz];exact h.keep G.2,G.2.mono,by simp,.inr (.inl ⟨rfl,z,by omega,rfl⟩)⟩
 ·refine(Yl i n v g hB V hN z).mono λe w' G=> ?_
  exact⟨1,[],J,G.1,.inl rfl,by rw[bz];exact h.keep G.2,G.2.mono,by simp,.inl ⟨rfl,z,rfl⟩⟩
theorem aew (z: -9223372036854775808<=x)(h:x<9223372036854775808):wrap64 x=x:=by unfold wrap64;omega
theorem EZ (z:0<=x)(h:x<18446744073709551616):IntKind.u64.wrap x=x:=by
 simp[IntKind.wrap,IntKind.bits,IntKind.signed];omega
def uq (l:List Int) (p b:Nat):Nat->List Int
 |0=>l
 |j+1=>(uq l p b j).set (p+j) (((b+j:Nat):Int))
theorem yS (l:List Int)(p b:Nat):∀j,(uq l p b j).length=l.length
 |0=>rfl
 |j+1=>by unfold uq;rw[dg,yS l p b j]
def ko (L:List Int):Nat->Option (List Int)
 |0=>some (List.replicate 13 0)
 |k+1=>match ko L k with
  |none=>none
  |some l=>if 13<(L.getD k 0).toNat/4294967296+(L.getD k 0).toNat%256 then none
   else some (uq l ((L.getD k 0).toNat/4294967296) ((L.getD k 0).toNat/256%16777216) ((L.getD k 0).toNat%256))
theorem D7 {L:List Int}{k:Nat}(h:ko L k=none):∀n,k<=n->ko L n=none
 |0,hn=>by have :k=0:=by omega
           subst this;exact h
 |n+1,hn=>by
  by_cases e:k=n+1
  ·subst e;exact h
  ·unfold ko
   rw[D7 h n (by omega)]
theorem wF {L:List Int}:∀{k:Nat} {l:List Int},ko L k=some l->l.length=13
 |0,l,h=>by cases h;simp
 |k+1,l,h=>by
  unfold ko at h;split at h
  ·cases h
  ·rename_i l0 h0
   split at h
   ·cases h
   ·cases h
    rw[yS,wF h0]
theorem run_parts(x:Nat)(h:x<18446744073709551616):bits .and .u64 ((x:Int)/256) 16777215=((x/256%16777216:Nat):Int)/\bits .and .u64 (x:Int) 255=((x%256:Nat):Int):=by
 have z:=Nat.div_le_self x 256;constructor
 ·rw[show(x:Int)/256=((x/256:Nat):Int) by omega,show(16777215:Int)=((16777215:Nat):Int) from rfl,gM (x/256) 16777215 (by omega) (by omega),show x/256 &&& 16777215=x/256%2^24 from dW _ 24]
 ·rw[show(255:Int)=((255:Nat):Int) from rfl,gM x 255 h (by omega),show x &&& 255=x%2^8 from dW x 8]
theorem x8{fn:Func}{tmps:Array Value}{a t:Nat}{G:Addr}{x:Value}(h:fn.results= #[.cell a t,.tmp b])(J:tmps.getD a undef= .pointer (some G))(U:(loadVar t G).run P w= .ok v w)
  (z:tmps.getD b undef=x):(results fn tmps).run P w= .ok (.tuple #[v,x]) w:=by
 rw[fg] at J z;unfold results;rw[h];simp[J,vT,U,z]
def Gx (w:World) (L:List Int) (e:Ending) (w':World):Prop:=
 ∃l ok,e= .returned (.tuple #[(zs l).toArray,.bool ok])/\l.length=13/\(ok=true->ko L L.length=some l)/\(ok=false->ko L L.length=none/\l=List.replicate 13 0)/\ay [] w w'
theorem QM (x P N C:Nat)(G:x<18446744073709551616)(W:P=x/4294967296)(U:N=x/256%16777216)(J:C=x%256):
  ∃h:Int,(x:Int)/4294967296=(P:Int)/\bits .and .u64 ((x:Int)/256) 16777215=(N:Int)/\bits .and .u64 (x:Int) 255=(C:Int)/\(P:Int)+(C:Int)=h/\IntKind.u64.wrap h=h/\(13<P+C↔13<h)/\P<4294967296/\N<16777216/\C<256:=by
 obtain⟨z,V⟩:=run_parts x G;refine⟨(P:Int)+(C:Int),by omega,by rw[U];exact z,by rw[J];exact V,rfl,EZ (by omega) (by omega),by omega,by omega,by omega,by omega⟩
theorem QN (P N C k:Nat)(G:P+C<=13)(J:k<C)(U:N<16777216):∃z h:Int,(P:Int)+(k:Int)=z/\IntKind.u64.wrap z=z/\0<=z/\z<13/\z.toNat=P+k/\(N:Int)+(k:Int)=h/\IntKind.u64.wrap h=h/\wrap64 h=h/\h=((N+k:Nat):Int):=
 ⟨(P:Int)+(k:Int),(N:Int)+(k:Int),rfl,EZ (by omega) (by omega),by omega,by omega,by omega,rfl,EZ (by omega) (by omega),aew (by omega) (by omega),by omega⟩
theorem Nz{L:List Int}(h:Reads w v g (aX L))(hL:L.length<=100)(af:∀k,0<=L.getD k 0/\L.getD k 0<18446744073709551616):
  Calls prog 224 #[v] w (Gx w L):=by
 obtain⟨a,cap,rfl,h1,h2,HC⟩:=il h;have ah:=pd;have oD:Hid (bc ((w.alloc (.cells (zs (List.replicate 13 0)).toArray 73)).alloc (.cells (zs (List.replicate 13 0)).toArray 73)) w.heap.size (zs (List.replicate 13 0)).toArray 73):=(bc.new w _ _).alloc _;have CI:Hid (bc ((w.alloc (.cells (zs (List.replicate 13 0)).toArray 73)).alloc (.cells (zs (List.replicate 13 0)).toArray 73)) (w.heap.size+1) (zs (List.replicate 13 0)).toArray 73):=by
  have :=bc.new (w.alloc (.cells (zs (List.replicate 13 0)).toArray 73)) (zs (List.replicate 13 0)).toArray 73;have e:(w.alloc (.cells (zs (List.replicate 13 0)).toArray 73)).heap.size=w.heap.size+1:=by simp
  rw[e] at this;exact this
 have fG:Hid (ay [] w ((w.alloc (.cells (zs (List.replicate 13 0)).toArray 73)).alloc (.cells (zs (List.replicate 13 0)).toArray 73))):=((ay.refl _ _).alloc _).alloc _;have lJ:Hid (∀J l,l.length=13->bc J w.heap.size (zs (List.replicate 13 0)).toArray 73->∃w',(storeVar 73 w.heap.size (.agg (zs l).toArray)).run prog J= .ok () w'/\(loadVar 73 w.heap.size).run prog w'= .ok (.agg (zs l).toArray) w'/\ay [w.heap.size] J w'):=λJ l hl hb=>by
  obtain⟨w',q1,q2,q3⟩:=bE (P:= prog) (ty:= 73) (cs:=zs l) (by rw[eT,hl];exact lS) hb (by simp[eT,hl]) (nt _);exact⟨w',q1,fy (off:=0) q2 hl (λk hk=>by rw[bp,aG,gI (by omega)]),q3⟩
 have uM:=ar af;clear h af;generalize hn:L.length=n at *;have HN:=ar hn;clear hn;generalize ae:(zs (List.replicate 13 0)).toArray=Z0 at *;have jt:=ar ae;clear ae;go_in;go_wp2_with fail;go_loopg [13] n (λgh s13 J=>∃(k:Nat) (l:List Int),k+gh=n/\s13= .int .i64 (k:Int)/\Hid (ko L k=some l/\bc J (w.heap.size+1) (zs l).toArray 73/\bc J w.heap.size Z0 73/\ay [] w J))
 case atStart=>exact⟨0,List.replicate 13 0,by omega,rfl,rfl,by rw[jt.out];exact CI.out,oD.out,fG.out⟩
 case round=>
  clear oD CI fG;obtain⟨k,l,hk,rfl,HP⟩:=hrel;obtain⟨uC,z,G,V⟩:=HP.out;have td:=wF uC;cases gk with
  |zero=>
   obtain rfl:k=n:=by omega
   have HL:=ar (fy (off:=0) z td (λk hk=>by rw[bp,aG,gI (by omega)]));obtain⟨w2,hS,pN,U⟩:=lJ.out wr l td G;obtain⟨HS,mO⟩:=hh2 hS pN;have HF:Hid (Gx w L (.returned (.tuple #[(zs l).toArray,true])) w2):=⟨l,true,rfl,td,λ_=>by rw[HN.out];exact uC,λh=>(by cases h),V.trans U⟩;clear HP uC z G V hS pN U hk ah;go_wp2_with(with_reducible first|refine gL 73 HL.out ?_|refine gS 73 HS.out ?_);exact aH (x8 results224 rfl mO.out rfl) rfl HF.out
  |succ gg=>
   have az:k<n:=by omega
   have aK:(k:Int)<(n:Int):=by omega
   have cM:(0:Int)<=(k:Int):=by omega
   obtain⟨aC,off,rfl,c0⟩:=HC.out k az;have d0:=(aO (w:=w) (a:=⟨g,off+k,none⟩) (V.block g aC (by simp))).trans c0;have au:=uM.out k;obtain⟨x,hx⟩:∃x:Nat,L.getD k 0=(x:Int):=⟨(L.getD k 0).toNat,by omega⟩;have ai:(L.getD k 0).toNat=x:=by omega
   have M0:Hid (ko L (k+1)=if 13<x/4294967296+x%256 then none else some (uq l (x/4294967296) (x/256%16777216) (x%256))):=by
    show _=_;rw[ko,uC,ai]
   rw[hx] at d0;obtain⟨P,hP⟩:∃P,P=x/4294967296:=⟨_,rfl⟩;obtain⟨N,ac⟩:∃N,N=x/256%16777216:=⟨_,rfl⟩;obtain⟨C,aa⟩:∃C,C=x%256:=⟨_,rfl⟩;obtain⟨si,q1,q2,q3,q4,q5,q6,q7,q8,q9⟩:=QM x P N C (by omega) hP ac aa;rw[<-hP,<-ac,<-aa] at M0;obtain⟨jD,oD,CI⟩:=hh3 V G z;clear hP ac aa c0 hx ai au HP uC z G V;by_cases ak:13<si
   ·have jT:Hid (ko L n=none):=D7 (by rw[M0.out,aB (q6.2 ak)]) n (by omega)
    obtain⟨w2,hS,pN,U⟩:=lJ.out wr (List.replicate 13 0) (by simp) oD.out;rw[jt.out] at hS pN;obtain⟨HS,mO⟩:=hh2 hS pN;have HF:Hid (Gx w L (.returned (.tuple #[Z0,false])) w2):=⟨List.replicate 13 0,false,by rw[jt.out],by simp,λh=>(by cases h),λ_=>⟨by rw[HN.out];exact jT.out,rfl⟩,jD.out.trans U⟩;clear hS pN U q6 q7 q8 q9;go_wp2_with(with_reducible refine gS 73 HS.out ?_);exact aH (x8 results224 rfl mO.out rfl) rfl HF.out
   ·have av:P+C<=13:=by
     have :¬13<P+C:=λh=>ak (q6.1 h)
     omega
    have mV:Hid (ko L (k+1)=some (uq l P N C)):=by
     show _=_;rw[M0.out,aA]
    clear q6 M0;go_wp2_with fail;clear d0 q1 q2 q3 q4 q5 ah;go_loopg [30] C (λgh s30 J=>∃j:Nat,j+gh=C/\s30= .int .u64 (j:Int)/\Hid (bc J (w.heap.size+1) (zs (uq l P N j)).toArray 73/\bc J w.heap.size Z0 73/\ay [] w J))
    case atStart=>exact⟨0,by omega,rfl,CI.out,oD.out,jD.out⟩
    case round=>
     clear CI oD jD;obtain⟨j,hj,rfl,HQ⟩:=hrel;cases gk with
     |zero=>
      obtain rfl:j=C:=by omega
      have W:=ar HQ.out;clear HQ hj;go_wp2;go_roundg gg;case measure=>omega
      case rel=>exact⟨k+1,_,by omega,by go_num,mV.out,W.out.1,W.out.2.1,W.out.2.2⟩
     |succ gk=>
      have ax:j<C:=by omega
      have aI:(j:Int)<(C:Int):=by omega
      have Co:(0:Int)<=(j:Int):=by omega
      obtain⟨ji,vi,r1,r2,r3,r4,r5,r6,r7,r8,r9⟩:=QN P N C j av ax q8;obtain⟨z,G,V⟩:=HQ.out;have aj:(uq l P N j).length=13:=by rw[yS];exact td
      have aD:wr.cell? ⟨w.heap.size+1,P+j,none⟩=some (.int .i64 ((uq l P N j).getD (P+j) 0)):=by rw[z.cell,aG,gI (by omega)]
      have aF:wr.frozen? ⟨w.heap.size+1,P+j,none⟩=false:=z.frozen _;have HR:Hid (bc (wr.setCell ⟨w.heap.size+1,P+j,none⟩ (.int .i64 vi)) (w.heap.size+1) (zs (uq l P N (j+1))).toArray 73/\bc (wr.setCell ⟨w.heap.size+1,P+j,none⟩ (.int .i64 vi)) w.heap.size Z0 73/\ay [] w (wr.setCell ⟨w.heap.size+1,P+j,none⟩ (.int .i64 vi))):=by
       refine⟨?_,G.other (by simp) _,V.setCell (.inr (by show w.heap.size<=w.heap.size+1;omega)) _⟩;have :=z.set (P+j) (.int .i64 vi);rw[ag,XB,r9] at this;rw[r9];exact this
      clear HQ z G V aj r9;generalize (uq l P N j).getD (P+j) 0=y at *;have aJ:IntKind.u64.wrap ((j:Int)+1)=(j:Int)+1:=EZ (by omega) (by omega);go_wp2;go_roundg gk;case measure=>omega
      case rel=>exact⟨j+1,by omega,by go_num,HR.out⟩
theorem Gy (l:List Int):∀f e,e<=oH l f e
 |0,e=>aI _
 |f+1,e=>by
  unfold oH;split
  ·have :=Gy l f (e+1);omega
  ·omega
theorem Ai (l:List Int):∀f e i,e<=i->i<oH l f e->lT l i
 |0,e,i,h1,h2=>by unfold oH at h2;omega
 |f+1,e,i,h1,h2=>by
  unfold oH at h2;split at h2
  ·rename_i hc
   by_cases h:i=e
   ·subst h;exact hc
   ·exact Ai l f (e+1) i (by omega) h2
  ·omega
theorem Gz (l:List Int):∀f e,13<=e+f->¬lT l (oH l f e)
 |0,e,h=>by
  unfold oH;exact λz=>by have :=z.2.1;omega
 |f+1,e,h=>by
  unfold oH;split
  ·exact Gz l f (e+1) (by omega)
  ·assumption
theorem YF (l:List Int)(f e:Nat)(h:e<=13):oH l f e<=13:=by
 by_cases z:oH l f e=e
 ·omega
 ·have G:=Gy l f e
  have :=(Ai l f e (oH l f e-1) (by omega) (by omega)).2.1;omega
def abU (l:List Int) (k j:Nat):Prop:=∃s,s<k/\sO l s/\s<=j/\j<s+rI l s
theorem qQ (l:List Int){s:Nat}(z:s<13):1<=rI l s/\s+rI l s<=13/\s+rI l s=oH l 13 (s+1):=by
 have h:=Gy l 13 (s+1);have G:=YF l 13 (s+1) (by omega);unfold rI;omega
theorem abV{s j:Nat}(J:s<13)(G:s<=j)(z:j<s+rI l s):l.getD j 0=l.getD s 0+((j-s:Nat):Int):=by
 obtain⟨-,-,U⟩:=qQ l J;rw[U] at z;exact abp (λi V h=>Ai l 13 (s+1) i (by omega) h) j G z
theorem abW:∀j,j<13->DN (l.getD j 0)->abU l (j+1) j:=by
 intro j;induction j with
 |zero=>
  intro _ J;refine⟨0,by omega,⟨J,λh=>by have :=h.1;omega⟩,by omega,?_⟩;have :=(qQ l (show 0<13 by omega)).1;omega
 |succ j ih=>
  intro W J;by_cases G:lT l (j+1)
  ·have z:=G.2.2.2.1
   rw[jQ] at z;obtain⟨s,h1,h2,h3,V⟩:=ih (by omega) z;obtain⟨-,-,h5⟩:=qQ l (show s<13 by omega);refine⟨s,by omega,h2,by omega,?_⟩;rw[h5] at V ⊢;refine Nat.lt_of_not_le λaa=> ?_
   have U:oH l 13 (s+1)=j+1:=by omega
   have :=Gz l 13 (s+1) (by omega);rw[U] at this;exact this G
  ·refine⟨j+1,by omega,⟨J,G⟩,by omega,?_⟩
   have :=(qQ l W).1;omega
theorem GA (A C:List Int):∀k,k<=A.length->ko (A++C) k=ko A k
 |0,_=>rfl
 |k+1,h=>by
  unfold ko;rw[GA A C k (by omega),aj,aj,bh (by omega)]
theorem CQ (l:List Int)(p b:Nat):∀c,p+c<=l.length->∀j,(uq l p b c).getD j 0=if p<=j/\j<p+c then ((b+(j-p):Nat):Int) else l.getD j 0
 |0,_,j=>by rw[aA];rfl
 |c+1,h,j=>by
  rw[uq,AP,yS,CQ l p b c (by omega)];by_cases e:p+c=j
  ·subst e
   rw[aB ⟨rfl,by omega⟩,aB ⟨by omega,by omega⟩,dS]
  ·rw[aA]
   by_cases z:p<=j/\j<p+c
   ·rw[aB z,aB ⟨z.1,by omega⟩]
   ·rw[aA z,aA]
theorem QO (k b n:Nat)(z:k<256)(h:b<256)(G:n<256):(zq k (b:Int) n).toNat/4294967296=k/\(zq k (b:Int) n).toNat/256%16777216=b/\(zq k (b:Int) n).toNat%256=n:=by
 have e:(zq k (b:Int) n).toNat=k*4294967296+b*256+n:=by unfold zq;omega
 rw[e];omega
theorem U1 (B:List Int):∀k,k<=13->∃l,ko (gy B k) (gy B k).length=some l/\(∀j,abU B k j->l.getD j 0=B.getD j 0)/\∀j,¬abU B k j->l.getD j 0=0:=by
 intro k;induction k with
 |zero=>
  intro _;refine⟨List.replicate 13 0,rfl,λj h=> ?_,λj _=> ?_⟩
  ·obtain⟨s,V,-⟩:=h
   omega
  ·rw[aj,bB]
   split<;>rfl
 |succ k ih=>
  intro hk;obtain⟨l,V,h2,h3⟩:=ih (by omega);by_cases U:sO B k
  ·obtain⟨f1,f2,-⟩:=qQ B (show k<13 by omega)
   obtain⟨b,hb⟩:∃b:Nat,B.getD k 0=(b:Int):=⟨(B.getD k 0).toNat,by have :=U.1;unfold DN at this;omega⟩;have aa:b<256:=by have :=U.1;unfold DN at this;omega
   obtain⟨p1,p2,p3⟩:=QO k b (rI B k) (by omega) aa (by omega);have hl:=wF V;have hg:(gy B k++[zq k (B.getD k 0) (rI B k)]).getD (gy B k).length 0=zq k (b:Int) (rI B k):=by rw[hb];simp
   refine⟨uq l k b (rI B k),?_,λj z=> ?_,λj z=> ?_⟩
   ·rw[gy,aB U,aC,List.length_singleton,ko,GA _ _ _ (aI _),V,hg,p1,p2,p3]
    show(if 13<k+rI B k then none else some _)=_;rw[aA]
   ·rw[CQ _ _ _ _ (by omega)]
    by_cases J:k<=j/\j<k+rI B k
    ·rw[aB J,abV (by omega) J.1 J.2,hb]
     omega
    ·rw[aA J]
     obtain⟨s,g1,G,W,g4⟩:=z;refine h2 j ⟨s,?_,G,W,g4⟩;rcases (show s<k\/s=k by omega) with h|h
     ·exact h
     ·subst h;exact absurd ⟨W,g4⟩ J
   ·rw[CQ _ _ _ _ (by omega),aA (λJ=>z ⟨k,by omega,U,J.1,J.2⟩)]
    exact h3 j λ⟨s,g1,G⟩=>z ⟨s,by omega,G⟩
  ·refine⟨l,?_,λj z=> ?_,λj z=> ?_⟩
   ·rw[gy,aA U];exact V
   ·obtain⟨s,g1,G,W⟩:=z
    refine h2 j ⟨s,?_,G,W⟩;rcases (show s<k\/s=k by omega) with h|h
    ·exact h
    ·subst h;exact absurd G U
   ·exact h3 j λ⟨s,g1,G⟩=>z ⟨s,by omega,G⟩
theorem Bp (A:List Int){l:List Int}(h:ko A A.length=some l):∀z,ko (A++List.replicate z 0) (A.length+z)=some l
 |0=>by simpa using h
 |z+1=>by
  have J:=Bp A h z;have G:(A++List.replicate (z+1) (0:Int)).getD (A.length+z) 0=0:=by
   rw[aj,aT (by omega),bB];split<;>rfl
  have e:A++List.replicate (z+1) (0:Int)=(A++List.replicate z 0)++[0]:=by rw[List.replicate_succ',aV]
  show ko _ (A.length+z+1)=_;rw[ko,G,e,GA _ _ _ (by simp),J];rfl
theorem GC (hB:B.length=13)(U:∀k,k<13->0<=B.getD k 0/\B.getD k 0<256)(z:Nat):ko (fu B++List.replicate z 0) ((fu B).length+z)=some B:=by
 obtain⟨l,G,h2,V⟩:=U1 B 13 (aI _);have hl:=wF G;have e:l=B:=DJ (by omega) λj hj=>by
  by_cases h:abU B 13 j
  ·exact h2 j h
  ·rw[V j h]
   by_cases J:DN (B.getD j 0)
   ·obtain⟨s,g1,W⟩:=abW j (by omega) J
    exact absurd ⟨s,by omega,W⟩ h
   ·have :=U j (by omega)
    unfold DN at J;omega
 subst e;exact Bp (fu l) G z
theorem lV (t T ty:TypeId)(i:TypeInfo)(z:Value)(size bytes:Nat)(ht:P.underlying t=some (.slice T))(hi:P.info? T=some i)(hz:i.zero=some z)(af:i.size=size)(ag:i.bytes=bytes)(ai:z.cells.size=size)(ac:0<size)
  (G n:Nat) (v:Value) (xs:List Value) (J:w.ownsRow G T size v n xs) (a:Option Addr) (m c:Nat) (V:List Value) (hl:V.length=m*size) (hc:m≠0->∃ad,a=some ad/\∀j u,V[j]? =some u->w.cell? (ad.add j)=some u) (h1:∀u∈V,u.oneCell'=true)
  (ae:n+m<=maxLen) (U:(n+m)*bytes<=140737488355328) (W:G<=w.heap.size):
  ∃v' w',(Builtin.append_ #[t,t] ty #[v,.slice a m c]).run P w= .ok v' w'/\w'.ownsRow G T size v' (n+m) (xs++V)/\w.grownBy w' v.ownBlock:=by
 cases a with
 |none=>
  have h0:m=0:=by
   rcases eo m with h|h
   ·exact h
   ·obtain⟨ad,e,-⟩:=hc (by omega);cases e
  subst h0;have ah:V=[]:=bg (by rw[hl];simp);subst ah;refine⟨v,w,?_,by simpa using J,⟨rfl,rfl,rfl,aI _,λ_ _ _=>rfl⟩⟩;obtain⟨-,h5⟩:=J;rcases h5 with ⟨rfl,rfl⟩|⟨g',ak,au,rfl,hg,hh,q2,q3,q4,q5⟩
  ·simp[Builtin.append_,dD ht,sizeOf,typeInfo,hi,Builtin.lenOf,Builtin.firstCells]
  ·simp[Builtin.append_,dD ht,sizeOf,typeInfo,hi,Builtin.lenOf,Builtin.firstCells,q2,storeCells]
 |some ad=>
  have aa:∀j u,V[j]? =some u->w.cell? (ad.add j)=some u:=by
   intro j u hu;have hj:j<V.length:=(List.getElem?_eq_some_iff.1 hu).1;have hm:m≠0:=by
    intro e;rw[hl,e] at hj;simp at hj
   obtain⟨ar,e,aj⟩:=hc hm;cases e;exact aj j u hu
  obtain⟨v',w',hr,ho,hg,-⟩:=run_append_own (P:=P) w G t ty T i z size bytes ht hi hz af ag ai ac v n xs J ad m c V hl aa h1 ae U W;exact⟨v',w',hr,ho,hg⟩
theorem wpList_append_run{z:Array Oper}{rest:List Oper}{o:Oper}{a:Act}{Q:Exit->Act->World->Prop}(G:o.guard=none)(d x:Operand)(t U:TypeId)
  (ho:o.op= .call { callee:= .builtin .append,args:= #[d,x],argTypes:= #[t,U] }) (v u:Value) (V:a.eval d=v) (W:a.eval x=u) {J:Value} {w':World}
  (hr:(Builtin.append_ #[t,U] o.type #[v,u]).run P w= .ok J w') (h:wpList P z Q rest (a.put o.dst J) w'):wpList P z Q (o::rest) a w:=
 wpList_plain G λ_ hK=>by
  unfold Oper.wp execOp;simp only[ho,resolve,invoke,builtin,ck,fQ,cN,List.map_toArray,List.map_cons,List.map_nil,V,W,hr];exact hK _ _ h
theorem Bq (w:World)(t W e:TypeId)(i:TypeInfo)(z:Value)(kq kn:IntKind)(ht:P.underlying t=some (.slice e))(V:P.underlying W=some (.int kn))(hi:P.info? e=some i)(hz:i.zero=some z)(ae:i.size=1)(YG:z.cells.size=1)
  (k:Nat) (h0:0<k) (hk:k<=1000) (U:i.bytes=8):
  ∃c w',(∀ty,(Builtin.append_ #[t,W] ty #[(),.int kq k]).run P w= .ok (.slice w.heap.size k c) w')/\k<=c/\w'.ownsRow w.heap.size e 1 (.slice w.heap.size 0 c) 0 []/\ay [] w w':=by
 have aa:(Builtin.firstCells i.size 0 (.slice none 0 0)).run P w.drew= .ok ([]:List Value).toArray w.drew:=by simp[Builtin.firstCells]
 have ac:Builtin.nextslicecap (0+k) 0<=4*1000+64:=by
  unfold Builtin.nextslicecap;split<;>omega
 have h:=λty=>Lib.run_append_grow_zeros w t W ty e i z kq kn ht V hi hz none 0 0 [] aa k h0 (by omega) (by omega) (by omega) (by rw[U];omega) (by rw[U];omega)
 have G:=grownCap_ge w (0+k) 0 e;have J:=grownCap_le_maxLen w (0+k) 0 e (by unfold maxLen;omega);rw[bp] at G J;simp only[bp] at h;refine⟨_,_,h,G,⟨rfl,.inr ⟨w.heap.size,grownCap w k 0 e,_,rfl,aI _,bc.new w.drew _ _,fD _,J,?_,by simp⟩⟩,((ay.refl [] w).drew).alloc _⟩;simp[oa,YG];omega
theorem abX (k:Nat)(h0:0<k)(hk:k<=1000)(z:Int)(W:z=(k:Int))(w:World):Calls prog 234 #[(),z] w λe w'=>
  ∃c,e= .returned (.slice w.heap.size 0 c)/\w'.ownsRow w.heap.size 70 1 (.slice w.heap.size 0 c) 0 []/\ay [] w w':=by
 obtain⟨i0,hi,V,J,U⟩:=df Tryz.info_u64;obtain⟨c,w',hr,hc,h,G⟩:=Bq (P:= prog) w 65 3 70 i0 _ .i64 .i64 underlying65 underlying3 hi V J rfl k h0 hk U;have h1:¬z<0:=by omega
 have h2:0<z:=by omega
 have h3:wrap64 z=z:=by unfold wrap64;omega
 simp only[<-W] at hr;obtain⟨HO,HK⟩:=hh2 h G;have aa:c≠0:=by omega
 have ac:(0:Int)<=(c:Int):=by omega
 clear h G W hi V J U hc;go_in;go_wp2_with(at_builtin;refine wpList_append_run rfl (.tmp 20) (.tmp 21) 65 3 ?_ (.slice none 0 0) (.int .i64 z) ?_ ?_ (hr _) ?_;all_goals first|rfl|skip);go_ret;exact⟨c,rfl,HO.out,HK.out⟩
theorem D8{a:Option Addr}{m c:Nat}{z:List Value}(h:Reads w (.slice a m c) g z)(U:m≠0):∃J,a=some J/\∀j u,z[j]? =some u->w.cell? (J.add j)=some u:=by
 obtain⟨a',c',V,h2,h3,h4⟩:=h;cases V;obtain⟨-,off,rfl,W⟩:=h4 (by intro e;rw[e] at U;exact U rfl);refine⟨_,rfl,λj u G=> ?_⟩;have hj:j<z.length:=(List.getElem?_eq_some_iff.1 G).1;rw[add_plain,W j hj,G]
def szC (j:Nat):Nat:=if j=0 then 0 else if j=1 then 5 else 13
def QP (h z:List Int) (j:Nat):List Int:=if j=0 then [] else if j=1 then h else h++z
theorem U2{gs g1 g2 T:Nat}{x1 x2:Value}{G z:List Int}(hb:bc w gs #[x1,x2] T)(h1:Reads w x1 g1 (aX G))(h2:Reads w x2 g2 (aX z))(Cj:G.length=5)(ah:z.length=8):
  Calls prog 223 #[.slice gs 2 2] w (jG w (G++z)):=by
 obtain⟨i0,hi,ak,af,ai⟩:=df Tryz.info_u64;obtain⟨a1,c1,rfl,az,SN,H1⟩:=il h1;obtain⟨a2,c2,rfl,ax,aA,H2⟩:=il h2;rw[Cj] at hb az h1;rw[ah] at hb ax h2;obtain⟨av,au,HB⟩:=hh3 h1 h2 hb;clear h1 h2 hb H1 H2;have aj:∀J,ay [] w J->J.cell? gs=some (.slice a1 5 c1):=λJ hk=>by rw[(HB.out.keep hk).cell];rfl
 have ae:∀J,ay [] w J->J.cell? ⟨gs,1,none⟩=some (.slice a2 8 c2):=λJ hk=>by rw[(HB.out.keep hk).cell];rfl
 obtain⟨ag,aa⟩:=hh2 aj ae;clear aj ae;go_in;go_wp2_with fail;go_loopg [3,11] 2 (λgh s3 Qh J=>∃j:Nat,j+gh=2/\Qh= .int .i64 (j:Int)/\s3= .int .i64 ((szC j:Nat):Int)/\w=J)
 case atStart=>exact⟨0,rfl,rfl,rfl,rfl⟩
 case round=>
  obtain⟨j,hj,rfl,rfl,rfl⟩:=hrel;have e0:=ag.out w (ay.refl _ _);have e1:=aa.out w (ay.refl _ _);rcases (show gk=0\/gk=1\/gk=2 by omega) with rfl|rfl|rfl
  ·obtain rfl:j=2:=by omega
   rw[show szC 2=13 from rfl];clear e0 e1;go_wp2_with fail;refine(abX 13 (by omega) (by omega) 13 rfl w).mono ?_;rintro e w1 ⟨c,rfl,h,ac⟩;obtain⟨HO,HK⟩:=hh2 h ac;clear h ac;go_wp2_with fail;go_loopg [6,27] 2 (λgh s6 s27 J=>∃j:Nat,j+gh=2/\s27= .int .i64 (j:Int)/\Hid (J.ownsRow w.heap.size 70 1 s6 (szC j) (aX (QP G z j))/\ay [] w J))
   case atStart=>exact⟨0,rfl,rfl,HO.out,HK.out⟩
   case round=>
    clear HO HK;obtain⟨j,hj,rfl,HP⟩:=hrel;obtain⟨h,U⟩:=HP.out;have e0:=ag.out _ U;have e1:=aa.out _ U;rcases (show gk=0\/gk=1\/gk=2 by omega) with rfl|rfl|rfl
    ·obtain rfl:j=2:=by omega
     have HM:Hid (jG w (G++z) (.returned u6) wr):=by
      obtain⟨g,V,W⟩:=fw.of_row h;exact⟨u6,g,rfl,V.reads,(W (by decide)).1,U⟩
     clear e0 e1 h U HP;go_wp2;go_ret;exact HM.out
    ·obtain rfl:j=1:=by omega
     obtain⟨v',w',hr,V,W⟩:=lV (P:= prog) 65 70 65 i0 _ 1 8 underlying65 hi ak af ai rfl (by omega) w.heap.size 5 _ _ h a2 8 c2 (aX z) (by rw[bA,ah]) (D8 (au.out.keep U)) (fk _) (by decide) (by omega) U.size;have HN:Hid (w'.ownsRow w.heap.size 70 1 v' 13 (aX (QP G z 2))/\ay [] w w'):=by
      refine⟨?_,U.grown W (dO h)⟩;have e:aX (QP G z 2)=aX (QP G z 1)++aX z:=by rw[<-ua];rfl
      rw[e];exact V
     clear h U HP V W e0;go_wp2_with(at_builtin;refine wpList_append_run rfl (.tmp 31) (.tmp 32) 65 65 ?_ u6 (.slice a2 8 c2) ?_ ?_ hr ?_;all_goals first|rfl|skip);go_roundg 0;case measure=>omega
     case rel=>exact⟨2,rfl,rfl,HN.out⟩
    ·obtain rfl:j=0:=by omega
     obtain⟨v',w',hr,V,W⟩:=lV (P:= prog) 65 70 65 i0 _ 1 8 underlying65 hi ak af ai rfl (by omega) w.heap.size 0 _ _ h a1 5 c1 (aX G) (by rw[bA,Cj]) (D8 (av.out.keep U)) (fk _) (by decide) (by omega) U.size;have HN:Hid (w'.ownsRow w.heap.size 70 1 v' 5 (aX (QP G z 1))/\ay [] w w'):=by
      refine⟨?_,U.grown W (dO h)⟩;have e:aX (QP G z 1)=aX (QP G z 0)++aX G:=rfl;rw[e];exact V
     clear h U HP V W e1;go_wp2_with(at_builtin;refine wpList_append_run rfl (.tmp 31) (.tmp 32) 65 65 ?_ u6 (.slice a1 5 c1) ?_ ?_ hr ?_;all_goals first|rfl|skip);go_roundg 1;case measure=>omega
     case rel=>exact⟨1,rfl,rfl,HN.out⟩
  ·obtain rfl:j=1:=by omega
   rw[show szC 1=5 from rfl];clear e0;go_wp2;go_roundg 0;case measure=>omega
   case rel=>exact⟨2,rfl,rfl,rfl,rfl⟩
  ·obtain rfl:j=0:=by omega
   rw[show szC 0=0 from rfl];clear e1;go_wp2;go_roundg 1;case measure=>omega
   case rel=>exact⟨1,rfl,rfl,rfl,rfl⟩
end Go.Proofs.YtimcfdnbpkiniaaGreatDoor
