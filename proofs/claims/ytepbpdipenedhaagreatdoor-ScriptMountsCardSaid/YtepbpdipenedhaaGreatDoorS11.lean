/- Lemmas. -/
import Derived.Test.YtepbpdipenedhaaGreatDoorS10
import Derived.Test.YtepbpdipenedhaaGreatDoorS09
import Derived.Lib.AppendZerosOnto
set_option maxHeartbeats 8000000
set_option maxRecDepth 100000
namespace Go.Proofs.YtepbpdipenedhaaGreatDoor
open Go.Proofs.Tryz
open Go.RowKit
variable{E:List (ByteArray×Int)}{B X l:List Int}{G b g i k m:Nat}{n:bN}{own:List Nat}{w:World}{ps:List (Int×Int)}{v:Value}{x:Int}{P:Program}
theorem mo:∀a:List UInt8,Op.bytesLess a a=false
 | []=>rfl
 |a::x=>by
  have h:¬a<a:=by rw[fI];omega
  simp[Op.bytesLess,mo x,h]
theorem pD:∀a b:List UInt8,Op.bytesLess a b=false->a≠b->Op.bytesLess b a=true
 | [],[],_,h=>absurd rfl h
 |_::_,[],_,_=>rfl
 | [],_::_,h,_=>by simp[Op.bytesLess] at h
 |a::x,b::y,h,hne=>by
  simp only[Op.bytesLess,Bool.or_eq_false_iff,Bool.and_eq_false_iff,decide_eq_false_iff_not,cj] at h;simp only[Op.bytesLess,Bool.or_eq_true,fR,decide_eq_true_eq,beq_iff_eq];by_cases e:a=b
  ·subst e
   refine .inr ⟨rfl,pD x y ?_ (λz=>hne (by rw[z]))⟩;exact h.2.resolve_left λJ=>J rfl
  ·left
   have G:=h.1;rw[fI] at G ⊢;have :a.toNat≠b.toNat:=λh=>e (UInt8.toNat_inj.1 h)
   omega
theorem lZ:∀a b c:List UInt8,Op.bytesLess a b=true->Op.bytesLess b c=true->Op.bytesLess a c=true
 |_,_,[],_,h=>by simp[Op.bytesLess] at h
 | [],_,_::_,_,_=>rfl
 |_::_,[],_::_,h,_=>by simp[Op.bytesLess] at h
 |a::x,b::y,c::z,J,G=>by
  simp only[Op.bytesLess,Bool.or_eq_true,fR,decide_eq_true_eq,beq_iff_eq] at J G ⊢;rw[fI] at *;rcases J with J|⟨rfl,J⟩
  ·rcases G with G|⟨rfl,G⟩
   ·left;omega
   ·left;exact J
  ·rcases G with G|⟨rfl,G⟩
   ·left;exact G
   ·exact .inr ⟨rfl,lZ x y z J G⟩
theorem Co (h:∀k,k<E.length->0<k->leB (dZ E k) (dZ E (k-1))=false):∀k j,j<k->k<E.length->Op.bytesLess (dZ E j).toList (dZ E k).toList=true:=by
 intro k;induction k with
 |zero=>intro j G;omega
 |succ k ih=>
  intro j G J;have y:=h (k+1) J (by omega);unfold leB at y;rw[Bool.or_eq_false_iff,fO] at y;have z:Op.bytesLess (dZ E k).toList (dZ E (k+1)).toList=true:=pD _ _ y.1 (by simpa using y.2);by_cases e:j=k
  ·subst e;exact z
  ·exact lZ _ _ _ (ih j (by omega) (by omega)) z
theorem I2 (h:∀k,k<E.length->0<k->leB (dZ E k) (dZ E (k-1))=false){j k:Nat}(y:j<k)(z:k<E.length):dZ E j≠dZ E k:=λe=>by
 have :=Co h k j y z;rw[e,mo] at this;cases this
theorem I3{l:List Nat}(h:gA l=true):72057594037927936<=jq l:=by
 unfold jq;rw[aB h,ot];have :=(mX h).1;omega
theorem yU (k:Nat):(l.drop 5).getD k 0=l.getD (5+k) 0:=by
 rw[aj,cg,aj]
theorem Lg{c:Nat}(h:k<c)(y:c<=l.length):((l.take c).map Int.toNat).getD k 0=(l.getD k 0).toNat:=by
 rw[aj,bC,cy,aB h,aj,aF (by omega)];rfl
theorem OQ (aG:In64 X){q:Nat}(h:kJ X (dz X q)):
  bR (lQ X (dz X q))/\(lQ X (dz X q)).F=1/\(lQ X (dz X q)).B.length=13/\(Aw X (dz X q)).length=ez (lQ X (dz X q))/\(∀c∈Aw X (dz X q),c≠0/\c<256)/\(Aw X (dz X q)).Nodup/\Cm X q (lQ X (dz X q)) (Aw X (dz X q)):=by
 obtain⟨ag,hS,aL,hF,hR,ah⟩:=h;have sQ:=iB X q;have sH:In64 (dz X q):=λj=>by
  by_cases hj:j<8
  ·rw[jt _ _ _ hj];exact aG _
  ·rw[aj,aP (by rw[sQ];omega)]
   simp
 have rI:=Ck aG sH sQ ag;have V:=rH (X:=X) sQ;have NT:cD X (dz X q)=((dz X q).drop 2).take 5++(if (dz X q).getD 7 0=0 then List.replicate 8 0 else dz X (1080+8*((dz X q).getD 7 0).toNat)):=rfl;have Vn:(cD X (dz X q)).drop 5=if (dz X q).getD 7 0=0 then List.replicate 8 0 else dz X (1080+8*((dz X q).getD 7 0).toNat):=by
  rw[NT,List.drop_append_of_le_length (by simp[sQ]),cZ (by simp[sQ])];rfl
 have aU:=ag.1;have ax:=(sH 7).1;have VL:=ag.2.2;clear NT ag;have IW:lQ X (dz X q)=if (gX (dz X q)).K=2 then { gX (dz X q) with E:=pj X (cD X (dz X q)) ((dz X q).getD 1 0).toNat } else { gX (dz X q) with B:=cD X (dz X q) }:=rfl
 have W:Aw X (dz X q)=(if (gX (dz X q)).K=2 then ((cD X (dz X q)).take (aY ((dz X q).getD 1 0).toNat)).map Int.toNat else [])++(if (dz X q).getD 7 0=0 then [] else [((dz X q).getD 7 0).toNat]):=rfl;have aO:(gX (dz X q)).B=List.replicate 13 0:=rfl;have aQ:(gX (dz X q)).E=[]:=rfl;generalize hn:lQ X (dz X q)=n at *;generalize Xe:Aw X (dz X q)=own at *;generalize aV:cD X (dz X q)=l at *;generalize aS:(dz X q).getD 7 0=U at *;generalize ba:((dz X q).getD 1 0).toNat=m at *;generalize av:dz X q=r at *;have aN:aY ([]:List (ByteArray×Int)).length=0:=by decide
 by_cases hK:(gX r).K=2
 · -- a directory
  rw[aB hK] at IW W;obtain⟨aX,aJ,ak⟩:=aL hK;have ae:n.E=pj X l m:=by rw[IW]
  have Cq:n.E.length=m:=by rw[ae,nr]
  have Sq:n.B=List.replicate 13 0:=by rw[IW];exact aO
  have aZ:n.K=2:=by rw[IW];exact hK
  have bc:aY m<=6:=by unfold aY;omega
  have aH:∀k,aY m<=k->l.getD k 0=0:=λk G=>by
   rw[aJ,yD V (by omega),aA (by omega)]
  have I1:mz n:=by
   rcases hR.2.2 with h|h
   ·have :=h.1;omega
   ·exact h.2
  have af:((l.take (aY m)).map Int.toNat).length=aY m:=by rw[bG,aI,V];omega
  have z:own.length=aY m+(if U=0 then 0 else 1):=by
   rw[W,aD,af];split<;>rfl
  have aa:∀k,k<aY m->own.getD k 0=(l.getD k 0).toNat:=λk G=>by
   rw[W,aj,bg (by rw[af];exact G),<-aj,Lg G (by rw[V];omega)]
  have MT:U≠0->own.getD (aY m) 0=U.toNat:=λy=>by
   rw[W,aj,aT (by rw[af];omega),af,Nat.sub_self,aA y];rfl
  have wP:eG n own=U.toNat:=by
   unfold eG;rw[Cq];by_cases y:U=0
   ·rw[aA (by rw[z,aB y];omega),y];rfl
   ·rw[aB (by rw[z,aA y];omega),MT y]
  have J:dv n own=l:=by
   have II:aY n.E.length<=own.length:=by rw[Cq,z];omega
   refine zB (by rw[qM (by rw[Sq];rfl) (by rw[Cq];omega) II,V]) λk _=> ?_
   rw[qN II,Cq];split
   ·rename_i G
    rw[aa k G,gM (rI k).1]
   ·rename_i G
    rw[aH k (by omega),Sq,aj,bb];split<;>rfl
  have az:U≠0↔5<aY m:=by
   constructor
   ·intro y
    have h1:=VL.resolve_left y;rcases dg 5 (aY m) with h|h
    ·exact h
    ·refine absurd (zB (by rw[bu,V];rfl) λk _=> ?_) h1
     rw[yU,aH _ (by omega),aj,bb];split<;>rfl
   ·intro h5 y
    rw[aB y] at Vn;have h1:=(ak 5 h5).1;have h2:(l.drop 5).getD 0 0=0:=by rw[Vn];rfl
    rw[yU] at h2;exact h1 h2
  have qL:ez n=own.length:=by
   unfold ez;rw[Cq,z];by_cases y:U=0
   ·rw[aA,aB y]
    ·rfl
    ·intro h
     rcases h with h|h
     ·exact az.2 h y
     ·exact h (by rw[Sq];rfl)
   ·rw[aB (.inl (az.1 y)),aA y]
  have aC:∀c∈own,c≠0/\c<256:=λc hc=>by
   obtain⟨k,G,rfl⟩:=bU hc;have e:own[k]=own.getD k 0:=by rw[aj,aF G];rfl
   rw[e];by_cases ac:k<aY m
   ·rw[aa k ac]
    have :=(ak k ac).1;have :=rI k;omega
   ·rw[z] at G
    split at G
    ·omega
    ·rename_i y
     rw[show k=aY m by omega,MT y];omega
  have Z:∀k,k<aY m->dz X (1080+8*own.getD k 0)=gI n.E k:=λk G=>by
   rw[aa k G,ae];exact(ak k G).2.2.symm
  have Xy:U≠0->dz X (1080+8*U.toNat)=l.drop 5:=λy=>by rw[Vn,aA y]
  have tJ:∀k,k<aY m->(gI n.E k).getD 0 0=((jq (bl (dZ n.E (4*k))):Nat):Int)/\4*k<n.E.length:=λk G=>by
   have aR:4*k<m:=by unfold aY at G;omega
   refine⟨?_,by omega⟩;unfold gI;rw[ni _ _ _ _ (by omega),aB (by omega),F8,aB (by omega)];rfl
  have ai:=λk G (y:0<k)=>(I1.2.2.2 k G).2.2 y
  refine⟨hR,by rw[IW];exact hF,by rw[Sq];rfl,qL.symm,aC,?_,?_⟩
  ·rw[List.nodup_iff_pairwise_ne,cU]
   intro i j hi hj aW e;have ei:own[i]=own.getD i 0:=by rw[aj,aF hi];rfl
   have ej:own[j]=own.getD j 0:=by rw[aj,aF hj];rfl
   rw[ei,ej] at e;have ay:i<aY m:=by rw[z] at hj;split at hj<;>omega
   obtain⟨f1,f2⟩:=tJ i ay;have b1:=Z i ay;have g1:=(I1.2.2.2 (4*i) f2).1;by_cases ar:j<aY m
   ·obtain⟨f3,f4⟩:=tJ j ar
    have b2:=Z j ar;rw[e,b2] at b1;rw[b1,f1] at f3;have g2:=(I1.2.2.2 (4*j) f4).1;have hw:jq (bl (dZ n.E (4*i)))=jq (bl (dZ n.E (4*j))):=by omega
    unfold jq at hw;rw[aB g1,aB g2] at hw;have n1:=l9 g1 (xg _);have n2:=l9 g2 (xg _);rw[hw,n2] at n1;exact I2 ai (show 4*i<4*j by omega) f4 (FR (Option.some.inj n1)).symm
   ·have y:U≠0:=λy=>by rw[z,aB y] at hj;omega
    have aM:j=aY m:=by rw[z,aA y] at hj;omega
    rw[aM,MT y] at e;rw[e,Xy y] at b1;have :=I3 g1;rw[<-b1,yU] at f1;have :=rI (5+0);omega
  ·refine⟨by rw[J,wP,gM ax,ah,av],λk G=> ?_⟩
   unfold ownRow;rw[Cq,J];split
   ·rename_i ac
    exact Z k ac
   ·rename_i ac
    have y:U≠0:=λy=>by rw[z,aB y] at G;omega
    have aK:k=aY m:=by rw[z,aA y] at G;omega
    rw[aK,MT y,Xy y]
 · -- a file
  rw[aA hK] at IW W;have ae:n.E=[]:=by rw[IW];exact aQ
  have Cq:aY n.E.length=0:=by rw[ae];exact aN
  have Sq:n.B=l:=by rw[IW]
  have z:own=if U=0 then [] else [U.toNat]:=by rw[W,bT]
  have J:dv n own=l:=by
   unfold dv;rw[Cq,Sq];rfl
  have wP:eG n own=U.toNat:=by
   unfold eG;rw[Cq];by_cases y:U=0
   ·rw[z,aB y,aA (by simp),y];rfl
   ·rw[z,aA y,aB (by simp)];rfl
  refine⟨hR,by rw[IW];exact hF,by rw[Sq,V],?_,?_,?_,?_⟩
  ·unfold ez
   rw[Cq,Sq];by_cases y:U=0
   ·rw[aB y] at Vn
    rw[z,aB y,aA]
    ·rfl
    ·intro h
     rcases h with h|h
     ·omega
     ·exact h Vn
   ·rw[z,aA y,aB (.inr (VL.resolve_left y))]
    rfl
  ·rw[z]
   split
   ·simp
   ·rename_i y
    intro c hc;rw[au] at hc;omega
  ·rw[z]
   split<;>simp
  ·refine⟨by rw[J,wP,gM ax,ah,av],λk G=> ?_⟩
   unfold ownRow;rw[Cq,J,aA (by omega)];have y:U≠0:=λy=>by rw[z,aB y] at G;simp at G
   rw[z,aA y] at G ⊢;obtain rfl:k=0:=by simpa using G
   show dz X (1080+8*U.toNat)=_;rw[Vn,aA y]
def rN (w:World) (b y:Nat) (B:List Int) (ps:List (Int×Int)) (i:Int) (n:bN) (e:Ending) (w':World):Prop:=
 ∃r qs h,e= .returned (.int .i64 r)/\(h=y\/(w.heap.size<=h/\h<w'.heap.size))/\eT w' b h B (ps++qs)/\ay [b,y] w w'/\qs.length<=200/\
  ((r=1/\¬DD i n/\qs=[])\/(r=7/\DD i n/\(bp (az B ps)).length<ez n/\qs=[])\/
   (r=0/\DD i n/\ez n<=(bp (az B ps)).length/\qs=mP (az B ps) i.toNat n ((bp (az B ps)).take (ez n))))
theorem rO:∀c∈(bp X).take m,c≠0/\c<256:=λc h=>by
 have :=ka.1 (bQ h);exact⟨this.2.1,this.1⟩
theorem yV:((bp X).take m).Nodup:=List.Sublist.nodup (List.take_sublist _ _) (oD X 256)
theorem rP (h:m<=(bp X).length):((bp X).take m).length=m:=by rw[aI,cA h]
theorem OS (y:aY n.E.length<=6)(h:∀c∈own,c≠0/\c<256)(z:own.length<=7):(mP X i n own).length<=200:=by
 unfold mP rJ nv;rw[aD,aD,aD,o8 _ _ h,uw,np];split
 ·rw[np];omega
 ·simp only[b9];omega
theorem VM (h:eT w b G B ps)(J:In64 (az B ps))(hT:lC w)(Dn:G<w.heap.size)(U:ps.length<=800000)(i:Int)(n:bN)(v:Value)(g:Nat)(hB:n.B.length=13)(W:br w v g n.E)
  (Z:∀k,k<n.E.length->(dZ n.E k).size<=9223372036854775807) (V:n.E.length≠0->g≠b/\g≠G):
  Calls prog 172 #[.pointer (some ⟨b,0,none⟩),.int .i64 i,.agg (aU n v)] w (rN w b G B ps i n):=by
 by_cases y:DD i n
 ·by_cases hn:ez n<=(bp (az B ps)).length
  ·refine(YU h J hT Dn U i n v g hB W Z y V hn).mono λe w' z=> ?_
   obtain⟨z,ib,h1,h2,h3⟩:=z;have aa:=iZ y.2.2;have ac:=rM n;exact⟨0,_,ib,z,h1,h2,h3,OS aa.2.1 rO (by rw[rP hn];omega),.inr (.inr ⟨rfl,y,hn,rfl⟩)⟩
  ·refine(OD h J i n v g hB W Z y (by omega)).mono λe w' z=> ?_
   exact⟨7,[],G,z.1,.inl rfl,by rw[bq];exact h.keep z.2 (by simp) (by simp),z.2.mono (by simp),by simp,.inr (.inl ⟨rfl,y,by omega,rfl⟩)⟩
 ·refine(Vz i n v g hB W Z y).mono λe w' z=> ?_
  exact⟨1,[],G,z.1,.inl rfl,by rw[bq];exact h.keep z.2 (by simp) (by simp),z.2.mono (by simp),by simp,.inl ⟨rfl,y,rfl⟩⟩
theorem uA{h:Array Value}(z:bf w g h 111)(G:h.size=18)(y:n.B.length=13){v:Value}(J:v.oneCell'=true):
  ∃w',(storeVar 111 ⟨g,0,none⟩ (.agg (aU n v))).run prog w= .ok () w'/\bf w' g (aU n v) 111/\ay [g] w w':=
 bo (P:= prog) (ty:= 111) (cs:=mr n v) (by rw[fT,y];exact iH) z (by rw[G,fT,y]) (jD J)
theorem qP (h:br w v g E):v.oneCell'=true:=by
 obtain⟨a,cap,rfl,-⟩:=h;rfl
theorem SC (z:In64 X)(J:X.length=3128){i:Int}{n:bN}(G:n.B.length=13)(h:DD i n)(Z:ez n<=(bp X).length):
  Cm (az X (mP X i.toNat n ((bp X).take (ez n)))) (824+8*i.toNat) n ((bp X).take (ez n))/\In64 (az X (mP X i.toNat n ((bp X).take (ez n))))/\
  (∀k,820<=k->¬(824+8*i.toNat<=k/\k<824+8*i.toNat+8)->¬(1080<=k/\(k-1080)/8∈(bp X).take (ez n))->(az X (mP X i.toNat n ((bp X).take (ez n)))).getD k 0=X.getD k 0):=by
 have y:=iZ h.2.2;have aa:=rM n;have V:=rP Z;have hi:=h.1;refine⟨?_,Zg z J G h.2.2 (by omega) rO,λk W h1 U=>OL (by omega) rO W U (by omega)⟩;unfold mP;rw[bJ];exact Sw (by rw[bY,J]) _ (by omega) G y.2.1 (by omega) (by omega) yV rO
theorem In64.of_mem(h:∀x,x∈l->0<=x/\x<18446744073709551616):In64 l:=λi=>by
 rw[aj];by_cases y:i<l.length
 ·rw[aF y]
  exact h _ (bA y)
 ·rw[aP (by omega)]
  simp
theorem I4 (l:List Int):∀f e,mh l f e<=e+f
 |0,e=>aG _
 |f+1,e=>by
  unfold mh;split
  ·have :=I4 l f (e+1);omega
  ·omega
theorem Cr {l:List Int}{x:Int}:∀{k:Nat},x∈fc l k->∃j,j<k/\tE l j/\x=qC j (l.getD j 0) (ov l j)
 |0,h=>by simp[fc] at h
 |k+1,h=>by
  unfold fc at h;split at h
  ·rename_i hs
   rcases aR.1 h with h|h
   ·obtain⟨j,z,y⟩:=Cr h
    exact⟨j,by omega,y⟩
   ·rw[au] at h
    exact⟨k,by omega,hs,h⟩
  ·obtain⟨j,z,y⟩:=Cr h
   exact⟨j,by omega,y⟩
theorem AW (h:x∈eO l):0<=x/\x<9223372036854775808:=by
 obtain⟨j,J,z,rfl⟩:=Cr h;have y:=z.1;have G:=I4 l 13 (j+1);unfold Ai at y;unfold qC ov;omega
theorem Lh (y:∀c∈own,c≠0/\c<256)(k:Nat):own.getD k 0<256:=by
 by_cases h:k<own.length
 ·exact(y _ (iI h)).2
 ·rw[aj,aP (by omega)]
  decide
theorem VN (U:bR n)(J:∀c∈own,c≠0/\c<256):In64 (lJ n own):=by
 obtain⟨W,V,t3,Z⟩:=qa U;have z:0<=mA n/\mA n<18446744073709551616:=by unfold mA;omega
 have G:0<=n.S/\n.S<18446744073709551616:=by omega
 refine In64.of_mem λx h=> ?_
 unfold lJ at h;split at h
 ·have y:∀q,0<=vV n.E own 4 0 q/\vV n.E own 4 0 q<18446744073709551616:=λq=>by
   unfold vV hdD;have h1:=Lh J (eY n.E q);split
   ·split<;>omega
   ·split<;>omega
  simp only[Ce,og,aQ,aS,bD] at h;rcases h with rfl|rfl|rfl|rfl|rfl|rfl|rfl|rfl
  ·exact z
  ·exact G
  ·exact y 0
  ·exact y 1
  ·exact y 2
  ·exact y 3
  ·omega
  ·omega
 ·unfold kP at h
  split at h
  ·rcases aQ.1 h with rfl|h
   ·exact z
   ·rcases aQ.1 h with rfl|h
    ·exact G
    ·rcases aR.1 h with h|h
     ·have :=AW h;omega
     ·have :=List.eq_of_mem_replicate h;omega
  ·rcases aQ.1 h with rfl|h
   ·exact z
   ·rcases aQ.1 h with rfl|h
    ·exact G
    ·rcases aR.1 h with h|h
     ·have :=AW (bQ h);omega
     ·rw[au] at h
      have :=Lh J 0;omega
theorem Li (hR:bR n)(W:∀c∈own,c≠0/\c<256)(m:Nat):In64 ((fE n own).getD m []):=by
 by_cases z:m<(fE n own).length
 ·unfold fE at z ⊢
  split at z
  ·rename_i hK
   rw[aB hK];have J:mz n:=(hR.2.2.resolve_left (λh=>by have :=h.1;omega)).2;rw[mn] at z;obtain⟨b,j,U,V,rfl⟩:=qI n.E z;rw[oP n.E own V U];intro y;cases y with
   |zero=>
    show 0<=(if j+1<dN n.E b then ((own.getD (eY n.E b+(j+1)) 0:Nat):Int) else 0)/\(if j+1<dN n.E b then ((own.getD (eY n.E b+(j+1)) 0:Nat):Int) else 0)<_;have :=Lh W (eY n.E b+(j+1));split<;>omega
   |succ y=>
    rw[RV,ml];by_cases hy:y<7
    ·rw[IQ _ _ _ hy]
     split
     ·rename_i hc
      split
      ·have :=IZ (dZ (dF n.E b) (3*j+y/2));omega
      ·obtain⟨k,Z,-,e2⟩:=AR hc.1
       rw[e2];have :=(J.2.2.2 k Z).2.1;omega
     ·omega
    ·rw[aj,aP (by rw[jr,lq];omega)]
     simp
  ·rename_i hK
   rw[aA hK];unfold jd at *;split
   ·simp[In64]
   ·refine In64.of_mem λx G=> ?_
    rename_i h6
    rw[aA h6] at z;obtain rfl:m=0:=by simpa using z
    have G:x∈(eO n.B).drop 5++List.replicate (13-(eO n.B).length) 0:=G;rcases aR.1 G with G|G
    ·have :=AW (List.mem_of_mem_drop G);omega
    ·have :=List.eq_of_mem_replicate G;omega
 ·rw[aj,aP (by omega)]
  simp[In64]
theorem qQ{p:Int×Int}{Ls:List (List Int)}(h:p∈qb Ls own k):∃m j,m<k/\j<8/\p.1.toNat=1080+8*own.getD m 0+j/\p.2=(Ls.getD m []).getD j 0:=by
 unfold qb at h;obtain⟨m,y,h⟩:=List.mem_flatMap.1 h;rw[bP] at y;obtain⟨j,G,J,z⟩:=lu h;exact⟨m,j,y,G,J,z⟩
theorem VO (y:X.length=3128){Ls:List (List Int)}{own:List Nat}(J:∀m,m<own.length->(Ls.getD m []).length=8)(W:own.Nodup)(z:∀c∈own,c≠0/\c<256):∀k,k<=own.length->∀m,m<k->dz (az X (qb Ls own k)) (1080+8*own.getD m 0)=Ls.getD m []:=by
 intro k;induction k with
 |zero=>intro _ m h;omega
 |succ k ih=>
  intro Z m V;have G:=z _ (iI (show k<own.length by omega));have U:=z _ (iI (show m<own.length by omega));rw[vY,bJ];by_cases e:m=k
  ·subst e
   exact nN (by rw[bY,y]) _ (by omega) (J m (by omega))
  ·have :own.getD m 0≠own.getD k 0:=λh=>e (getD_inj W (by omega) (by omega) h)
   rw[nO (by rw[bY,y]) _ _ (by omega) (by omega)];exact ih (by omega) m (by omega)
theorem OT (Z:In64 X)(U:X.length=3128){i:Int}{n:bN}(z:tP i n)(hn:dS n<=(bp X).length):
  mQ (az X (kI X i.toNat n ((bp X).take (dS n)))) (dz (az X (kI X i.toNat n ((bp X).take (dS n)))) (824+8*i.toNat)) n ((bp X).take (dS n))/\In64 (az X (kI X i.toNat n ((bp X).take (dS n))))/\
  (∀k,820<=k->¬(824+8*i.toNat<=k/\k<824+8*i.toNat+8)->¬(1080<=k/\(k-1080)/8∈(bp X).take (dS n))->(az X (kI X i.toNat n ((bp X).take (dS n)))).getD k 0=X.getD k 0):=by
 have W:=rP hn;have hi:=z.1;have G:∀c∈(bp X).take (dS n),c≠0/\c<256:=rO;have aa:((bp X).take (dS n)).Nodup:=yV;generalize (bp X).take (dS n)=own at *;have h8:∀m,m<own.length->((fE n own).getD m []).length=8:=λm V=>rK (by rw[tO z.2.2 W];exact V)
 refine⟨?_,?_,λk hk h1 h2=> ?_⟩
 ·unfold kI
  rw[bJ,bJ];refine⟨λm V=> ?_,(nN (by rw[bY,bY,U]) _ (by omega) (xz n own)).symm⟩;have ac:=G _ (iI V);rw[nO (by rw[bY,bY,U]) _ _ (by omega) (by omega)];exact(VO (by rw[bY,U]) h8 aa G _ (aG _) m V).symm
 ·unfold kI
  rw[bJ];refine(mD own X Z U G).1.put λp y=> ?_
  rcases aR.1 y with y|y
  ·obtain⟨m,j,-,-,-,h⟩:=qQ y
   rw[h];exact Li z.2.2 G m j
  ·obtain⟨j,-,-,h⟩:=lu y
   rw[h];exact VN z.2.2 G j
 ·refine iy _ _ _ λp y J=> ?_
  unfold kI at y;rcases aR.1 y with y|y
  ·rcases Cn _ _ G y with h|h
   ·omega
   ·rw[J] at h;exact h2 h
  ·rcases aR.1 y with y|y
   ·obtain⟨m,j,h3,h4,h5,-⟩:=qQ y
    refine h2 ⟨by omega,?_⟩;rw[<-J,h5,show(1080+8*own.getD m 0+j-1080)/8=own.getD m 0 by omega];exact iI h3
   ·obtain⟨j,h4,h5,-⟩:=lu y
    exact h1 ⟨by omega,by omega⟩
def pE (w:World) (b y:Nat) (B:List Int) (ps:List (Int×Int)) (i:Int) (n:bN) (e:Ending) (w':World):Prop:=
 ∃r qs h,e= .returned (.int .i64 r)/\(h=y\/(w.heap.size<=h/\h<w'.heap.size))/\eT w' b h B (ps++qs)/\ay [b,y] w w'/\qs.length<=600/\
  ((r=1/\¬tP i n/\qs=[])\/(r=7/\tP i n/\(bp (az B ps)).length<dS n/\qs=[])\/
   (r=0/\tP i n/\dS n<=(bp (az B ps)).length/\qs=kI (az B ps) i.toNat n ((bp (az B ps)).take (dS n))))
theorem Lj (h:∀c∈own,c≠0/\c<256)(y:own.length<=32):(kI X i n own).length<=600:=by
 unfold kI;rw[aD,aD,o8 _ _ h,yS,np];omega
theorem SD (h:eT w b G B ps)(J:In64 (az B ps))(hT:lC w)(Dn:G<w.heap.size)(W:ps.length<=800000)(i:Int)(n:bN)(v:Value)(g:Nat)(U:n.B.length=13)(V:br w v g n.E)
  (hN:∀k,k<n.E.length->(dZ n.E k).size<=9223372036854775807) (Z:n.E.length≠0->g≠b/\g≠G):
  Calls prog 174 #[.pointer (some ⟨b,0,none⟩),.int .i64 i,.agg (aU n v)] w (pE w b G B ps i n):=by
 by_cases y:tP i n
 ·by_cases hn:dS n<=(bp (az B ps)).length
  ·refine(VB h J hT Dn W i n v g U V hN y Z hn).mono λe w' z=> ?_
   obtain⟨z,ib,h1,h2,h3⟩:=z;exact⟨0,_,ib,z,h1,h2,h3,Lj rO (by rw[rP hn];exact Cj y.2.2),.inr (.inr ⟨rfl,y,hn,rfl⟩)⟩
  ·refine(K9 h J i n v g U V hN y (by omega)).mono λe w' z=> ?_
   exact⟨7,[],G,z.1,.inl rfl,by rw[bq];exact h.keep z.2 (by simp) (by simp),z.2.mono (by simp),by simp,.inr (.inl ⟨rfl,y,by omega,rfl⟩)⟩
 ·refine(Sf i n v g U V hN y).mono λe w' z=> ?_
  exact⟨1,[],G,z.1,.inl rfl,by rw[bq];exact h.keep z.2 (by simp) (by simp),z.2.mono (by simp),by simp,.inl ⟨rfl,y,rfl⟩⟩
theorem Zh (h: -9223372036854775808<=x)(y:x<9223372036854775808):wrap64 x=x:=by unfold wrap64;omega
theorem AX (h:0<=x)(y:x<18446744073709551616):IntKind.u64.wrap x=x:=by
 simp[IntKind.wrap,IntKind.bits,IntKind.signed];omega
def qc (l:List Int) (p b:Nat):Nat->List Int
 |0=>l
 |j+1=>(qc l p b j).set (p+j) (((b+j:Nat):Int))
theorem uB (l:List Int)(p b:Nat):∀j,(qc l p b j).length=l.length
 |0=>rfl
 |j+1=>by unfold qc;rw[dW,uB l p b j]
def je (L:List Int):Nat->Option (List Int)
 |0=>some (List.replicate 13 0)
 |k+1=>match je L k with
  |none=>none
  |some l=>if 13<(L.getD k 0).toNat/4294967296+(L.getD k 0).toNat%256 then none
   else some (qc l ((L.getD k 0).toNat/4294967296) ((L.getD k 0).toNat/256%16777216) ((L.getD k 0).toNat%256))
theorem zP {L:List Int}{k:Nat}(h:je L k=none):∀n,k<=n->je L n=none
 |0,hn=>by have :k=0:=by omega
           subst this;exact h
 |n+1,hn=>by
  by_cases e:k=n+1
  ·subst e;exact h
  ·unfold je
   rw[zP h n (by omega)]
theorem rQ {L:List Int}:∀{k:Nat} {l:List Int},je L k=some l->l.length=13
 |0,l,h=>by cases h;simp
 |k+1,l,h=>by
  unfold je at h;split at h
  ·cases h
  ·rename_i l0 h0
   split at h
   ·cases h
   ·cases h
    rw[uB,rQ h0]
theorem run_parts(x:Nat)(h:x<18446744073709551616):bits .and .u64 ((x:Int)/256) 16777215=((x/256%16777216:Nat):Int)/\bits .and .u64 (x:Int) 255=((x%256:Nat):Int):=by
 have y:=Nat.div_le_self x 256;constructor
 ·rw[show(x:Int)/256=((x/256:Nat):Int) by omega,show(16777215:Int)=((16777215:Nat):Int) from rfl,fZ (x/256) 16777215 (by omega) (by omega),show x/256 &&& 16777215=x/256%2^24 from df _ 24]
 ·rw[show(255:Int)=((255:Nat):Int) from rfl,fZ x 255 h (by omega),show x &&& 255=x%2^8 from df x 8]
theorem tQ{fn:Func}{tmps:Array Value}{a t:Nat}{z:Addr}{x:Value}(h:fn.results= #[.cell a t,.tmp b])(G:tmps.getD a undef= .pointer (some z))(J:(loadVar t z).run P w= .ok v w)
  (y:tmps.getD b undef=x):(results fn tmps).run P w= .ok (.tuple #[v,x]) w:=by
 rw[gJ] at G y;unfold results;rw[h];simp[G,rB,J,y]
def Cs (w:World) (L:List Int) (e:Ending) (w':World):Prop:=
 ∃l ok,e= .returned (.tuple #[.agg (zs l).toArray,.bool ok])/\l.length=13/\(ok=true->je L L.length=some l)/\(ok=false->je L L.length=none/\l=List.replicate 13 0)/\ay [] w w'
theorem Ll (x P N C:Nat)(z:x<18446744073709551616)(V:P=x/4294967296)(G:N=x/256%16777216)(U:C=x%256):
  ∃h:Int,(x:Int)/4294967296=(P:Int)/\bits .and .u64 ((x:Int)/256) 16777215=(N:Int)/\bits .and .u64 (x:Int) 255=(C:Int)/\(P:Int)+(C:Int)=h/\IntKind.u64.wrap h=h/\(13<P+C↔13<h)/\P<4294967296/\N<16777216/\C<256:=by
 obtain⟨J,y⟩:=run_parts x z;refine⟨(P:Int)+(C:Int),by omega,by rw[G];exact J,by rw[U];exact y,rfl,AX (by omega) (by omega),by omega,by omega,by omega,by omega⟩
theorem Lm (P N C k:Nat)(z:P+C<=13)(G:k<C)(J:N<16777216):∃y h:Int,(P:Int)+(k:Int)=y/\IntKind.u64.wrap y=y/\0<=y/\y<13/\y.toNat=P+k/\(N:Int)+(k:Int)=h/\IntKind.u64.wrap h=h/\wrap64 h=h/\h=((N+k:Nat):Int):=
 ⟨(P:Int)+(k:Int),(N:Int)+(k:Int),rfl,AX (by omega) (by omega),by omega,by omega,by omega,rfl,AX (by omega) (by omega),Zh (by omega) (by omega),by omega⟩
theorem I5{L:List Int}(h:Reads w v g (aO L))(hL:L.length<=100)(aj:∀k,0<=L.getD k 0/\L.getD k 0<18446744073709551616):
  Calls prog 223 #[v] w (Cs w L):=by
 obtain⟨a,cap,rfl,h1,h2,HC⟩:=gy h;have ah:=mH;have oL:Hid (bf ((w.alloc (.cells (zs (List.replicate 13 0)).toArray 109)).alloc (.cells (zs (List.replicate 13 0)).toArray 109)) w.heap.size (zs (List.replicate 13 0)).toArray 109):=(bf.new w _ _).alloc _;have vv:Hid (bf ((w.alloc (.cells (zs (List.replicate 13 0)).toArray 109)).alloc (.cells (zs (List.replicate 13 0)).toArray 109)) (w.heap.size+1) (zs (List.replicate 13 0)).toArray 109):=by
  have :=bf.new (w.alloc (.cells (zs (List.replicate 13 0)).toArray 109)) (zs (List.replicate 13 0)).toArray 109;have e:(w.alloc (.cells (zs (List.replicate 13 0)).toArray 109)).heap.size=w.heap.size+1:=by simp
  rw[e] at this;exact this
 have gH:Hid (ay [] w ((w.alloc (.cells (zs (List.replicate 13 0)).toArray 109)).alloc (.cells (zs (List.replicate 13 0)).toArray 109))):=((ay.refl _ _).alloc _).alloc _;have uo:Hid (∀J l,l.length=13->bf J w.heap.size (zs (List.replicate 13 0)).toArray 109->∃w',(storeVar 109 ⟨w.heap.size,0,none⟩ (.agg (zs l).toArray)).run prog J= .ok () w'/\(loadVar 109 ⟨w.heap.size,0,none⟩).run prog w'= .ok (.agg (zs l).toArray) w'/\ay [w.heap.size] J w'):=λJ l hl hb=>by
  obtain⟨w',q1,q2,q3⟩:=bo (P:= prog) (ty:= 109) (cs:=zs l) (by rw[dG,hl];exact jC) hb (by simp[dG,hl]) (kD _);exact⟨w',q1,eN (off:=0) q2 hl (λk hk=>by rw[aV,aC,fp (by omega)]),q3⟩
 have sD:=ar aj;clear h aj;generalize hn:L.length=n at *;have HN:=ar hn;clear hn;generalize ai:(zs (List.replicate 13 0)).toArray=Z0 at *;have AY:=ar ai;clear ai;go_enter func223,ntmps223;go_wp2_with fail;go_loopg [13] n (λgh s13 J=>∃(k:Nat) (l:List Int),k+gh=n/\s13= .int .i64 (k:Int)/\Hid (je L k=some l/\bf J (w.heap.size+1) (zs l).toArray 109/\bf J w.heap.size Z0 109/\ay [] w J))
 case atStart=>exact⟨0,List.replicate 13 0,by omega,rfl,rfl,by rw[AY.out];exact vv.out,oL.out,gH.out⟩
 case round=>
  clear oL vv gH;obtain⟨k,l,hk,rfl,HP⟩:=hrel;obtain⟨qh,z,G,V⟩:=HP.out;have pF:=rQ qh;cases gk with
  |zero=>
   obtain rfl:k=n:=by omega
   have HL:=ar (eN (off:=0) z pF (λk hk=>by rw[aV,aC,fp (by omega)]));obtain⟨w2,hS,oa,U⟩:=uo.out wr l pF G;have HS:=ar hS;have nC:=ar oa;have HF:Hid (Cs w L (.returned (.tuple #[.agg (zs l).toArray,.bool true])) w2):=⟨l,true,rfl,pF,λ_=>by rw[HN.out];exact qh,λh=>(by cases h),V.trans U (by simp)⟩;clear HP qh z G V hS oa U hk ah;go_wp2_with(first|(with_reducible refine gL 109 HL.out ?_)|(with_reducible refine gS 109 HS.out ?_));exact aL (tQ results223 rfl nC.out rfl) rfl HF.out
  |succ gg=>
   have av:k<n:=by omega
   have aG:(k:Int)<(n:Int):=by omega
   have eo:(0:Int)<=(k:Int):=by omega
   obtain⟨ak,off,rfl,c0⟩:=HC.out k av;have d0:=(aK (w:=w) (a:=⟨g,off+k,none⟩) (V.block g ak (by simp))).trans c0;have ax:=sD.out k;obtain⟨x,hx⟩:∃x:Nat,L.getD k 0=(x:Int):=⟨(L.getD k 0).toNat,by omega⟩;have af:(L.getD k 0).toNat=x:=by omega
   have Kb:Hid (je L (k+1)=if 13<x/4294967296+x%256 then none else some (qc l (x/4294967296) (x/256%16777216) (x%256))):=by
    show _=_;rw[je,qh,af]
   rw[hx] at d0;obtain⟨P,hP⟩:∃P,P=x/4294967296:=⟨_,rfl⟩;obtain⟨N,Z⟩:∃N,N=x/256%16777216:=⟨_,rfl⟩;obtain⟨C,W⟩:∃C,C=x%256:=⟨_,rfl⟩;obtain⟨si,q1,q2,q3,q4,q5,q6,q7,q8,q9⟩:=Ll x P N C (by omega) hP Z W;rw[<-hP,<-Z,<-W] at Kb;have iA:=ar V;have oL:=ar G;have vv:=ar z;clear hP Z W c0 hx af ax HP qh z G V;by_cases ac:13<si
   ·have jc:Hid (je L n=none):=zP (by rw[Kb.out,aB (q6.2 ac)]) n (by omega)
    obtain⟨w2,hS,oa,U⟩:=uo.out wr (List.replicate 13 0) (by simp) oL.out;rw[AY.out] at hS oa;have HS:=ar hS;have nC:=ar oa;have HF:Hid (Cs w L (.returned (.tuple #[.agg Z0,.bool false])) w2):=⟨List.replicate 13 0,false,by rw[AY.out],by simp,λh=>(by cases h),λ_=>⟨by rw[HN.out];exact jc.out,rfl⟩,iA.out.trans U (by simp)⟩;clear hS oa U q6 q7 q8 q9;go_wp2_with(with_reducible refine gS 109 HS.out ?_);exact aL (tQ results223 rfl nC.out rfl) rfl HF.out
   ·have aD:P+C<=13:=by
     have :¬13<P+C:=λh=>ac (q6.1 h)
     omega
    have kR:Hid (je L (k+1)=some (qc l P N C)):=by
     show _=_;rw[Kb.out,aA (by omega)]
    clear q6 Kb;go_wp2_with fail;clear d0 q1 q2 q3 q4 q5 ah;go_loopg [30] C (λgh s30 J=>∃j:Nat,j+gh=C/\s30= .int .u64 (j:Int)/\Hid (bf J (w.heap.size+1) (zs (qc l P N j)).toArray 109/\bf J w.heap.size Z0 109/\ay [] w J))
    case atStart=>exact⟨0,by omega,rfl,vv.out,oL.out,iA.out⟩
    case round=>
     clear vv oL iA;obtain⟨j,hj,rfl,HQ⟩:=hrel;cases gk with
     |zero=>
      obtain rfl:j=C:=by omega
      have aa:=ar HQ.out;clear HQ hj;go_wp2_with fail;go_roundg gg;case measure=>omega
      case rel=>exact⟨k+1,_,by omega,by go_num,kR.out,aa.out.1,aa.out.2.1,aa.out.2.2⟩
     |succ gk=>
      have az:j<C:=by omega
      have aH:(j:Int)<(C:Int):=by omega
      have zz:(0:Int)<=(j:Int):=by omega
      obtain⟨ji,vi,r1,r2,r3,r4,r5,r6,r7,r8,r9⟩:=Lm P N C j aD az q8;obtain⟨z,G,V⟩:=HQ.out;have ae:(qc l P N j).length=13:=by rw[uB];exact pF
      have au:wr.cell? ⟨w.heap.size+1,P+j,none⟩=some (.int .i64 ((qc l P N j).getD (P+j) 0)):=by rw[z.cell,aC,fp (by omega)]
      have aF:wr.frozen? ⟨w.heap.size+1,P+j,none⟩=false:=z.frozen _;have HR:Hid (bf (wr.setCell ⟨w.heap.size+1,P+j,none⟩ (.int .i64 vi)) (w.heap.size+1) (zs (qc l P N (j+1))).toArray 109/\bf (wr.setCell ⟨w.heap.size+1,P+j,none⟩ (.int .i64 vi)) w.heap.size Z0 109/\ay [] w (wr.setCell ⟨w.heap.size+1,P+j,none⟩ (.int .i64 vi))):=by
       refine⟨?_,G.other (by simp) _,V.setCell (.inr (by show w.heap.size<=w.heap.size+1;omega)) _⟩;have :=z.set (P+j) (.int .i64 vi);rw[ag,KE,r9] at this;rw[r9];exact this
      clear HQ z G V ae r9;generalize (qc l P N j).getD (P+j) 0=y at *;have aI:IntKind.u64.wrap ((j:Int)+1)=(j:Int)+1:=AX (by omega) (by omega);go_wp2_with fail;go_roundg gk;case measure=>omega
      case rel=>exact⟨j+1,by omega,by go_num,HR.out⟩
theorem Ct (l:List Int):∀f e,e<=mh l f e
 |0,e=>aG _
 |f+1,e=>by
  unfold mh;split
  ·have :=Ct l f (e+1);omega
  ·omega
theorem vZ (l:List Int):∀f e i,e<=i->i<mh l f e->jY l i
 |0,e,i,h1,h2=>by unfold mh at h2;omega
 |f+1,e,i,h1,h2=>by
  unfold mh at h2;split at h2
  ·rename_i hc
   by_cases h:i=e
   ·subst h;exact hc
   ·exact vZ l f (e+1) i (by omega) h2
  ·omega
theorem Cu (l:List Int):∀f e,13<=e+f->¬jY l (mh l f e)
 |0,e,h=>by
  unfold mh;exact λy=>by have :=y.2.1;omega
 |f+1,e,h=>by
  unfold mh;split
  ·exact Cu l f (e+1) (by omega)
  ·assumption
theorem SE (l:List Int)(f e:Nat)(h:e<=13):mh l f e<=13:=by
 by_cases y:mh l f e=e
 ·omega
 ·have z:=Ct l f e
  have :=(vZ l f e (mh l f e-1) (by omega) (by omega)).2.1;omega
def VP (l:List Int) (k j:Nat):Prop:=∃s,s<k/\tE l s/\s<=j/\j<s+ov l s
theorem nP (l:List Int){s:Nat}(y:s<13):1<=ov l s/\s+ov l s<=13/\s+ov l s=mh l 13 (s+1):=by
 have z:=Ct l 13 (s+1);have h:=SE l 13 (s+1) (by omega);unfold ov;omega
theorem VQ{s j:Nat}(J:s<13)(G:s<=j)(y:j<s+ov l s):l.getD j 0=l.getD s 0+((j-s:Nat):Int):=by
 obtain⟨-,-,z⟩:=nP l J;rw[z] at y;exact U2 (λi U h=>vZ l 13 (s+1) i (by omega) h) j G y
theorem VR:∀j,j<13->Ai (l.getD j 0)->VP l (j+1) j:=by
 intro j;induction j with
 |zero=>
  intro _ z;refine⟨0,by omega,⟨z,λh=>by have :=h.1;omega⟩,by omega,?_⟩;have :=(nP l (show 0<13 by omega)).1;omega
 |succ j ih=>
  intro V z;by_cases G:jY l (j+1)
  ·have y:=G.2.2.2.1
   rw[fO] at y;obtain⟨s,h1,J,h3,h4⟩:=ih (by omega) y;obtain⟨-,-,Z⟩:=nP l (show s<13 by omega);refine⟨s,by omega,J,by omega,?_⟩;rw[Z] at h4 ⊢;refine Nat.lt_of_not_le λU=> ?_
   have W:mh l 13 (s+1)=j+1:=by omega
   have :=Cu l 13 (s+1) (by omega);rw[W] at this;exact this G
  ·refine⟨j+1,by omega,⟨z,G⟩,by omega,?_⟩
   have :=(nP l V).1;omega
theorem Cv (A C:List Int):∀k,k<=A.length->je (A++C) k=je A k
 |0,_=>rfl
 |k+1,h=>by
  unfold je;rw[Cv A C k (by omega),aj,aj,bg (by omega)]
theorem yX (l:List Int)(p b:Nat):∀c,p+c<=l.length->∀j,(qc l p b c).getD j 0=if p<=j/\j<p+c then ((b+(j-p):Nat):Int) else l.getD j 0
 |0,_,j=>by rw[aA (by omega)];rfl
 |c+1,h,j=>by
  rw[qc,wU,uB,yX l p b c (by omega)];by_cases e:p+c=j
  ·subst e
   rw[aB ⟨rfl,by omega⟩,aB ⟨by omega,by omega⟩,cO]
  ·rw[aA (by omega)]
   by_cases y:p<=j/\j<p+c
   ·rw[aB y,aB ⟨y.1,by omega⟩]
   ·rw[aA y,aA (by omega)]
theorem Lp (k b n:Nat)(y:k<256)(h:b<256)(z:n<256):(qC k (b:Int) n).toNat/4294967296=k/\(qC k (b:Int) n).toNat/256%16777216=b/\(qC k (b:Int) n).toNat%256=n:=by
 have e:(qC k (b:Int) n).toNat=k*4294967296+b*256+n:=by unfold qC;omega
 rw[e];omega
theorem OU (B:List Int):∀k,k<=13->∃l,je (fc B k) (fc B k).length=some l/\(∀j,VP B k j->l.getD j 0=B.getD j 0)/\∀j,¬VP B k j->l.getD j 0=0:=by
 intro k;induction k with
 |zero=>
  intro _;refine⟨List.replicate 13 0,rfl,λj h=> ?_,λj _=> ?_⟩
  ·obtain⟨s,U,-⟩:=h
   omega
  ·rw[aj,bb]
   split<;>rfl
 |succ k ih=>
  intro hk;obtain⟨l,U,h2,h3⟩:=ih (by omega);by_cases J:tE B k
  ·obtain⟨f1,f2,-⟩:=nP B (show k<13 by omega)
   obtain⟨b,hb⟩:∃b:Nat,B.getD k 0=(b:Int):=⟨(B.getD k 0).toNat,by have :=J.1;unfold Ai at this;omega⟩;have W:b<256:=by have :=J.1;unfold Ai at this;omega
   obtain⟨p1,p2,p3⟩:=Lp k b (ov B k) (by omega) W (by omega);have hl:=rQ U;have hg:(fc B k++[qC k (B.getD k 0) (ov B k)]).getD (fc B k).length 0=qC k (b:Int) (ov B k):=by rw[hb];simp
   refine⟨qc l k b (ov B k),?_,λj z=> ?_,λj z=> ?_⟩
   ·rw[fc,aB J,aD,iT,je,Cv _ _ _ (aG _),U,hg,p1,p2,p3]
    show(if 13<k+ov B k then none else some _)=_;rw[aA (by omega)]
   ·rw[yX _ _ _ _ (by omega)]
    by_cases y:k<=j/\j<k+ov B k
    ·rw[aB y,VQ (by omega) y.1 y.2,hb]
     omega
    ·rw[aA y]
     obtain⟨s,Z,G,V,g4⟩:=z;refine h2 j ⟨s,?_,G,V,g4⟩;rcases (show s<k\/s=k by omega) with h|h
     ·exact h
     ·subst h;exact absurd ⟨V,g4⟩ y
   ·rw[yX _ _ _ _ (by omega),aA (λy=>z ⟨k,by omega,J,y.1,y.2⟩)]
    exact h3 j λ⟨s,Z,G⟩=>z ⟨s,by omega,G⟩
  ·refine⟨l,?_,λj z=> ?_,λj z=> ?_⟩
   ·rw[fc,aA J];exact U
   ·obtain⟨s,Z,G,V⟩:=z
    refine h2 j ⟨s,?_,G,V⟩;rcases (show s<k\/s=k by omega) with h|h
    ·exact h
    ·subst h;exact absurd G J
   ·exact h3 j λ⟨s,Z,G⟩=>z ⟨s,by omega,G⟩
theorem xE (A:List Int){l:List Int}(h:je A A.length=some l):∀z,je (A++List.replicate z 0) (A.length+z)=some l
 |0=>by simpa using h
 |z+1=>by
  have y:=xE A h z;have G:(A++List.replicate (z+1) (0:Int)).getD (A.length+z) 0=0:=by
   rw[aj,aT (by omega),bb];split<;>rfl
  have e:A++List.replicate (z+1) (0:Int)=(A++List.replicate z 0)++[0]:=by rw[List.replicate_succ',ba]
  show je _ (A.length+z+1)=_;rw[je,G,e,Cv _ _ _ (by simp),y];rfl
theorem Cw (Z:B.length=13)(W:∀k,k<13->0<=B.getD k 0/\B.getD k 0<256)(z:Nat):je (eO B++List.replicate z 0) ((eO B).length+z)=some B:=by
 obtain⟨l,G,J,U⟩:=OU B 13 (aG _);have hl:=rQ G;have e:l=B:=zB (by omega) λj hj=>by
  by_cases h:VP B 13 j
  ·exact J j h
  ·rw[U j h]
   by_cases y:Ai (B.getD j 0)
   ·obtain⟨s,g1,V⟩:=VR j (by omega) y
    exact absurd ⟨s,by omega,V⟩ h
   ·have :=W j (by omega)
    unfold Ai at y;omega
 subst e;exact xE (eO l) G z
theorem jV (t T ty:TypeId)(i:TypeInfo)(z:Value)(size bytes:Nat)(ht:P.underlying t=some (.slice T))(hi:P.info? T=some i)(hz:i.zero=some z)(ah:i.size=size)(ae:i.bytes=bytes)(af:z.cells.size=size)(ac:0<size)
  (y n:Nat) (v:Value) (xs:List Value) (G:w.ownsRow y T size v n xs) (a:Option Addr) (m c:Nat) (U:List Value) (hl:U.length=m*size) (hc:m≠0->∃Z,a=some Z/\∀j u,U[j]? =some u->w.cell? (Z.add j)=some u) (h1:∀u∈U,u.oneCell'=true)
  (aa:n+m<=maxLen) (J:(n+m)*bytes<=140737488355328) (V:y<=w.heap.size):
  ∃v' w',(Builtin.append_ #[t,t] ty #[v,.slice a m c]).run P w= .ok v' w'/\w'.ownsRow y T size v' (n+m) (xs++U)/\w.grownBy w' v.ownBlock:=by
 cases a with
 |none=>
  have h0:m=0:=by
   rcases eK m with h|h
   ·exact h
   ·obtain⟨Z,e,-⟩:=hc (by omega);cases e
  subst h0;have ag:U=[]:=bc (by rw[hl];simp);subst ag;refine⟨v,w,?_,by simpa using G,⟨rfl,rfl,rfl,aG _,λ_ _ _=>rfl⟩⟩;obtain⟨-,h5⟩:=G;rcases h5 with ⟨rfl,rfl⟩|⟨g',aj,ak,rfl,hg,hh,q2,q3,q4,q5⟩
  ·simp[Builtin.append_,cP ht,sizeOf,typeInfo,hi,Builtin.lenOf,Builtin.firstCells]
  ·simp[Builtin.append_,cP ht,sizeOf,typeInfo,hi,Builtin.lenOf,Builtin.firstCells,q2,storeCells]
 |some Z=>
  have W:∀j u,U[j]? =some u->w.cell? (Z.add j)=some u:=by
   intro j u hu;have hj:j<U.length:=(List.getElem?_eq_some_iff.1 hu).1;have hm:m≠0:=by
    intro e;rw[hl,e] at hj;simp at hj
   obtain⟨ar,e,ai⟩:=hc hm;cases e;exact ai j u hu
  obtain⟨v',w',hr,ho,hg,-⟩:=run_append_own (P:=P) w y t ty T i z size bytes ht hi hz ah ae af ac v n xs G Z m c U hl W h1 aa J V;exact⟨v',w',hr,ho,hg⟩
theorem wpList_append_run{y:Array Oper}{rest:List Oper}{o:Oper}{a:Act}{Q:Exit->Act->World->Prop}(z:o.guard=none)(d x:Operand)(t G:TypeId)
  (ho:o.op= .call { callee:= .builtin .append,args:= #[d,x],argTypes:= #[t,G] }) (v u:Value) (U:a.eval d=v) (V:a.eval x=u) {J:Value} {w':World}
  (W:(Builtin.append_ #[t,G] o.type #[v,u]).run P w= .ok J w') (h:wpList P y Q rest (a.put o.dst J) w'):wpList P y Q (o::rest) a w:=
 wpList_plain z λ_ Z=>by
  unfold Oper.wp execOp;simp only[ho,resolve,invoke,builtin,bM,eZ,bX,List.map_toArray,List.map_cons,List.map_nil,U,V,W];exact Z _ _ h
theorem xG (w:World)(t W e:TypeId)(i:TypeInfo)(z:Value)(kq Z:IntKind)(ht:P.underlying t=some (.slice e))(U:P.underlying W=some (.int Z))(hi:P.info? e=some i)(hz:i.zero=some z)(ac:i.size=1)(VS:z.cells.size=1)
  (k:Nat) (h0:0<k) (hk:k<=1000) (y:i.bytes=8):
  ∃c w',(∀ty,(Builtin.append_ #[t,W] ty #[.slice none 0 0,.int kq k]).run P w= .ok (.slice (some ⟨w.heap.size,0,none⟩) k c) w')/\k<=c/\w'.ownsRow w.heap.size e 1 (.slice (some ⟨w.heap.size,0,none⟩) 0 c) 0 []/\ay [] w w':=by
 have V:(Builtin.firstCells i.size 0 (.slice none 0 0)).run P w.drew= .ok ([]:List Value).toArray w.drew:=by simp[Builtin.firstCells]
 have aa:Builtin.nextslicecap (0+k) 0<=4*1000+64:=by
  unfold Builtin.nextslicecap;split<;>omega
 have h:=λty=>Lib.run_append_grow_zeros w t W ty e i z kq Z ht U hi hz none 0 0 [] V k h0 (by omega) (by omega) (by omega) (by rw[y];omega) (by rw[y];omega)
 have J:=grownCap_ge w (0+k) 0 e;have G:=grownCap_le_maxLen w (0+k) 0 e (by unfold maxLen;omega);rw[aV] at J G;simp only[aV] at h;refine⟨_,_,h,J,⟨rfl,.inr ⟨w.heap.size,grownCap w k 0 e,_,rfl,aG _,bf.new w.drew _ _,eD _,G,?_,by simp⟩⟩,((ay.refl [] w).drew).alloc _⟩;simp[lT,VS];omega
end Go.Proofs.YtepbpdipenedhaaGreatDoor
