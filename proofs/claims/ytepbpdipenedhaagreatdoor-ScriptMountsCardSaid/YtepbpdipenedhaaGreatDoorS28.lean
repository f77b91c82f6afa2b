/- Lemmas. -/
import Derived.Test.YtepbpdipenedhaaGreatDoorS27
import Derived.Laws.BytesString
set_option maxHeartbeats 4000000
set_option maxRecDepth 100000
namespace Go.Proofs.YtepbpdipenedhaaGreatDoor
open Go.Proofs.Tryz
open Go.RowKit
variable{M:Nat->Nd}{X:List Int}{n:Nat}{o:pX}
end Go.Proofs.YtepbpdipenedhaaGreatDoor
namespace Go.Proofs.YtepbpdipenedhaaGreatDoor
open Go.Proofs.Tryz
open Go.RowKit
variable{M:Nat->Nd}{X:List Int}{n:Nat}{o:pX}
def GU (K:Int):Bool:=K==0||K==1||K==2||K==7||K==8||K==12
def sM (M:Nat->Nd) (P:List ByteArray):Int:=
 if P=[] then 3 else if (cY M P).2≠0 then (cY M P).2 else if 0<=bS (M (cY M P).1).E (cm P) then 3 else 0
theorem GV{P:List ByteArray}(h:sM M P=0):P≠[]/\(cY M P).2=0/\bS (M (cY M P).1).E (cm P)<0:=by
 unfold sM at h;split at h
 ·omega
 ·split at h
  ·omega
  ·split at h
   ·omega
   ·refine⟨by assumption,by omega,by omega⟩
def Nn (X:List Int) (qs:List (Int×Int)) (M':Nat->Nd):Prop:=
 ∃y h,pY (az X qs) y h [] M'/\(∀k,8<=k->k<816->(az X qs).getD k 0=X.getD k 0)/\wI X (az X qs) 400
theorem Goes.lands{qs:List (Int×Int)}{M':Nat->Nd}(h:Goes X qs [] M' n)(V:n<=400):Nn X qs M':=by
 obtain⟨z,J,W,y,G⟩:=h;exact⟨z,J,W,λk _ U=>y k U,G.mono V⟩
theorem Goes.trans{p q:List (Int×Int)}{G ex':List Nat}{Z y:Nat->Nd}{m:Nat}(h:Goes X p G Z n)(k:Goes (az X p) q ex' y m):Goes X (p++q) ex' y (n+m):=by
 obtain⟨-,-,-,U,V⟩:=h;obtain⟨J,cH,W,k2,k3⟩:=k;rw[Goes,bJ];exact⟨J,cH,W,λj z=>by rw[k2 j z,U j z],V.trans k3⟩
def aag (o:pX) (r h:lS):Prop:=r=h\/(o.K=12/\∃n:Int,(n=0\/n=1)/\r={ h with N:=n })
def Bb (X:List Int) (M:Nat->Nd) (o:pX) (r:lS) (qs:List (Int×Int)):Prop:=
 (r.E=7/\GU o.K=true/\((yf M o).2.E=0\/(yf M o).2.E=7)/\((bp X).length<40\/(yf M o).2.E=7))\/
 (r.E≠0/\(yf M o).2=fY r.E)\/
 (r.E=0/\(yf M o).2.E=0/\aag o r (yf M o).2/\Nn X qs (yf M o).1)
theorem GW (h:o.K=0\/o.K=1):yf M o=CQ M o:=aB h
theorem TF (h:dY M){d:Nat}{nm:ByteArray}(y:bS (M d).E nm<0)(i:Int):D9 (M d).E nm i=ub (M d).E (nm,i):=by
 obtain⟨A,B,G,z⟩:=CT h y;rw[wJ G,z]
theorem Qb (y:o.K=0\/o.K=1)(h:sM M o.P≠0):(yf M o).2=fY (sM M o.P):=by
 rw[GW y];unfold CQ sM at *;split
 ·rfl
 ·next h1=>
  rw[aA h1] at h;split
  ·rfl
  ·next h2=>
   rw[aA h2] at h;split
   ·rfl
   ·next h3=>rw[aA h3] at h;exact absurd rfl h
theorem Np (z:o.K=0\/o.K=1)(h:sM M o.P=0):yf M o=match qV M with
  |none=>(M,fY 7)
  |some i=>if (M (cY M o.P).1).E.length<24 then (LP M (cY M o.P).1 i (1+o.K) (ub (M (cY M o.P).1).E (cm o.P,(i:Int))),{ mB with N:=(i:Int) }) else (M,fY 7):=by
 obtain⟨y,G,J⟩:=GV h;rw[GW z];unfold CQ;rw[aA y,aA (by omega),aA (by omega)];rfl
def QO (F K:Int):bN:=⟨F,K,1,0,List.replicate 13 0,[]⟩
theorem TG (k:Nat):(List.replicate 13 (0:Int)).getD k 0=0:=by
 rw[aj,bb];split<;>rfl
theorem TH{F K:Int}(hF:F=1\/F=2)(z:K=1\/K=2):bR (QO F K):=by
 refine⟨hF,⟨by show(0:Int)<=1;omega,by show(1:Int)<=65535;omega⟩,?_⟩;rcases z with rfl|rfl
 ·refine .inl ⟨rfl,⟨by show(0:Int)<=0;omega,by show(0:Int)<=832;omega⟩,rfl,by show List.replicate 13 (0:Int)=kW (List.replicate 13 0) (lX 0);decide,λk y=> ?_⟩
  show(0<=(List.replicate 13 (0:Int)).getD k 0/\(List.replicate 13 (0:Int)).getD k 0<256)/\((List.replicate 13 (0:Int)).getD k 0≠0->_);rw[TG];exact⟨by omega,λh=>absurd rfl h⟩
 ·exact .inr ⟨rfl,by show(0:Nat)<=24;omega,rfl,rfl,λk y=>by simp[QO] at y⟩
theorem JX:(eO (List.replicate 13 (0:Int))).length=0:=by decide
theorem Wy (F K:Int):dK (QO F K)=0:=by
 unfold dK;split
 ·rw[C2]
  show(if 6<(eO (List.replicate 13 (0:Int))).length then 1 else 0)+(0+2)/3+(0+2)/3+(0+2)/3+(0+2)/3=0;rw[JX];rfl
 ·simp[ez,aY,QO]
theorem TI (F K:Int):eU (QO F K)=[]:=rfl
theorem Wz (X:List Int)(F K:Int):jO X (QO F K):=λ_ k y h=>by
 exact absurd (TG k) h
theorem WA (X:List Int)(F K:Int):xV X (QO F K)=⟨K,1,[],[]⟩:=by
 unfold xV;split
 ·rfl
 ·rfl
section
variable {X:List Int} {T:List (bN×Value)} {own:Nat->List Nat} {M:Nat->Nd}
theorem pY.made(h:pY X T own [] M){F K:Int}(hF:F=1\/F=2)(hK:K=1\/K=2){i r:Int}{qs:List (Int×Int)}(hp:Wd X (QO F K) i r qs):
  (r=7/\qs=[]/\qV M=Option.none)\/(r=0/\∃j:Nat,i=(j:Int)/\qV M=some j/\j<32/\(M j).K=0/\Goes X qs [] (oI M j ⟨K,1,[],[]⟩) 12/\(bp (az X qs)).length=(bp X).length):=by
 rcases h.new rfl (TH hF hK) (Wy F K) (TI F K) (Wz X F K) hp with y|⟨y,j,J,U,h4,Z,W,z,h7,V,G⟩
 ·exact .inl y
 ·rw[WA] at z
  exact .inr ⟨y,j,J,U,h4,Z,⟨_,W,z,V,G⟩,h7⟩
theorem Qc (hT:dY M){o:pX}(Z:o.K=0\/o.K=1)(W:sM M o.P=0){j:Nat}(hj:qV M=some j)(zz:(M j).K=0){q1 q2:List (Int×Int)}{r:Int}(h1:Goes X q1 [] (oI M j ⟨1+o.K,1,[],[]⟩) 12)(ye:(bp (az X q1)).length=(bp X).length)
  (U:rX (az X q1) [] (oI M j ⟨1+o.K,1,[],[]⟩) (cY M o.P).1 (cm o.P) (j:Int) r q2):Bb X M o { mB with N:=(j:Int),E:=r } (q1++q2):=by
 have y:=Np (M:=M) Z W;rw[hj] at y
 dsimp only at y
 obtain⟨g1,g2,g3⟩:=GV W;have V:(cY M o.P).1≠j:=λe=>by
  have :=(qW (M:=M) g2).1;rw[e] at this;omega
 have hE:(oI M j ⟨1+o.K,1,[],[]⟩ (cY M o.P).1).E=(M (cY M o.P).1).E:=by rw[cT _ _ V]
 have z:=TF hT g3 (j:Int);have J:GU o.K=true:=by unfold GU;rcases Z with h|h<;>rw[h]<;>rfl
 unfold rX at U;rw[hE,z,CS] at U;rcases U with ⟨rfl,-,G⟩|⟨rfl,G,h4⟩
 ·by_cases hl:(M (cY M o.P).1).E.length<24
  ·rw[aB hl] at y
   refine .inl ⟨rfl,J,.inl (by rw[y];rfl),.inl ?_⟩;rcases G with G|G
   ·omega
   ·rw[ye] at G;omega
  ·rw[aA hl] at y
   exact .inr (.inl ⟨by show(7:Int)≠0;omega,by rw[y]⟩)
 ·rw[aB (by omega)] at y
  refine .inr (.inr ⟨rfl,by rw[y];rfl,.inl (by rw[y];rfl),?_⟩);rw[y];refine(h1.trans h4).lands (by omega)
end
def TJ (w:World) (M:Nat->Nd) (P:List ByteArray) (e:Ending) (w':World):Prop:=
 ay [] w w'/\((sM M P≠0/\e= .returned (.tuple #[.agg (gU 0 ⟨#[]⟩ false 0),.int .i64 (sM M P)]))\/(sM M P=0/\e= .returned (.tuple #[.agg (gU (cY M P).1 (cm P) false 0),.int .i64 0])))
theorem Qd{w:World}{b gp:Nat}{B:List Int}{ps:List (Int×Int)}{T:List (bN×Value)}{own:Nat->List Nat}{ex:List Nat}(h:Di w b gp B ps T own ex M)(hT:dY M)(o:pX)(vp vq vd:Value){v:Value}{g:Nat}{P:List ByteArray}(hP:jh w v g P)(hs:∀s∈P,s.size<=9223372036854775807):
  Calls prog 117 #[.agg (iR b o vp vq vd),v] w (TJ w M P):=by
 have eo:ay [] w ((w.alloc (.cells (iR b o vp vq vd) 79)).alloc (.cells (gU 0 ⟨#[]⟩ false 0) 165)):=((ay.refl _ _).alloc _).alloc _;have G7:=ar (P7 (h.keep0 eo) hT o vp vq vd (hP.keep eo (by simp)) hs);obtain⟨a,cap,rfl,ac,af,-⟩:=hP.open;have gH:=ar eo;have Kg:bf ((w.alloc (.cells (iR b o vp vq vd) 79)).alloc (.cells (gU 0 ⟨#[]⟩ false 0) 165)) w.heap.size (iR b o vp vq vd) 79 :=(bf.new w _ _).alloc _;have vg:bf ((w.alloc (.cells (iR b o vp vq vd) 79)).alloc (.cells (gU 0 ⟨#[]⟩ false 0) 165)) (w.heap.size+1) (gU 0 ⟨#[]⟩ false 0) 165 :=bf.new2 w _ _ _ _;have HJ:Hid (bf _ w.heap.size (iR b o vp vq vd) _/\bf _ (w.heap.size+1) (gU 0 ⟨#[]⟩ false 0) _):=⟨Kg,vg⟩;have Md:=ar (xX Kg)
 -- how a spot is told
 have z:Hid (∀wx d nm th i,ay [] ((w.alloc (.cells (iR b o vp vq vd) 79)).alloc (.cells (gU 0 ⟨#[]⟩ false 0) 165)) wx->∃wy,(storeVar 165 ⟨w.heap.size+1,0,none⟩ (.agg (gU d nm th i))).run prog wx= .ok () wy/\(loadVar 165 ⟨w.heap.size+1,0,none⟩).run prog wy= .ok (.agg (gU d nm th i)) wy/\ay [] w wy):=λwx d nm th i hk=>by
  obtain⟨wy,s1,s2,s3⟩:=l8 (d:=d) (nm:=nm) (th:=th) (i:=i) (HJ.out.2.keep hk (by simp)) rfl;exact⟨wy,s1,ra s2,(gH.out.trans' hk).trans s3 (by intro y hy;rw[au] at hy;omega)⟩
 have Ao:Hid (∀w' r,ay [] w w'->sM M P=r->r≠0->TJ w M P (.returned (.tuple #[.agg (gU 0 ⟨#[]⟩ false 0),.int .i64 r])) w'):=λw' r hk hr h0=>⟨hk,.inl ⟨by rw[hr];exact h0,by rw[hr]⟩⟩
 have Hc:Hid (∀w',ay [] w w'->sM M P=0->TJ w M P (.returned (.tuple #[.agg (gU (cY M P).1 (cm P) false 0),.int .i64 0])) w'):=λw' hk hr=>⟨hk,.inr ⟨hr,rfl⟩⟩
 have HV:Hid (sM M P=if P=[] then 3 else if (cY M P).2≠0 then (cY M P).2 else if 0<=bS (M (cY M P).1).E (cm P) then 3 else 0):=rfl;have ah:=zk;clear h hT hP hs eo Kg vg;generalize TJ w M P=Q at *;generalize sM M P=ve at *;have e0:gU 0 ⟨#[]⟩ false 0= #[.int .i64 0,.string ⟨#[]⟩,.bool false,.int .i64 0]:=rfl;rcases eK P.length with h0|h0
 ·have aa:P=[]:=List.length_eq_zero_iff.1 h0
  obtain⟨w2,s1,s2,s3⟩:=z.out _ 0 ⟨#[]⟩ false 0 (ay.refl _ _);have hv:ve=3:=by rw[HV.out,aB aa]
  have HF:=ar (Ao.out w2 3 s3 hv (by omega));rw[h0];clear s3 G7 gH HJ Md z Ao Hc HV hv aa h0 ac af;rw[e0] at *;clear e0;generalize hJ:iR b o vp vq vd=J at *;have Av:=ar s1;have uI:=ar s2;clear s1 s2 hJ;go_enter func117,ntmps117;go_wp2_with(with_reducible refine gS 165 Av.out ?_);exact aL (dc results117 rfl uI.out rfl) rfl HF.out
 ·have G:P≠[]:=λe=>by rw[e] at h0;simp at h0
  have hv:ve=if (cY M P).2≠0 then (cY M P).2 else if 0<=bS (M (cY M P).1).E (cm P) then 3 else 0:=by rw[HV.out,aA G]
  have W:=ar hv;clear HV hv G;unfold JV at G7;generalize cY M P=R at *;generalize bS (M R.1).E (cm P)=f at *;generalize cm P=nm at *;have bl:((P.length:Int)==0)=false:=by rw[cj];omega
  generalize P.length=m at *;clear h0;rw[e0] at *;clear e0;generalize hJ:iR b o vp vq vd=J at *;clear hJ;obtain⟨x,ee⟩:=R
  dsimp only at *
  go_enter func117,ntmps117;go_wp2_with(with_reducible refine gL 79 Md.out ?_);refine G7.out.mono ?_;rintro e w1 ⟨V,⟨G,rfl⟩|⟨rfl,th,i,rfl,hh⟩⟩
  ·obtain⟨w2,p1,p2,p3⟩:=l8 (d:=0) (nm:=⟨#[]⟩) (th:=false) (i:=0) (bf.new w1 #[.int .i64 0,.string ⟨#[]⟩,.bool false,.int .i64 0] 165) rfl
   have U:=V.trans' (((ay.refl [] w1).alloc _).trans p3 (by intro x hx;rw[au] at hx;omega));obtain⟨w3,s1,s2,s3⟩:=z.out w2 0 ⟨#[]⟩ false 0 U;have HF:=ar (Ao.out w3 ee s3 (by rw[W.out,aB G]) G);have b1:(ee != 0)=true:=by simpa using G
   have sS:=ar p1;have uz:=ar s1;have zO:=ar s2;clear p1 p2 p3 V U s1 s2 s3 G G7 gH HJ Md z Ao Hc W;unfold gU at sS uz zO;go_wp2_with(first|(with_reducible refine gS 165 sS.out ?_)|(with_reducible refine gS 165 uz.out ?_));exact aL (dc results117 rfl zO.out rfl) rfl HF.out
  ·obtain⟨w2,p1,p2,p3⟩:=l8 (d:=x) (nm:=nm) (th:=th) (i:=i) (bf.new w1 #[.int .i64 0,.string ⟨#[]⟩,.bool false,.int .i64 0] 165) rfl
   have U:=V.trans' (((ay.refl [] w1).alloc _).trans p3 (by intro x hx;rw[au] at hx;omega));have c1:w2.cell? ⟨w1.heap.size,2,none⟩=some (.bool th):=by rw[p2.cell];rfl
   have Z:=W.out;rw[aA (by simp)] at Z;rcases hh with ⟨rfl,ag,rfl⟩|⟨rfl,ae,rfl⟩
   ·obtain⟨w3,s1,s2,s3⟩:=z.out w2 x nm false 0 U
    have HF:=ar (Hc.out w3 s3 (by rw[Z,aA (by omega)]));have sS:=ar p1;have pd:=ar (ra p2);have uz:=ar s1;have zO:=ar s2;clear p1 p2 p3 V U s1 s2 s3 G7 gH HJ Md z Ao Hc W Z ag;generalize gU x nm false 0=Zs at *;go_wp2_with(first|(with_reducible refine gS 165 sS.out ?_)|(with_reducible refine gS 165 uz.out ?_)|(with_reducible refine gL 165 pd.out ?_));exact aL (dc results117 rfl zO.out rfl) rfl HF.out
   ·obtain⟨w3,s1,s2,s3⟩:=z.out w2 0 ⟨#[]⟩ false 0 U
    have HF:=ar (Ao.out w3 3 s3 (by rw[Z,aB ae]) (by omega));have sS:=ar p1;have uz:=ar s1;have zO:=ar s2;clear p1 p2 p3 V U s1 s2 s3 G7 gH HJ Md z Ao Hc W Z ae;have es:gU 0 ⟨#[]⟩ false 0= #[.int .i64 0,.string ⟨#[]⟩,.bool false,.int .i64 0]:=rfl;rw[es] at uz zO HF;clear es;generalize gU x nm true _=Zs at *;go_wp2_with(first|(with_reducible refine gS 165 sS.out ?_)|(with_reducible refine gS 165 uz.out ?_));exact aL (dc results117 rfl zO.out rfl) rfl HF.out
end Go.Proofs.YtepbpdipenedhaaGreatDoor
