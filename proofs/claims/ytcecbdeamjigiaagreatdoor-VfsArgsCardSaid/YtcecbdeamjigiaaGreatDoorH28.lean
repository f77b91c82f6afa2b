/- Lemmas. -/
import Derived.Test.YtcecbdeamjigiaaGreatDoorH27
import Derived.Laws.BytesString
set_option maxHeartbeats 4000000
set_option maxRecDepth 100000
namespace Go.Proofs.YtcecbdeamjigiaaGreatDoor
open Go.RowKit
variable{M:Nat->Nd}{X:List Int}{n:Nat}{ex:List Nat}{T:List (bM×Value)}{own:Nat->List Nat}{o:qR}
end Go.Proofs.YtcecbdeamjigiaaGreatDoor
namespace Go.Proofs.YtcecbdeamjigiaaGreatDoor
open Go.RowKit
variable{M:Nat->Nd}{X:List Int}{n:Nat}{ex:List Nat}{T:List (bM×Value)}{own:Nat->List Nat}{o:qR}
def GD (K:Int):Bool:=K==0||K==1||K==2||K==7||K==8||K==12
def sD (M:Nat->Nd) (P:List ByteArray):Int:=
 if P=[] then 3 else if (dh M P).2≠0 then (dh M P).2 else if 0<=bZ (M (dh M P).1).E (ct P) then 3 else 0
theorem GF{P:List ByteArray}(h:sD M P=0):P≠[]/\(dh M P).2=0/\bZ (M (dh M P).1).E (ct P)<0:=by
 unfold sD at h;split at h
 ·omega
 ·split at h
  ·omega
  ·split at h
   ·omega
   ·refine⟨by assumption,by omega,by omega⟩
def JQ (X:List Int) (qs:List (Int×Int)) (M':Nat->Nd):Prop:=
 ∃y h,lK (az X qs) y h [] M'/\(∀k,8<=k->k<816->(az X qs).getD k 0=X.getD k 0)/\mL X (az X qs) 400
theorem Goes.lands{qs:List (Int×Int)}{M':Nat->Nd}(h:Goes X qs [] M' n)(z:n<=400):JQ X qs M':=by
 obtain⟨W,J,G,y,V⟩:=h;exact⟨W,J,G,λk _ U=>y k U,V.mono z⟩
theorem Goes.trans{p q:List (Int×Int)}{ex':List Nat}{V z:Nat->Nd}{m:Nat}(h:Goes X p ex V n)(k:Goes (az X p) q ex' z m):Goes X (p++q) ex' z (n+m):=by
 obtain⟨-,-,-,J,W⟩:=h;obtain⟨T',U,Z,k2,G⟩:=k;rw[Goes,bo];exact⟨T',U,Z,λj y=>by rw[k2 j y,J j y],W.trans G⟩
theorem lK.stay(h:lK X T own [] M):JQ X [] M:=⟨T,own,h,λ_ _ _=>rfl,mL.refl _ _⟩
def aaE (o:qR) (r h:kX):Prop:=r=h\/(o.K=12/\∃n:Int,(n=0\/n=1)/\r={ h with N:=n })
def AY (X:List Int) (M:Nat->Nd) (o:qR) (r:kX) (qs:List (Int×Int)):Prop:=
 (r.E=7/\GD o.K=true/\((xM M o).2.E=0\/(xM M o).2.E=7)/\((bb X).length<40\/(xM M o).2.E=7))\/
 (r.E≠0/\(xM M o).2=fH r.E)\/
 (r.E=0/\(xM M o).2.E=0/\aaE o r (xM M o).2/\JQ X qs (xM M o).1)
theorem GG (h:o.K=0\/o.K=1):xM M o=CA M o:=aB h
theorem T6 (h:eb M){d:Nat}{nm:ByteArray}(z:bZ (M d).E nm<0)(i:Int):DX (M d).E nm i=tO (M d).E (nm,i):=by
 obtain⟨A,B,y,G⟩:=CF h z;rw[vU y,G]
theorem Qg (y:o.K=0\/o.K=1)(h:sD M o.P≠0):(xM M o).2=fH (sD M o.P):=by
 rw[GG y];unfold CA sD at *;split
 ·rfl
 ·next h1=>
  rw[aA h1] at h;split
  ·rfl
  ·next h2=>
   rw[aA h2] at h;split
   ·rfl
   ·next h3=>rw[aA h3] at h;exact absurd rfl h
theorem Nq (y:o.K=0\/o.K=1)(z:sD M o.P=0):xM M o=match qC M with
  |none=>(M,fH 7)
  |some i=>if (M (dh M o.P).1).E.length<24 then (LM M (dh M o.P).1 i (1+o.K) (tO (M (dh M o.P).1).E (ct o.P,(i:Int))),{ nG with N:=(i:Int) }) else (M,fH 7):=by
 obtain⟨h,G,J⟩:=GF z;rw[GG y];unfold CA;rw[aA h,aA (by omega),aA (by omega)];rfl
def QV (F K:Int):bM:=⟨F,K,1,0,List.replicate 13 0,[]⟩
theorem T7 (k:Nat):(List.replicate 13 (0:Int)).getD k 0=0:=by
 rw[aj,aY];split<;>rfl
theorem T8{F K:Int}(hF:F=1\/F=2)(z:K=1\/K=2):bP (QV F K):=by
 refine⟨hF,⟨by show(0:Int)<=1;omega,by show(1:Int)<=65535;omega⟩,?_⟩;rcases z with rfl|rfl
 ·refine .inl ⟨rfl,⟨by show(0:Int)<=0;omega,by show(0:Int)<=832;omega⟩,rfl,by show List.replicate 13 (0:Int)=iz (List.replicate 13 0) (bY 0);decide,λk y=> ?_⟩
  show(0<=(List.replicate 13 (0:Int)).getD k 0/\(List.replicate 13 (0:Int)).getD k 0<256)/\((List.replicate 13 (0:Int)).getD k 0≠0->_);rw[T7];exact⟨by omega,λh=>absurd rfl h⟩
 ·exact .inr ⟨rfl,by show(0:Nat)<=24;omega,rfl,rfl,λk y=>by simp[QV] at y⟩
theorem JR:(eB (List.replicate 13 (0:Int))).length=0:=by decide
theorem WZ (F K:Int):cN (QV F K)=0:=by
 unfold cN;split
 ·rw[ky]
  show(if 6<(eB (List.replicate 13 (0:Int))).length then 1 else 0)+(0+2)/3+(0+2)/3+(0+2)/3+(0+2)/3=0;rw[JR];rfl
 ·simp[dX,aZ,QV]
theorem T9 (F K:Int):cP (QV F K)=[]:=rfl
theorem W4 (X:List Int)(F K:Int):iC X (QV F K):=λ_ k y h=>by
 exact absurd (T7 k) h
theorem W6 (X:List Int)(F K:Int):sB X (QV F K)=⟨K,1,[],[]⟩:=by
 unfold sB;split
 ·rfl
 ·rfl
section
variable {X:List Int} {T:List (bM×Value)} {own:Nat->List Nat} {M:Nat->Nd}
theorem lK.made(h:lK X T own [] M){F K:Int}(hF:F=1\/F=2)(hK:K=1\/K=2){i r:Int}{qs:List (Int×Int)}(Z:WC X (QV F K) i r qs):
  (r=7/\qs=[]/\qC M=Option.none)\/(r=0/\∃j:Nat,i=(j:Int)/\qC M=some j/\j<32/\(M j).K=0/\Goes X qs [] (mN M j ⟨K,1,[],[]⟩) 12/\(bb (az X qs)).length=(bb X).length):=by
 rcases h.new rfl (T8 hF hK) (WZ F K) (T9 F K) (W4 X F K) Z with y|⟨y,j,U,h3,h4,G,V,z,J,h8,W⟩
 ·exact .inl y
 ·rw[W6] at z
  exact .inr ⟨y,j,U,h3,h4,G,⟨_,V,z,h8,W⟩,J⟩
theorem Qh (hT:eb M){o:qR}(W:o.K=0\/o.K=1)(Z:sD M o.P=0){j:Nat}(hj:qC M=some j)(zi:(M j).K=0){q1 q2:List (Int×Int)}{r:Int}(h1:Goes X q1 [] (mN M j ⟨1+o.K,1,[],[]⟩) 12)(uP:(bb (az X q1)).length=(bb X).length)
  (J:rK (az X q1) [] (mN M j ⟨1+o.K,1,[],[]⟩) (dh M o.P).1 (ct o.P) (j:Int) r q2):AY X M o { nG with N:=(j:Int),E:=r } (q1++q2):=by
 have y:=Nq (M:=M) W Z;rw[hj] at y
 dsimp only at y
 obtain⟨g1,g2,g3⟩:=GF Z;have U:(dh M o.P).1≠j:=λe=>by
  have :=(qD (M:=M) g2).1;rw[e] at this;omega
 have hE:(mN M j ⟨1+o.K,1,[],[]⟩ (dh M o.P).1).E=(M (dh M o.P).1).E:=by rw[cV _ _ U]
 have z:=T6 hT g3 (j:Int);have V3:GD o.K=true:=by unfold GD;rcases W with h|h<;>rw[h]<;>rfl
 unfold rK at J;rw[hE,z,CE] at J;rcases J with ⟨rfl,-,G⟩|⟨rfl,G,h4⟩
 ·by_cases V:(M (dh M o.P).1).E.length<24
  ·rw[aB V] at y
   refine .inl ⟨rfl,V3,.inl (by rw[y];rfl),.inl ?_⟩;rcases G with G|G
   ·omega
   ·rw[uP] at G;omega
  ·rw[aA V] at y
   exact .inr (.inl ⟨by show(7:Int)≠0;omega,by rw[y]⟩)
 ·rw[aB (by omega)] at y
  refine .inr (.inr ⟨rfl,by rw[y];rfl,.inl (by rw[y];rfl),?_⟩);rw[y];refine(h1.trans h4).lands (by omega)
end
def Ua (w:World) (M:Nat->Nd) (P:List ByteArray) (e:Ending) (w':World):Prop:=
 ay [] w w'/\((sD M P≠0/\e= .returned (.tuple #[.agg (fZ 0 ⟨#[]⟩ false 0),.int .i64 (sD M P)]))\/(sD M P=0/\e= .returned (.tuple #[.agg (fZ (dh M P).1 (ct P) false 0),.int .i64 0])))
theorem Qi{w:World}{b gp:Nat}{B:List Int}{ps:List (Int×Int)}(h:Da w b gp B ps T own ex M)(hT:eb M)(o:qR)(Z vq vd:Value){v:Value}{g:Nat}{P:List ByteArray}(hP:jQ w v g P)(hs:∀s∈P,s.size<=9223372036854775807):
  Calls Tryz.prog 115 #[.agg (ix b o Z vq vd),v] w (Ua w M P):=by
 have ez:ay [] w ((w.alloc (.cells (ix b o Z vq vd) 79)).alloc (.cells (fZ 0 ⟨#[]⟩ false 0) 159)):=((ay.refl _ _).alloc _).alloc _;have GP:=ar (Qc (h.keep0 ez) hT o Z vq vd (hP.keep ez (by simp)) hs);obtain⟨a,cap,rfl,nz,nB,-⟩:=hP.open;have fS:=ar ez;have Ke:bm ((w.alloc (.cells (ix b o Z vq vd) 79)).alloc (.cells (fZ 0 ⟨#[]⟩ false 0) 159)) w.heap.size (ix b o Z vq vd) 79 :=(bm.new w _ _).alloc _;have uK:bm ((w.alloc (.cells (ix b o Z vq vd) 79)).alloc (.cells (fZ 0 ⟨#[]⟩ false 0) 159)) (w.heap.size+1) (fZ 0 ⟨#[]⟩ false 0) 159 :=bm.new2 w _ _ _ _;have HJ:Hid (bm _ w.heap.size (ix b o Z vq vd) _/\bm _ (w.heap.size+1) (fZ 0 ⟨#[]⟩ false 0) _):=⟨Ke,uK⟩;have L6:=ar (xC Ke)
 -- how a spot is told
 have z:Hid (∀wx d nm th i,ay [] ((w.alloc (.cells (ix b o Z vq vd) 79)).alloc (.cells (fZ 0 ⟨#[]⟩ false 0) 159)) wx->∃wy,(storeVar 159 ⟨w.heap.size+1,0,none⟩ (.agg (fZ d nm th i))).run Tryz.prog wx= .ok () wy/\(loadVar 159 ⟨w.heap.size+1,0,none⟩).run Tryz.prog wy= .ok (.agg (fZ d nm th i)) wy/\ay [] w wy):=λwx d nm th i hk=>by
  obtain⟨wy,s1,s2,s3⟩:=lp (d:=d) (nm:=nm) (th:=th) (i:=i) (HJ.out.2.keep hk (by simp)) rfl;exact⟨wy,s1,qM s2,(fS.out.trans' hk).trans s3 (by intro y hy;rw[au] at hy;omega)⟩
 have Ag:Hid (∀w' r,ay [] w w'->sD M P=r->r≠0->Ua w M P (.returned (.tuple #[.agg (fZ 0 ⟨#[]⟩ false 0),.int .i64 r])) w'):=λw' r hk hr h0=>⟨hk,.inl ⟨by rw[hr];exact h0,by rw[hr]⟩⟩
 have GW:Hid (∀w',ay [] w w'->sD M P=0->Ua w M P (.returned (.tuple #[.agg (fZ (dh M P).1 (ct P) false 0),.int .i64 0])) w'):=λw' hk hr=>⟨hk,.inr ⟨hr,rfl⟩⟩
 have HV:Hid (sD M P=if P=[] then 3 else if (dh M P).2≠0 then (dh M P).2 else if 0<=bZ (M (dh M P).1).E (ct P) then 3 else 0):=rfl;have ae:=yY;clear h hT hP hs ez Ke uK;generalize Ua w M P=Q at *;generalize sD M P=ve at *;have e0:fZ 0 ⟨#[]⟩ false 0= #[.int .i64 0,.string ⟨#[]⟩,.bool false,.int .i64 0]:=rfl;rcases eC P.length with h0|h0
 ·have aa:P=[]:=List.length_eq_zero_iff.1 h0
  obtain⟨w2,s1,s2,s3⟩:=z.out _ 0 ⟨#[]⟩ false 0 (ay.refl _ _);have hv:ve=3:=by rw[HV.out,aB aa]
  have HF:=ar (Ag.out w2 3 s3 hv (by omega));rw[h0];clear s3 GP fS HJ L6 z Ag GW HV hv aa h0 nz nB;rw[e0] at *;clear e0;generalize hJ:ix b o Z vq vd=J at *;have Ak:=ar s1;have qQ:=ar s2;clear s1 s2 hJ;go_enter Tryz.func115,Tryz.ntmps115;go_wp2_with(with_reducible refine gS 159 Ak.out ?_);exact aK (dn Tryz.results115 rfl qQ.out rfl) rfl HF.out
 ·have U:P≠[]:=λe=>by rw[e] at h0;simp at h0
  have hv:ve=if (dh M P).2≠0 then (dh M P).2 else if 0<=bZ (M (dh M P).1).E (ct P) then 3 else 0:=by rw[HV.out,aA U]
  have V:=ar hv;clear HV hv U;unfold JO at GP;generalize dh M P=R at *;generalize bZ (M R.1).E (ct P)=f at *;generalize ct P=nm at *;have bl:((P.length:Int)==0)=false:=by rw[cg];omega
  generalize P.length=m at *;clear h0;rw[e0] at *;clear e0;generalize hJ:ix b o Z vq vd=J at *;clear hJ;obtain⟨x,ee⟩:=R
  dsimp only at *
  go_enter Tryz.func115,Tryz.ntmps115;go_wp2_with(with_reducible refine gL 79 L6.out ?_);refine GP.out.mono ?_;rintro e w1 ⟨dc,⟨U,rfl⟩|⟨rfl,th,i,rfl,hh⟩⟩
  ·obtain⟨w2,p1,p2,p3⟩:=lp (d:=0) (nm:=⟨#[]⟩) (th:=false) (i:=0) (bm.new w1 #[.int .i64 0,.string ⟨#[]⟩,.bool false,.int .i64 0] 159) rfl
   have G:=dc.trans' (((ay.refl [] w1).alloc _).trans p3 (by intro x hx;rw[au] at hx;omega));obtain⟨w3,s1,s2,s3⟩:=z.out w2 0 ⟨#[]⟩ false 0 G;have HF:=ar (Ag.out w3 ee s3 (by rw[V.out,aB U]) U);have b1:(ee != 0)=true:=by simpa using U
   have wk:=ar p1;have uf:=ar s1;have zC:=ar s2;clear p1 p2 p3 dc G s1 s2 s3 U GP fS HJ L6 z Ag GW V;unfold fZ at wk uf zC;go_wp2_with(first|(with_reducible refine gS 159 wk.out ?_)|(with_reducible refine gS 159 uf.out ?_));exact aK (dn Tryz.results115 rfl zC.out rfl) rfl HF.out
  ·obtain⟨w2,p1,p2,p3⟩:=lp (d:=x) (nm:=nm) (th:=th) (i:=i) (bm.new w1 #[.int .i64 0,.string ⟨#[]⟩,.bool false,.int .i64 0] 159) rfl
   have G:=dc.trans' (((ay.refl [] w1).alloc _).trans p3 (by intro x hx;rw[au] at hx;omega));have c1:w2.cell? ⟨w1.heap.size,2,none⟩=some (.bool th):=by rw[p2.cell];rfl
   have W:=V.out;rw[aA (by simp)] at W;rcases hh with ⟨rfl,ac,rfl⟩|⟨rfl,Ac,rfl⟩
   ·obtain⟨w3,s1,s2,s3⟩:=z.out w2 x nm false 0 G
    have HF:=ar (GW.out w3 s3 (by rw[W,aA (by omega)]));have wk:=ar p1;have pw:=ar (qM p2);have uf:=ar s1;have zC:=ar s2;clear p1 p2 p3 dc G s1 s2 s3 GP fS HJ L6 z Ag GW V W ac;generalize fZ x nm false 0=Zs at *;go_wp2_with(first|(with_reducible refine gS 159 wk.out ?_)|(with_reducible refine gS 159 uf.out ?_)|(with_reducible refine gL 159 pw.out ?_));exact aK (dn Tryz.results115 rfl zC.out rfl) rfl HF.out
   ·obtain⟨w3,s1,s2,s3⟩:=z.out w2 0 ⟨#[]⟩ false 0 G
    have HF:=ar (Ag.out w3 3 s3 (by rw[W,aB Ac]) (by omega));have wk:=ar p1;have uf:=ar s1;have zC:=ar s2;clear p1 p2 p3 dc G s1 s2 s3 GP fS HJ L6 z Ag GW V W Ac;have es:fZ 0 ⟨#[]⟩ false 0= #[.int .i64 0,.string ⟨#[]⟩,.bool false,.int .i64 0]:=rfl;rw[es] at uf zC HF;clear es;generalize fZ x nm true _=Zs at *;go_wp2_with(first|(with_reducible refine gS 159 wk.out ?_)|(with_reducible refine gS 159 uf.out ?_));exact aK (dn Tryz.results115 rfl zC.out rfl) rfl HF.out
end Go.Proofs.YtcecbdeamjigiaaGreatDoor
