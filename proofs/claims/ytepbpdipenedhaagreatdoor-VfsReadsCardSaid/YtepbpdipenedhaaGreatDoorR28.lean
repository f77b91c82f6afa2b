/- Lemmas. -/
import Derived.Test.YtepbpdipenedhaaGreatDoorR27
import Derived.Laws.BytesString
set_option maxHeartbeats 4000000
set_option maxRecDepth 100000
namespace Go.Proofs.YtepbpdipenedhaaGreatDoor
open Go.Proofs.Tryz
open Go.RowKit
variable{M:Nat->Nd}{P:List ByteArray}{X:List Int}{n:Nat}{ex:List Nat}{T:List (bP×Value)}{own:Nat->List Nat}{o:kM}
theorem Nr (g n f:Nat)(U:f<n)(h:World):(Instr.sliceAt 31 (.slice (some ⟨g,0,none⟩) n n) (some (.int .i64 (f:Int))) none none).run prog h= .ok (.slice (some ⟨g,f,none⟩) (n-f) (n-f)) h:=by
 have z: prog.underlying 31 =some (.slice (prog.elem 31)):=by kernel_rfl
 have G: prog.elem 31 = 5 :=by kernel_rfl
 have J:(sizeOf 5).run prog h= .ok 1 h:=by kernel_rfl
 rw[jh _ _ _ _ _ _ z,run_slice_l _ _ _ _ _ z .i64 (f:Int) (by omega) (by omega),G,J];simp only[cm,sliced,aH];rw[aB (by omega),fV,iq,add_plain,aX]
def CB (K:Int):Bool:=K==0||K==1||K==2||K==7||K==8||K==12
def wI (M:Nat->Nd) (P:List ByteArray):Int:=
 if P=[] then 3 else if (dJ M P).2≠0 then (dJ M P).2 else if 0<=cz (M (dJ M P).1).E (cL P) then 3 else 0
def adQ (M:Nat->Nd) (P:List ByteArray):Int:=
 if (dJ M P).2≠0 then (dJ M P).2 else if cz (M (dJ M P).1).E (cL P)<0 then 2 else 0
theorem KE (h:wI M P=0):P≠[]/\(dJ M P).2=0/\cz (M (dJ M P).1).E (cL P)<0:=by
 unfold wI at h;split at h
 ·omega
 ·split at h
  ·omega
  ·split at h
   ·omega
   ·refine⟨by assumption,by omega,by omega⟩
theorem abH (h:adQ M P=0):(dJ M P).2=0/\0<=cz (M (dJ M P).1).E (cL P):=by
 unfold adQ at h;split at h
 ·omega
 ·split at h
  ·omega
  ·exact⟨by omega,by omega⟩
def fJ (M:Nat->Nd) (P:List ByteArray):Nat×Int:=if (cG M P).2=0/\(M (cG M P).1).K=2 then (0,5) else cG M P
theorem El (h:(fJ M P).2=0):(cG M P).2=0/\(M (cG M P).1).K≠2/\fJ M P=cG M P:=by
 unfold fJ at h ⊢;split at h
 ·simp at h
 ·next hn=>rw[aB hn];exact⟨h,λz=>hn ⟨h,z⟩,rfl⟩
def Bi (X:List Int) (qs:List (Int×Int)) (M':Nat->Nd):Prop:=
 ∃z h,ni (aA X qs) z h [] M'/\(∀k,8<=k->k<816->(aA X qs).getD k 0=X.getD k 0)/\nJ X (aA X qs) 400
theorem Goes.lands{qs:List (Int×Int)}{M':Nat->Nd}(h:Goes X qs [] M' n)(U:n<=400):Bi X qs M':=by
 obtain⟨W,z,G,V,h3⟩:=h;exact⟨W,z,G,λk _ J=>V k J,h3.mono U⟩
theorem Goes.trans{p q:List (Int×Int)}{ex':List Nat}{V G:Nat->Nd}{m:Nat}(h:Goes X p ex V n)(k:Goes (aA X p) q ex' G m):Goes X (p++q) ex' G (n+m):=by
 obtain⟨-,-,-,h2,h3⟩:=h;obtain⟨T',J,W,U,k3⟩:=k;rw[Goes,bD];exact⟨T',J,W,λj z=>by rw[U j z,h2 j z],h3.trans k3⟩
theorem ni.stay(h:ni X T own [] M):Bi X [] M:=⟨T,own,h,λ_ _ _=>rfl,nJ.refl _ _⟩
def adR (o:kM) (r h:lX):Prop:=r=h\/(o.K=12/\∃n:Int,(n=0\/n=1)/\r={ h with N:=n })
def pQ (X:List Int) (M:Nat->Nd) (o:kM) (r:lX) (qs:List (Int×Int)):Prop:=
 (r.E=7/\CB o.K=true/\((oV M o).2.E=0\/(oV M o).2.E=7)/\((aZ X).length<40\/(oV M o).2.E=7))\/
 (r.E≠0/\(oV M o).2=fy r.E)\/
 (r.E=0/\(oV M o).2.E=0/\adR o r (oV M o).2/\Bi X qs (oV M o).1)
theorem Em (h:o.K=0\/o.K=1):oV M o=Dl M o:=aC h
theorem Bj (h:o.K=2\/o.K=3\/o.K=4):oV M o=yX M o:=by unfold oV;rw[aB (by omega),aC h]
theorem Bk (h:o.K=9\/o.K=10):oV M o=(M,A9 M o):=by unfold oV;rw[aB (by omega),aB (by omega),aB (by omega),aB (by omega),aB (by omega),aC h]
theorem Yt (h:o.K=11):oV M o=(M,if o.N=1\/o.N=2 then jf else fy 1):=by unfold oV;rw[aB (by omega),aB (by omega),aB (by omega),aB (by omega),aB (by omega),aB (by omega),aC h]
theorem RQ (h:o.K=12):oV M o=(M,jf):=by unfold oV;rw[aB (by omega),aB (by omega),aB (by omega),aB (by omega),aB (by omega),aB (by omega),aB (by omega),aC h]
theorem Yu (h:eo M){d:Nat}{nm:ByteArray}(z:cz (M d).E nm<0)(i:Int):Hv (M d).E nm i=xI (M d).E (nm,i):=by
 obtain⟨A,B,G,J⟩:=Gb h z;rw[zQ G,J]
theorem UW (z:o.K=0\/o.K=1)(h:wI M o.P≠0):(oV M o).2=fy (wI M o.P):=by
 rw[Em z];unfold Dl wI at *;split
 ·rfl
 ·next h1=>
  rw[aB h1] at h;split
  ·rfl
  ·next h2=>
   rw[aB h2] at h;split
   ·rfl
   ·next h3=>rw[aB h3] at h;exact absurd rfl h
theorem RR (G:o.K=0\/o.K=1)(z:wI M o.P=0):oV M o=match uw M with
  |none=>(M,fy 7)
  |some i=>if (M (dJ M o.P).1).E.length<24 then (Kq M (dJ M o.P).1 i (1+o.K) (xI (M (dJ M o.P).1).E (cL o.P,(i:Int))),{ jf with N:=(i:Int) }) else (M,fy 7):=by
 obtain⟨h,J,U⟩:=KE z;rw[Em G];unfold Dl;rw[aB h,aB (by omega),aB (by omega)];rfl
def VH (F K:Int):bP:=⟨F,K,1,0,List.replicate 13 0,[]⟩
theorem Yv (k:Nat):(List.replicate 13 (0:Int)).getD k 0=0:=by
 rw[aj,bo];split<;>rfl
theorem Yw{F K:Int}(hF:F=1\/F=2)(G:K=1\/K=2):bZ (VH F K):=by
 refine⟨hF,⟨by show(0:Int)<=1;omega,by show(1:Int)<=65535;omega⟩,?_⟩;rcases G with rfl|rfl
 ·refine .inl ⟨rfl,⟨by show(0:Int)<=0;omega,by show(0:Int)<=832;omega⟩,rfl,by show List.replicate 13 (0:Int)=mj (List.replicate 13 0) (dM 0);decide,λk z=> ?_⟩
  show(0<=(List.replicate 13 (0:Int)).getD k 0/\(List.replicate 13 (0:Int)).getD k 0<256)/\((List.replicate 13 (0:Int)).getD k 0≠0->_);rw[Yv];exact⟨by omega,λh=>absurd rfl h⟩
 ·exact .inr ⟨rfl,by show(0:Nat)<=24;omega,rfl,rfl,λk z=>by simp[VH] at z⟩
theorem Ns:(fu (List.replicate 13 (0:Int))).length=0:=by decide
theorem abI (F K:Int):dz (VH F K)=0:=by
 unfold dz;split
 ·rw[pN]
  show(if 6<(fu (List.replicate 13 (0:Int))).length then 1 else 0)+(0+2)/3+(0+2)/3+(0+2)/3+(0+2)/3=0;rw[Ns];rfl
 ·simp[eZ,bj,VH]
theorem Yx (F K:Int):dn (VH F K)=[]:=rfl
theorem abJ (X:List Int)(F K:Int):jR X (VH F K):=λ_ k z h=>by
 exact absurd (Yv k) h
theorem abK (X:List Int)(F K:Int):sS X (VH F K)=⟨K,1,[],[]⟩:=by
 unfold sS;split
 ·rfl
 ·rfl
section
variable {X:List Int} {T:List (bP×Value)} {own:Nat->List Nat} {M:Nat->Nd}
theorem ni.made(h:ni X T own [] M){F K:Int}(hF:F=1\/F=2)(hK:K=1\/K=2){i r:Int}{qs:List (Int×Int)}(W:abj X (VH F K) i r qs):
  (r=7/\qs=[]/\uw M=Option.none)\/(r=0/\∃j:Nat,i=(j:Int)/\uw M=some j/\j<32/\(M j).K=0/\Goes X qs [] (ng M j ⟨K,1,[],[]⟩) 12/\(aZ (aA X qs)).length=(aZ X).length):=by
 rcases h.new rfl (Yw hF hK) (abI F K) (Yx F K) (abJ X F K) W with z|⟨z,j,V,h3,h4,h5,J,G,U,h8,h9⟩
 ·exact .inl z
 ·rw[abK] at G
  exact .inr ⟨z,j,V,h3,h4,h5,⟨_,J,G,h8,h9⟩,U⟩
theorem UX (hT:eo M){o:kM}(W:o.K=0\/o.K=1)(hv:wI M o.P=0){j:Nat}(hj:uw M=some j)(BI:(M j).K=0){q1 q2:List (Int×Int)}{r:Int}(h1:Goes X q1 [] (ng M j ⟨1+o.K,1,[],[]⟩) 12)(o9:(aZ (aA X q1)).length=(aZ X).length)
  (V:vP (aA X q1) [] (ng M j ⟨1+o.K,1,[],[]⟩) (dJ M o.P).1 (cL o.P) (j:Int) r q2):pQ X M o { jf with N:=(j:Int),E:=r } (q1++q2):=by
 have z:=RR (M:=M) W hv;rw[hj] at z
 dsimp only at z
 obtain⟨g1,g2,g3⟩:=KE hv;have Zx:(dJ M o.P).1≠j:=λe=>by
  have :=(uy (M:=M) g2).1;rw[e] at this;omega
 have hE:(ng M j ⟨1+o.K,1,[],[]⟩ (dJ M o.P).1).E=(M (dJ M o.P).1).E:=by rw[dL _ _ Zx]
 have G:=Yu hT g3 (j:Int);have U:CB o.K=true:=by unfold CB;rcases W with h|h<;>rw[h]<;>rfl
 unfold vP at V;rw[hE,G,Ga] at V;rcases V with ⟨rfl,-,J⟩|⟨rfl,J,h4⟩
 ·by_cases hl:(M (dJ M o.P).1).E.length<24
  ·rw[aC hl] at z
   refine .inl ⟨rfl,U,.inl (by rw[z];rfl),.inl ?_⟩;rcases J with J|J
   ·omega
   ·rw[o9] at J;omega
  ·rw[aB hl] at z
   exact .inr (.inl ⟨by show(7:Int)≠0;omega,by rw[z]⟩)
 ·rw[aC (by omega)] at z
  refine .inr (.inr ⟨rfl,by rw[z];rfl,.inl (by rw[z];rfl),?_⟩);rw[z];refine(h1.trans h4).lands (by omega)
end
def Yy (w:World) (M:Nat->Nd) (P:List ByteArray) (e:Ending) (w':World):Prop:=
 az [] w w'/\((wI M P≠0/\e= .returned (.tuple #[.agg (fU 0 ⟨#[]⟩ false 0),.int .i64 (wI M P)]))\/(wI M P=0/\e= .returned (.tuple #[.agg (fU (dJ M P).1 (cL P) false 0),.int .i64 0])))
theorem UY{w:World}{b gp:Nat}{B:List Int}{ps:List (Int×Int)}(h:wH w b gp B ps T own ex M)(hT:eo M)(o:kM)(vp vq vd:Value){v:Value}{g:Nat}{P:List ByteArray}(hP:jg w v g P)(hs:∀s∈P,s.size<=9223372036854775807):
  Calls prog 117 #[.agg (dZ b o vp vq vd),v] w (Yy w M P):=by
 have dt:az [] w ((w.alloc (.cells (dZ b o vp vq vd) 79)).alloc (.cells (fU 0 ⟨#[]⟩ false 0) 165)):=((az.refl _ _).alloc _).alloc _;have KT:=au (UQ (h.keep0 dt) hT o vp vq vd (hP.keep dt (by simp)) hs);obtain⟨a,cap,rfl,ag,af,-⟩:=hP.open;have fW:=au dt;have oZ:bh ((w.alloc (.cells (dZ b o vp vq vd) 79)).alloc (.cells (fU 0 ⟨#[]⟩ false 0) 165)) w.heap.size (dZ b o vp vq vd) 79 :=(bh.new w _ _).alloc _;have uM:bh ((w.alloc (.cells (dZ b o vp vq vd) 79)).alloc (.cells (fU 0 ⟨#[]⟩ false 0) 165)) (w.heap.size+1) (fU 0 ⟨#[]⟩ false 0) 165 :=bh.new2 w _ _ _ _;have HJ:Hid (bh _ w.heap.size (dZ b o vp vq vd) _/\bh _ (w.heap.size+1) (fU 0 ⟨#[]⟩ false 0) _):=⟨oZ,uM⟩;have sx:=au (ny oZ)
 -- how a spot is told
 have z:Hid (∀wx d nm th i,az [] ((w.alloc (.cells (dZ b o vp vq vd) 79)).alloc (.cells (fU 0 ⟨#[]⟩ false 0) 165)) wx->∃wy,(storeVar 165 ⟨w.heap.size+1,0,none⟩ (.agg (fU d nm th i))).run prog wx= .ok () wy/\(loadVar 165 ⟨w.heap.size+1,0,none⟩).run prog wy= .ok (.agg (fU d nm th i)) wy/\az [] w wy):=λwx d nm th i hk=>by
  obtain⟨wy,s1,s2,s3⟩:=nL (d:=d) (nm:=nm) (th:=th) (i:=i) (HJ.out.2.keep hk (by simp)) rfl;exact⟨wy,s1,rA s2,(fW.out.trans' hk).trans s3 (by intro y hy;rw[ay] at hy;omega)⟩
 have tz:Hid (∀w' r,az [] w w'->wI M P=r->r≠0->Yy w M P (.returned (.tuple #[.agg (fU 0 ⟨#[]⟩ false 0),.int .i64 r])) w'):=λw' r hk hr h0=>⟨hk,.inl ⟨by rw[hr];exact h0,by rw[hr]⟩⟩
 have wQ:Hid (∀w',az [] w w'->wI M P=0->Yy w M P (.returned (.tuple #[.agg (fU (dJ M P).1 (cL P) false 0),.int .i64 0])) w'):=λw' hk hr=>⟨hk,.inr ⟨hr,rfl⟩⟩
 have HV:Hid (wI M P=if P=[] then 3 else if (dJ M P).2≠0 then (dJ M P).2 else if 0<=cz (M (dJ M P).1).E (cL P) then 3 else 0):=rfl;have ai:=Cz;clear h hT hP hs dt oZ uM;generalize Yy w M P=Q at *;generalize wI M P=ve at *;have e0:fU 0 ⟨#[]⟩ false 0= #[.int .i64 0,.string ⟨#[]⟩,.bool false,.int .i64 0]:=rfl;rcases eT P.length with h0|h0
 ·have ac:P=[]:=List.length_eq_zero_iff.1 h0
  obtain⟨w2,s1,s2,s3⟩:=z.out _ 0 ⟨#[]⟩ false 0 (az.refl _ _);have hv:ve=3:=by rw[HV.out,aC ac]
  have HF:=au (tz.out w2 3 s3 hv (by omega));rw[h0];clear s3 KT fW HJ sx z tz wQ HV hv ac h0 ag af;rw[e0] at *;clear e0;generalize hJ:dZ b o vp vq vd=J at *;have DF:=au s1;have yr:=au s2;clear s1 s2 hJ;go_enter func117,ntmps117;go_wp2_with(with_reducible refine gS 165 DF.out ?_);exact aL (dH results117 rfl yr.out rfl) rfl HF.out
 ·have G:P≠[]:=λe=>by rw[e] at h0;simp at h0
  have hv:ve=if (dJ M P).2≠0 then (dJ M P).2 else if 0<=cz (M (dJ M P).1).E (cL P) then 3 else 0:=by rw[HV.out,aB G]
  have aa:=au hv;clear HV hv G;unfold Np at KT;generalize dJ M P=R at *;generalize cz (M R.1).E (cL P)=f at *;generalize cL P=nm at *;have bl:((P.length:Int)==0)=false:=by rw[cQ];omega
  generalize P.length=m at *;clear h0;rw[e0] at *;clear e0;generalize hJ:dZ b o vp vq vd=J at *;clear hJ;obtain⟨x,ee⟩:=R
  dsimp only at *
  go_enter func117,ntmps117;go_wp2_with(with_reducible refine gL 79 sx.out ?_);refine KT.out.mono ?_;rintro e w1 ⟨W,⟨G,rfl⟩|⟨rfl,th,i,rfl,hh⟩⟩
  ·obtain⟨w2,p1,p2,p3⟩:=nL (d:=0) (nm:=⟨#[]⟩) (th:=false) (i:=0) (bh.new w1 #[.int .i64 0,.string ⟨#[]⟩,.bool false,.int .i64 0] 165) rfl
   have U:=W.trans' (((az.refl [] w1).alloc _).trans p3 (by intro x hx;rw[ay] at hx;omega));obtain⟨w3,s1,s2,s3⟩:=z.out w2 0 ⟨#[]⟩ false 0 U;have HF:=au (tz.out w3 ee s3 (by rw[aa.out,aC G]) G);have b1:(ee != 0)=true:=by simpa using G
   have ov:=au p1;have xX:=au s1;have zC:=au s2;clear p1 p2 p3 W U s1 s2 s3 G KT fW HJ sx z tz wQ aa;unfold fU at ov xX zC;go_wp2_with(first|(with_reducible refine gS 165 ov.out ?_)|(with_reducible refine gS 165 xX.out ?_));exact aL (dH results117 rfl zC.out rfl) rfl HF.out
  ·obtain⟨w2,p1,p2,p3⟩:=nL (d:=x) (nm:=nm) (th:=th) (i:=i) (bh.new w1 #[.int .i64 0,.string ⟨#[]⟩,.bool false,.int .i64 0] 165) rfl
   have U:=W.trans' (((az.refl [] w1).alloc _).trans p3 (by intro x hx;rw[ay] at hx;omega));have c1:w2.cell? ⟨w1.heap.size,2,none⟩=some (.bool th):=by rw[p2.cell];rfl
   have V:=aa.out;rw[aB (by simp)] at V;rcases hh with ⟨rfl,ah,rfl⟩|⟨rfl,ae,rfl⟩
   ·obtain⟨w3,s1,s2,s3⟩:=z.out w2 x nm false 0 U
    have HF:=au (wQ.out w3 s3 (by rw[V,aB (by omega)]));have ov:=au p1;have qN:=au (rA p2);have xX:=au s1;have zC:=au s2;clear p1 p2 p3 W U s1 s2 s3 KT fW HJ sx z tz wQ aa V ah;generalize fU x nm false 0=Zs at *;go_wp2_with(first|(with_reducible refine gS 165 ov.out ?_)|(with_reducible refine gS 165 xX.out ?_)|(with_reducible refine gL 165 qN.out ?_));exact aL (dH results117 rfl zC.out rfl) rfl HF.out
   ·obtain⟨w3,s1,s2,s3⟩:=z.out w2 0 ⟨#[]⟩ false 0 U
    have HF:=au (tz.out w3 3 s3 (by rw[V,aC ae]) (by omega));have ov:=au p1;have xX:=au s1;have zC:=au s2;clear p1 p2 p3 W U s1 s2 s3 KT fW HJ sx z tz wQ aa V ae;have es:fU 0 ⟨#[]⟩ false 0= #[.int .i64 0,.string ⟨#[]⟩,.bool false,.int .i64 0]:=rfl;rw[es] at xX zC HF;clear es;generalize fU x nm true _=Zs at *;go_wp2_with(first|(with_reducible refine gS 165 ov.out ?_)|(with_reducible refine gS 165 xX.out ?_));exact aL (dH results117 rfl zC.out rfl) rfl HF.out
end Go.Proofs.YtepbpdipenedhaaGreatDoor
