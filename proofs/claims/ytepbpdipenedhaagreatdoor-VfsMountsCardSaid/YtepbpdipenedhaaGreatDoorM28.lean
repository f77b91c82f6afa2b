/- Lemmas. -/
import Derived.Test.YtepbpdipenedhaaGreatDoorM27
import Derived.Laws.BytesString
set_option maxHeartbeats 4000000
set_option maxRecDepth 100000
namespace Go.Proofs.YtepbpdipenedhaaGreatDoor
open Go.Proofs.Tryz
open Go.RowKit
section
variable{M:Nat->Nd}{P:List ByteArray}{X:List Int}{n:Nat}{ex:List Nat}{T:List (bT×Value)}{own:Nat->List Nat}{o:jB}
end
section
variable{M:Nat->Nd}{P:List ByteArray}{X:List Int}{n:Nat}{ex:List Nat}{T:List (bT×Value)}{own:Nat->List Nat}{o:jB}
def Dk (K:Int):Bool:=K==0||K==1||K==2||K==7||K==8||K==12
def qE (M:Nat->Nd) (P:List ByteArray):Int:=
 if P=[] then 3 else if (bq M P).2≠0 then (bq M P).2 else if 0<=bg (M (bq M P).1).E (aS P) then 3 else 0
def kJ (M:Nat->Nd) (P:List ByteArray):Int:=
 if (bq M P).2≠0 then (bq M P).2 else if bg (M (bq M P).1).E (aS P)<0 then 2 else 0
theorem zr (h:qE M P=0):P≠[]/\(bq M P).2=0/\bg (M (bq M P).1).E (aS P)<0:=by
 unfold qE at h;split at h
 ·omega
 ·split at h
  ·omega
  ·split at h
   ·omega
   ·refine⟨by assumption,by omega,by omega⟩
theorem qK (h:kJ M P=0):(bq M P).2=0/\0<=bg (M (bq M P).1).E (aS P):=by
 unfold kJ at h;split at h
 ·omega
 ·split at h
  ·omega
  ·exact⟨by omega,by omega⟩
def cZ (M:Nat->Nd) (P:List ByteArray):Nat×Int:=if (cM M P).2=0/\(M (cM M P).1).K=2 then (0,5) else cM M P
theorem pY (h:(cZ M P).2=0):(cM M P).2=0/\(M (cM M P).1).K≠2/\cZ M P=cM M P:=by
 unfold cZ at h ⊢;split at h
 ·simp at h
 ·next hn=>rw[aA hn];exact⟨h,λz=>hn ⟨h,z⟩,rfl⟩
def z7 (X:List Int) (qs:List (Int×Int)) (M':Nat->Nd):Prop:=
 ∃h z,nM (az X qs) h z [] M'/\(∀k,8<=k->k<816->(az X qs).getD k 0=X.getD k 0)/\og X (az X qs) 400
theorem Goes.lands{qs:List (Int×Int)}{M':Nat->Nd}(h:Goes X qs [] M' n)(J:n<=400):z7 X qs M':=by
 obtain⟨U,W,h1,V,G⟩:=h;exact⟨U,W,h1,λk _ z=>V k z,G.mono J⟩
theorem Goes.trans{p q:List (Int×Int)}{ex':List Nat}{M1 z:Nat->Nd}{m:Nat}(h:Goes X p ex M1 n)(k:Goes (az X p) q ex' z m):Goes X (p++q) ex' z (n+m):=by
 obtain⟨-,-,-,h2,J⟩:=h;obtain⟨V,cW,U,W,k3⟩:=k;rw[Goes,bz];exact⟨V,cW,U,λj G=>by rw[W j G,h2 j G],J.trans k3⟩
theorem nM.stay(h:nM X T own [] M):z7 X [] M:=⟨T,own,h,λ_ _ _=>rfl,og.refl _ _⟩
def aeG (o:jB) (r h:mM):Prop:=r=h\/(o.K=12/\∃n:Int,(n=0\/n=1)/\r={ h with N:=n })
def lu (X:List Int) (M:Nat->Nd) (o:jB) (r:mM) (qs:List (Int×Int)):Prop:=
 (r.E=7/\Dk o.K=true/\((kF M o).2.E=0\/(kF M o).2.E=7)/\((aZ X).length<40\/(kF M o).2.E=7))\/
 (r.E≠0/\(kF M o).2=cV r.E)\/
 (r.E=0/\(kF M o).2.E=0/\aeG o r (kF M o).2/\z7 X qs (kF M o).1)
theorem LZ (h:o.K=0\/o.K=1):kF M o=He M o:=aB h
theorem Fm (h:o.K=2\/o.K=3\/o.K=4):kF M o=BJ M o:=by unfold kF;rw[aA,aB h]
theorem Dl (h:o.K=5\/o.K=6):kF M o=uz M o:=by unfold kF;rw[aA,aA,aB h]
theorem Dm (h:o.K=7):kF M o=uB M o:=by unfold kF;rw[aA,aA,aA,aB h]
theorem L3 (h:o.K=8):kF M o=Eg M o:=by unfold kF;rw[aA,aA,aA,aA,aB h]
theorem B0 (h:o.K=9\/o.K=10):kF M o=(M,BK M o):=by unfold kF;rw[aA,aA,aA,aA,aA,aB h]
theorem aeH (h:o.K=11):kF M o=(M,if o.N=1\/o.N=2 then fy else cV 1):=by unfold kF;rw[aA,aA,aA,aA,aA,aA,aB h]
theorem acg (h:o.K=12):kF M o=(M,fy):=by unfold kF;rw[aA,aA,aA,aA,aA,aA,aA,aB h]
theorem ach (h:¬(0<=o.K/\o.K<=12)):kF M o=(M,cV 1):=by unfold kF;rw[aA,aA,aA,aA,aA,aA,aA,aA]
theorem Ia (h:dw M){d:Nat}{nm:ByteArray}(G:bg (M d).E nm<0)(i:Int):wZ (M d).E nm i=xG (M d).E (nm,i):=by
 obtain⟨A,B,z,J⟩:=BL h G;rw[AK z,J]
theorem V7 (z:o.K=0\/o.K=1)(h:qE M o.P≠0):(kF M o).2=cV (qE M o.P):=by
 rw[LZ z];unfold He qE at *;split
 ·rfl
 ·next h1=>
  rw[aA h1] at h;split
  ·rfl
  ·next h2=>
   rw[aA h2] at h;split
   ·rfl
   ·next h3=>rw[aA h3] at h;exact absurd rfl h
theorem Tv (z:o.K=0\/o.K=1)(h:qE M o.P=0):kF M o=match vL M with
  |none=>(M,cV 7)
  |some i=>if (M (bq M o.P).1).E.length<24 then (Rf M (bq M o.P).1 i (1+o.K) (xG (M (bq M o.P).1).E (aS o.P,(i:Int))),{ fy with N:=(i:Int) }) else (M,cV 7):=by
 obtain⟨G,U,J⟩:=zr h;rw[LZ z];unfold He;rw[aA G,aA,aA];rfl
def W4 (F K:Int):bT:=⟨F,K,1,0,List.replicate 13 0,[]⟩
theorem ZH (k:Nat):(List.replicate 13 (0:Int)).getD k 0=0:=by
 rw[aj,bj];split<;>rfl
theorem ZJ{F K:Int}(hF:F=1\/F=2)(G:K=1\/K=2):cm (W4 F K):=by
 refine⟨hF,⟨by show(0:Int)<=1;omega,by show(1:Int)<=65535;omega⟩,?_⟩;rcases G with rfl|rfl
 ·refine .inl ⟨rfl,⟨by show(0:Int)<=0;omega,by show(0:Int)<=832;omega⟩,rfl,by show List.replicate 13 (0:Int)=jm (List.replicate 13 0) (bL 0);decide,λk z=> ?_⟩
  show(0<=(List.replicate 13 (0:Int)).getD k 0/\(List.replicate 13 (0:Int)).getD k 0<256)/\((List.replicate 13 (0:Int)).getD k 0≠0->_);rw[ZH];exact⟨by omega,λh=>absurd rfl h⟩
 ·exact .inr ⟨rfl,by show(0:Nat)<=24;omega,rfl,rfl,λk z=>by simp[W4] at z⟩
theorem OV:(fu (List.replicate 13 (0:Int))).length=0:=by decide
theorem aci (F K:Int):dv (W4 F K)=0:=by
 unfold dv;split
 ·rw[nK]
  show(if 6<(fu (List.replicate 13 (0:Int))).length then 1 else 0)+(0+2)/3+(0+2)/3+(0+2)/3+(0+2)/3=0;rw[OV];rfl
 ·simp[eY,bp,W4]
theorem ZK (F K:Int):dm (W4 F K)=[]:=rfl
theorem acj (X:List Int)(F K:Int):j5 X (W4 F K):=λ_ k z h=>by
 exact absurd (ZH k) h
theorem ack (X:List Int)(F K:Int):tK X (W4 F K)=⟨K,1,[],[]⟩:=by
 unfold tK;split
 ·rfl
 ·rfl
section
variable {X:List Int} {T:List (bT×Value)} {own:Nat->List Nat} {M:Nat->Nd}
theorem nM.made(h:nM X T own [] M){F K:Int}(hF:F=1\/F=2)(hK:K=1\/K=2){i r:Int}{qs:List (Int×Int)}(U:abV X (W4 F K) i r qs):
  (r=7/\qs=[]/\vL M=Option.none)\/(r=0/\∃j:Nat,i=(j:Int)/\vL M=some j/\j<32/\(M j).K=0/\Goes X qs [] (nv M j ⟨K,1,[],[]⟩) 12/\(aZ (az X qs)).length=(aZ X).length):=by
 rcases h.new rfl (ZJ hF hK) (aci F K) (ZK F K) (acj X F K) U with z|⟨z,j,h2,V,W,h5,cW,G,h7,J,h9⟩
 ·exact .inl z
 ·rw[ack] at G
  exact .inr ⟨z,j,h2,V,W,h5,⟨_,cW,G,J,h9⟩,h7⟩
theorem V8 (hT:dw M){o:jB}(hK:o.K=0\/o.K=1)(hv:qE M o.P=0){j:Nat}(hj:vL M=some j)(Cf:(M j).K=0){q1 q2:List (Int×Int)}{r:Int}(h1:Goes X q1 [] (nv M j ⟨1+o.K,1,[],[]⟩) 12)(pq:(aZ (az X q1)).length=(aZ X).length)
  (U:tN (az X q1) [] (nv M j ⟨1+o.K,1,[],[]⟩) (bq M o.P).1 (aS o.P) (j:Int) r q2):lu X M o { fy with N:=(j:Int),E:=r } (q1++q2):=by
 have z:=Tv (M:=M) hK hv;rw[hj] at z
 dsimp only at z
 obtain⟨g1,g2,g3⟩:=zr hv;have W:(bq M o.P).1≠j:=λe=>by
  have :=(pV (M:=M) g2).1;rw[e] at this;omega
 have hE:(nv M j ⟨1+o.K,1,[],[]⟩ (bq M o.P).1).E=(M (bq M o.P).1).E:=by rw[dI _ _ W]
 have J:=Ia hT g3 (j:Int);have V:Dk o.K=true:=by unfold Dk;rcases hK with h|h<;>rw[h]<;>rfl
 unfold tN at U;rw[hE,J,vN] at U;rcases U with ⟨rfl,-,G⟩|⟨rfl,G,h4⟩
 ·by_cases hl:(M (bq M o.P).1).E.length<24
  ·rw[aB hl] at z
   refine .inl ⟨rfl,V,.inl (by rw[z];rfl),.inl ?_⟩;rcases G with G|G
   ·omega
   ·rw[pq] at G;omega
  ·rw[aA hl] at z
   exact .inr (.inl ⟨by show(7:Int)≠0;omega,by rw[z]⟩)
 ·rw[aB] at z
  refine .inr (.inr ⟨rfl,by rw[z];rfl,.inl (by rw[z];rfl),?_⟩);rw[z];refine(h1.trans h4).lands (by omega)
end
def RA (w:World) (M:Nat->Nd) (P:List ByteArray) (e:Ending) (w':World):Prop:=
 ay [] w w'/\((qE M P≠0/\e= .returned (.tuple #[cG 0 ⟨#[]⟩ false 0,(qE M P:Int)]))\/(qE M P=0/\e= .returned (.tuple #[cG (bq M P).1 (aS P) false 0,(0:Int)])))
theorem Ku{w:World}{b gp:Nat}{B:List Int}{ps:List (Int×Int)}(h:rB w b gp B ps T own ex M)(hT:dw M)(o:jB)(vp vq vd:Value){v:Value}{g:Nat}{P:List ByteArray}(hP:gN w v g P)(hs:∀s∈P,s.size<=9223372036854775807):
  Calls prog 117 #[cA b o vp vq vd,v] w (RA w M P):=by
 have cJ:ay [] w ((w.alloc (.cells (cA b o vp vq vd) 79)).alloc (.cells (cG 0 ⟨#[]⟩ false 0) 165)):=((ay.refl _ _).alloc _).alloc _;have xB:=ar (Di (h.keep0 cJ) hT o vp vq vd (hP.keep cJ (by simp)) hs);obtain⟨a,cap,rfl,ae,af,-⟩:=hP.open;have fI:=ar cJ;have jR:bh ((w.alloc (.cells (cA b o vp vq vd) 79)).alloc (.cells (cG 0 ⟨#[]⟩ false 0) 165)) w.heap.size (cA b o vp vq vd) 79 :=(bh.new w _ _).alloc _;have sw:bh ((w.alloc (.cells (cA b o vp vq vd) 79)).alloc (.cells (cG 0 ⟨#[]⟩ false 0) 165)) (w.heap.size+1) (cG 0 ⟨#[]⟩ false 0) 165 :=bh.new2 w _ _ _ _;have HJ:Hid (bh _ w.heap.size (cA b o vp vq vd) _/\bh _ (w.heap.size+1) (cG 0 ⟨#[]⟩ false 0) _):=⟨jR,sw⟩;have lY:=ar (jJ jR)
 -- how a spot is told
 have z:Hid (∀wx d nm th i,ay [] ((w.alloc (.cells (cA b o vp vq vd) 79)).alloc (.cells (cG 0 ⟨#[]⟩ false 0) 165)) wx->∃wy,(storeVar 165 (w.heap.size+1:Nat) (.agg (cG d nm th i))).run prog wx= .ok () wy/\(loadVar 165 (w.heap.size+1:Nat)).run prog wy= .ok (.agg (cG d nm th i)) wy/\ay [] w wy):=λwx d nm th i hk=>by
  obtain⟨wy,s1,s2,s3⟩:=iU (d:=d) (nm:=nm) (th:=th) (i:=i) (HJ.out.2.keep hk (by simp)) rfl;exact⟨wy,s1,jr s2,(fI.out.trans' hk).trans s3 (by intro y hy;rw[au] at hy;omega)⟩
 have ry:Hid (∀w' r,ay [] w w'->qE M P=r->r≠0->RA w M P (.returned (.tuple #[cG 0 ⟨#[]⟩ false 0,(r:Int)])) w'):=λw' r hk hr h0=>⟨hk,.inl ⟨by rw[hr];exact h0,by rw[hr]⟩⟩
 have qZ:Hid (∀w',ay [] w w'->qE M P=0->RA w M P (.returned (.tuple #[cG (bq M P).1 (aS P) false 0,(0:Int)])) w'):=λw' hk hr=>⟨hk,.inr ⟨hr,rfl⟩⟩
 have HV:Hid (qE M P=if P=[] then 3 else if (bq M P).2≠0 then (bq M P).2 else if 0<=bg (M (bq M P).1).E (aS P) then 3 else 0):=rfl;have ai:=pj;clear h hT hP hs cJ jR sw;generalize RA w M P=Q,qE M P=ve at *;have e0:cG 0 ⟨#[]⟩ false 0= #[.int .i64 0,.string ⟨#[]⟩,.bool false,.int .i64 0]:=rfl;rcases dY P.length with h0|h0
 ·have ac:P=[]:=List.length_eq_zero_iff.1 h0
  obtain⟨w2,s1,s2,s3⟩:=z.out _ 0 ⟨#[]⟩ false 0 (ay.refl _ _);have hv:ve=3:=by rw[HV.out,aB ac]
  have HF:=ar (ry.out w2 3 s3 hv (by omega));rw[h0];clear s3 xB fI HJ lY z ry qZ HV hv ac h0 ae af;rw[e0] at *;clear e0;generalize hJ:cA b o vp vq vd=J at *;obtain⟨EI,xw⟩:=hh2 s1 s2;clear s1 s2 hJ;go_in;go_wp2_with(with_reducible refine gS 165 EI.out ?_);exact aI (eG results117 rfl xw.out rfl) rfl HF.out
 ·have G:P≠[]:=λe=>by rw[e] at h0;simp at h0
  have hv:ve=if (bq M P).2≠0 then (bq M P).2 else if 0<=bg (M (bq M P).1).E (aS P) then 3 else 0:=by rw[HV.out,aA G]
  have aa:=ar hv;clear HV hv G;unfold Em at xB;generalize bq M P=R at *;generalize bg (M R.1).E (aS P)=f at *;generalize aS P=nm at *;have bl:((P.length:Int)==0)=false:=by rw[cP];omega
  generalize P.length=m at *;clear h0;rw[e0] at *;clear e0;generalize hJ:cA b o vp vq vd=J at *;clear hJ;obtain⟨x,ee⟩:=R
  dsimp only at *
  go_in;go_wp2_with(with_reducible refine gL 79 lY.out ?_);refine xB.out.mono ?_;rintro e w1 ⟨W,⟨G,rfl⟩|⟨rfl,th,i,rfl,hh⟩⟩
  ·obtain⟨w2,p1,p2,p3⟩:=iU (d:=0) (nm:=⟨#[]⟩) (th:=false) (i:=0) (bh.new w1 #[(0:Int),.string ⟨#[]⟩,false,(0:Int)] 165) rfl
   have U:=W.trans' (((ay.refl [] w1).alloc _).trans p3 (by intro x hx;rw[au] at hx;omega));obtain⟨w3,s1,s2,s3⟩:=z.out w2 0 ⟨#[]⟩ false 0 U;have HF:=ar (ry.out w3 ee s3 (by rw[aa.out,aB G]) G);have b1:(ee != 0)=true:=by simpa using G
   obtain⟨jz,py,vE⟩:=hh3 p1 s1 s2;clear p1 p2 p3 W U s1 s2 s3 G xB fI HJ lY z ry qZ aa;unfold cG at jz py vE;go_wp2_with(with_reducible first|refine gS 165 jz.out ?_|refine gS 165 py.out ?_);exact aI (eG results117 rfl vE.out rfl) rfl HF.out
  ·obtain⟨w2,p1,p2,p3⟩:=iU (d:=x) (nm:=nm) (th:=th) (i:=i) (bh.new w1 #[(0:Int),.string ⟨#[]⟩,false,(0:Int)] 165) rfl
   have U:=W.trans' (((ay.refl [] w1).alloc _).trans p3 (by intro x hx;rw[au] at hx;omega));have c1:w2.cell? ⟨w1.heap.size,2,none⟩=some (.bool th):=by rw[p2.cell];rfl
   have V:=aa.out;rw[aA (by simp)] at V;rcases hh with ⟨rfl,ah,rfl⟩|⟨rfl,ag,rfl⟩
   ·obtain⟨w3,s1,s2,s3⟩:=z.out w2 x nm false 0 U
    obtain⟨HF,jz,rN,py,vE⟩:=hh5 (qZ.out w3 s3 (by rw[V,aA])) p1 (jr p2) s1 s2;clear p1 p2 p3 W U s1 s2 s3 xB fI HJ lY z ry qZ aa V ah;generalize cG x nm false 0=Zs at *;go_wp2_with(with_reducible first|refine gS 165 jz.out ?_|refine gS 165 py.out ?_|refine gL 165 rN.out ?_);exact aI (eG results117 rfl vE.out rfl) rfl HF.out
   ·obtain⟨w3,s1,s2,s3⟩:=z.out w2 0 ⟨#[]⟩ false 0 U
    obtain⟨HF,jz,py,vE⟩:=hh4 (ry.out w3 3 s3 (by rw[V,aB ag]) (by omega)) p1 s1 s2;clear p1 p2 p3 W U s1 s2 s3 xB fI HJ lY z ry qZ aa V ag;have es:cG 0 ⟨#[]⟩ false 0= #[.int .i64 0,.string ⟨#[]⟩,.bool false,.int .i64 0]:=rfl;rw[es] at py vE HF;clear es;generalize cG x nm true _=Zs at *;go_wp2_with(with_reducible first|refine gS 165 jz.out ?_|refine gS 165 py.out ?_);exact aI (eG results117 rfl vE.out rfl) rfl HF.out
end
end Go.Proofs.YtepbpdipenedhaaGreatDoor
