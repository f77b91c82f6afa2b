/- Lemmas. -/
import Derived.Test.YtimcfdnbpkiniaaGreatDoorM05
import Derived.Deep.DeepCutAuto
set_option maxHeartbeats 8000000
set_option maxRecDepth 100000
namespace Go.Proofs.YtimcfdnbpkiniaaGreatDoor
open Go.Proofs.Tryz
open Go.RowKit
variable{w:World}{T b gp m n o:Nat}{B X l:List Int}{ps:List (Int×Int)}
def eu (X:List Int) (p:Nat):List Int:=(List.range 8).map λj=>X.getD (p+j) 0
theorem iy (X:List Int)(p:Nat):(eu X p).length=8:=by simp[eu]
theorem kx (X:List Int)(p k:Nat)(h:k<8):(eu X p).getD k 0=X.getD (p+k) 0:=by
 rw[eu,aj,bO,cU h];rfl
def jM (p:Nat) (l:List Int) (k:Nat):List (Int×Int):=(List.range k).map λj=>(((p+j:Nat):Int),l.getD j 0)
theorem Ad (p:Nat)(l:List Int)(k:Nat):jM p l (k+1)=jM p l k++[(((p+k:Nat):Int),l.getD k 0)]:=by
 unfold jM;rw[dQ,ez];rfl
theorem oJ (p:Nat)(l:List Int)(k:Nat):(jM p l k).length=k:=by simp[jM]
theorem po (h:eN w b gp B ps)(p:Nat)(hp:p+8<=3128):
  Calls prog 62 #[b,(p:Int)] w λe w'=>e=(aX (eu (az B ps) p)).toArray/\ay [] w w':=by
 have vP:=ar h;have V:=iy (az B ps) p;have EA:Hid (∀(k:Nat) J,k<8->ay [] w J->Calls prog 57 #[b,.int .i64 ((p:Int)+(k:Int))] J λe w'=>e= .returned (.int .u64 ((eu (az B ps) p).getD k 0))/\J=w'):=λk J hk gD=>by
  have :=nW (vP.out.keep gD) ((p:Int)+(k:Int));unfold AV at this;rw[aB,show((p:Int)+(k:Int)).toNat=p+k by omega,<-kx _ p k hk] at this;exact this
 have xz:(aX (List.replicate 8 0)).toArray=(aX (eH 0 (eu (az B ps) p) 0)).toArray:=by rw[l8,V]
 clear h;generalize eu (az B ps) p=d at *;obtain⟨W,G⟩:∃W,W=(w.alloc (.cells (aX (List.replicate 8 0)).toArray 132)).alloc (.cells (aX (List.replicate 8 0)).toArray 132):=⟨_,rfl⟩;have oD:Hid (bc W w.heap.size (aX (List.replicate 8 0)).toArray 132):=by
  have :=(bc.new w (aX (List.replicate 8 0)).toArray 132).alloc (.cells (aX (List.replicate 8 0)).toArray 132);rw[<-G] at this;exact this
 have qC:Hid (bc W (w.heap.size+1) (aX (eH 0 d 0)).toArray 132):=by
  have :=bc.new (w.alloc (.cells (aX (List.replicate 8 0)).toArray 132)) (aX (List.replicate 8 0)).toArray 132;have e:(w.alloc (.cells (aX (List.replicate 8 0)).toArray 132)).heap.size=w.heap.size+1:=by simp
  rw[e,<-G,xz] at this;exact this
 have HK:Hid (ay [] w W):=by
  show ay _ _ _;rw[G];exact((ay.refl [] w).alloc _).alloc _
 have af:=kV;clear xz vP;generalize vW:(aX (List.replicate 8 0)).toArray=Z8 at *;go_in;go_wp2_with fail;rw[<-G];go_loopg [7] 8 (λgh s7 J=>∃k:Nat,k+gh=8/\s7= .int .i64 (k:Int)/\Hid (bc J (w.heap.size+1) (aX (eH 0 d k)).toArray 132/\bc J w.heap.size Z8 132/\ay [] w J))
 case atStart=>exact⟨0,by omega,rfl,qC.out,oD.out,HK.out⟩
 case round=>
  clear oD qC HK af G;obtain⟨k,hk,rfl,z⟩:=hrel;cases gk with
  |zero=>
   obtain rfl:k=8:=by omega
   have U:=z.out.1;rw[show eH 0 d 8=d by rw[<-V];exact nj 0 d] at U;have HL:=ar (fN U V);obtain⟨w2,hS,ac,aa⟩:=bE (P:= prog) (ty:= 132) (cs:=aX d) (by rw[bA,V];exact iZ) z.out.2.1 (by rw[<-vW];simp[bA,V]) (fk _);obtain⟨HS,rJ,jD⟩:=hh3 hS (fN ac V) (z.out.2.2.trans aa);clear hS U ac aa z hk;go_wp2_with(with_reducible first|refine gL 132 HL.out ?_|refine gS 132 HS.out ?_);exact aH (bu results62 rfl rJ.out) rfl ⟨rfl,jD.out⟩
  |succ gg=>
   have rM:k<8:=by omega
   have ai:(k:Int)<8:=by omega
   have cM:(0:Int)<=(k:Int):=by omega
   have HC:=ar (EA.out k wr rM z.out.2.2);have ah:wr.cell? ⟨w.heap.size+1,k,none⟩=some (.int .u64 ((eH 0 d k).getD k 0)):=by
    rw[z.out.1.cell,aG,dM (by rw[mg _ _ _ (by omega)];omega)]
   have hf:wr.frozen? ⟨w.heap.size+1,k,none⟩=false:=z.out.1.frozen k;have HB:Hid (bc (wr.setCell ⟨w.heap.size+1,k,none⟩ (.int .u64 (d.getD k 0))) (w.heap.size+1) (aX (eH 0 d (k+1))).toArray 132):=by
    have :=z.out.1.set k (.int .u64 (d.getD k 0));rw[ag,mz,l9 0 d k (by omega) (d.getD k 0) (by simp[show k<d.length by omega])] at this;exact this
   have ae:Hid (bc (wr.setCell ⟨w.heap.size+1,k,none⟩ (.int .u64 (d.getD k 0))) w.heap.size Z8 132):=z.out.2.1.other (by simp) _;have jD:=ar z.out.2.2;clear z;generalize d.getD k 0=x,(eH 0 d k).getD k 0=y at *;go_wp2_with fail;refine C' HC.out ?_;go_wp2;go_roundg gg;case measure=>omega
   case rel=>exact⟨k+1,by omega,by go_num,HB.out,ae.out,jD.out.setCell (by simp) _⟩
theorem rY{J:Nat}(h:eN w b J B ps)(hn:ps.length<=900000)(p:Nat)(hp:p+8<=3128)(l:List Int)(hl:l.length=8):
  Calls prog 182 #[b,(p:Int),(aX l).toArray] w (jN w b J B (ps++jM p l 8)):=by
 have HL:Hid ((loadVar 132 w.heap.size).run prog (w.alloc (.cells (aX l).toArray 132))= .ok (.agg (aX l).toArray) (w.alloc (.cells (aX l).toArray 132))):=fN (bc.new w _ _) hl;have HX:Hid (∀k,k<8->(aX l).toArray[k]? =some (.int .u64 (l.getD k 0))):=λk hk=>by rw[aG,dM (by omega)]
 have fG:Hid (ay [b,J] w (w.alloc (.cells (aX l).toArray 132))):=(ay.refl _ w).alloc _;have vP:=ar (h.keep ((ay.refl [] w).alloc (.cells (aX l).toArray 132)));clear h;generalize (aX l).toArray=Z at *;go_in;go_wp2_with(with_reducible refine gL 132 HL.out ?_);go_loopg [9] 8 (λgh s9 wx=>∃k:Nat,k+gh=8/\s9= .int .i64 (k:Int)/\Hid (∃z,(z=J\/(w.heap.size<=z/\z<wx.heap.size))/\eN wx b z B (ps++jM p l k)/\ay [b,J] w wx))
 case atStart=>exact⟨0,by omega,rfl,J,.inl rfl,by rw[show jM p l 0=[] from rfl,bz];exact vP.out,fG.out⟩
 case round=>
  clear vP fG HL;obtain⟨k,hk,rfl,HP⟩:=hrel;obtain⟨z,Ic,G,gD⟩:=HP.out;cases gk with
  |zero=>
   obtain rfl:k=8:=by omega
   have HE:Hid (jN w b J B (ps++jM p l 8) (.returned (.tuple #[])) wr):=⟨rfl,z,Ic,G,gD⟩;clear HP Ic G gD hk;go_wp2;go_end0;exact HE.out
  |succ gg=>
   have rM:k<8:=by omega
   have ae:(k:Int)<8:=by omega
   have cM:(0:Int)<=(k:Int):=by omega
   have Ib:=XH rM (HX.out k rM);have U:z6 (ps++jM p l k) ((p:Int)+(k:Int)) (l.getD k 0)=ps++jM p l (k+1):=by
    rw[z6,aB (by rw[ub];omega),Ad,aV,Int.natCast_add]
   have HC:=o7 G (by rw[aC,oJ];omega) ((p:Int)+(k:Int)) (l.getD k 0);rw[U] at HC;obtain⟨HC,HG,jD⟩:=hh3 HC Ic gD;clear HP Ic G gD U;generalize l.getD k 0=x at *;go_wp2_with fail;refine Rr HC.out ?_;rintro w2 ⟨lH,W,aa,V⟩;have HR:Hid (∃z,(z=J\/(w.heap.size<=z/\z<w2.heap.size))/\eN w2 b z B (ps++jM p l (k+1))/\ay [b,J] w w2):=by
    have ac:=jD.out.size;have Uj:=V.size;refine⟨lH,?_,aa,jD.out.trans V λx hx=> ?_⟩
    ·rcases HG.out with h|h<;>rcases W with h2|h2<;>omega
    ·simp only[aM,aK,bC] at hx ⊢
     rcases HG.out with h|h<;>omega
   clear W aa V;go_wp2;go_roundg gg;case measure=>omega
   case rel=>exact⟨k+1,by omega,by go_num,HR.out⟩
def xO (l:List Int) (e:Nat):Nat:=1080+8*(l.getD (e/4) 0).toNat+2*(e%4)
def Bd (X l:List Int) (e:Nat):Nat:=(X.getD (xO l e) 0).toNat
def zt (X l:List Int) (e:Nat):Int:=X.getD (xO l e+1) 0
def sQ (X l:List Int) (m:Nat):List (ByteArray×Int):=(List.range m).map λe=>(xk ((kD (Bd X l e)).getD []),zt X l e)
theorem qj (X l:List Int)(m:Nat):(sQ X l m).length=m:=by simp[sQ]
theorem Cz (X l:List Int)(m e:Nat)(h:e<m):eY (sQ X l m) e=xk ((kD (Bd X l e)).getD [])/\jq (sQ X l m) e=zt X l e:=by
 have :(sQ X l m).getD e (ByteArray.empty,0)=(xk ((kD (Bd X l e)).getD []),zt X l e):=by
  rw[sQ,aj,bO,cU h];rfl
 rw[eY,jq,this];exact⟨rfl,rfl⟩
theorem F7 (E:List (ByteArray×Int))(n e:Nat)(h:e<n):eY (E.take n) e=eY E e/\jq (E.take n) e=jq E e:=by
 have :(E.take n).getD e (ByteArray.empty,0)=E.getD e (ByteArray.empty,0):=by simp[h]
 rw[eY,jq,this];exact⟨rfl,rfl⟩
theorem Na (E:List (ByteArray×Int))(k c:Nat)(J:c=min 4 (E.length-4*k))(V:4*k<E.length):jf (E.take (4*k+c)) k=jf E k:=by
 unfold jf;rw[aJ,show min 4 (min (4*k+c) E.length-4*k)=c by omega,<-J];refine DJ (by rw[mL,mL]) λi z=> ?_
 rw[mL] at z;rw[qg _ _ _ _ z,qg _ _ _ _ z];by_cases h:i<2*c
 ·rw[aB h,aB h]
  obtain⟨G,U⟩:=F7 E (4*k+c) (4*k+i/2) (by omega);rw[KX,KX,G,U]
 ·rw[aA h,aA h]
def JJ (X l:List Int) (m k:Nat):Prop:=
 l.getD k 0≠0/\(∀j,j<min 4 (m-4*k)->(kD (Bd X l (4*k+j))).isSome=true/\zt X l (4*k+j)<32)/\jf (sQ X l m) k=eu X (1080+8*(l.getD k 0).toNat)
def pq (X l:List Int) (m:Nat):Prop:=m<=24/\l=jn l (bj m)/\∀k,k<bj m->JJ X l m k
theorem Uk (l:List Int)(k j:Nat)(h:j<4):xO l (4*k+j)=1080+8*(l.getD k 0).toNat+2*j:=by
 rw[xO,show(4*k+j)/4=k by omega,show(4*k+j)%4=j by omega]
theorem Qn{W:Nat}{l:List Nat}(h:kD W=some l):l.length<=7/\(∀c∈l,c<256)/\ig l=true/\sH l=W:=by
 unfold kD at h;split at h
 ·rename_i hc
  cases h;exact⟨by rw[aJ];omega,λc z=>R6 W c (bL z),hc.2.1,hc.2.2⟩
 ·cases h
theorem CA (W:Nat):(xk ((kD W).getD [])).size<=7:=by
 rw[Jy];cases h:kD W with
 |none=>simp
 |some l=>exact(Qn h).1
theorem F8{cap U Ts so mc:Nat}{h z:List Int}(V:bc w b (aX h).toArray T)(hs:bc w U (aX z).toArray Ts)(hm:m<=n)(W:o+m<=h.length)(aa:so+m<=z.length):
  ∃v w',(∀ty,(Builtin.copy_ #[65,65] ty #[.slice (some ⟨b,o,none⟩) n cap,.slice (some ⟨U,so,none⟩) m mc]).run prog w= .ok v w')/\bc w' b (aX (h.take o++(z.drop so).take m++h.drop (o+m))).toArray T/\ay [b] w w':=by
 have J:(aX ((z.drop so).take m)).length=min m n:=by rw[bA,aJ,bV];omega
 refine⟨_,_,λty=>run_copy_row (P:= prog) w 65 65 ty 70 b o n cap ⟨U,so,none⟩ m mc (aX h).toArray T (aX ((z.drop so).take m)) underlying65 qH V J ?_ ?_ ?_,?_,(ay.refl _ _).setRow (by simp) _⟩
 ·intro j u G
  have hj:j<m:=by
   have :=(List.getElem?_eq_some_iff.1 G).1;rw[J] at this;omega
  rw[dM (by rw[aJ,bV];omega)] at G;rw[add_plain,hs.cell,aG,dM (by omega),<-G];simp[hj]
 ·rw[J,bP,bA];omega
 ·exact λu G=>fk _ u G
 ·have e:((aX h).toArray.toList.take o++aX ((z.drop so).take m)++(aX h).toArray.toList.drop (o+(aX ((z.drop so).take m)).length)).toArray=(aX (h.take o++(z.drop so).take m++h.drop (o+m))).toArray:=by
   rw[J,cZ hm];simp[aX,List.map_drop]
  rw[e];exact j4 V
theorem Nb (b:Nat)(w:World):(Instr.sliceAt 248 (.pointer (some ⟨b,0,none⟩)) none none none).run prog w= .ok (.slice b 13 13) w:=by show Sem.run _ _ _=_;kernel_rfl
theorem KY (b:Nat)(w:World):(Instr.sliceAt 248 (.pointer (some ⟨b,0,none⟩)) (some (.int .i64 5)) none none).run prog w= .ok (.slice (some ⟨b,5,none⟩) 8 8) w:=by show Sem.run _ _ _=_;kernel_rfl
theorem F9 (b:Nat)(w:World):(Instr.sliceAt 132 (.pointer (some ⟨b,0,none⟩)) (some (.int .i64 2)) (some (.int .i64 7)) none).run prog w= .ok (.slice (some ⟨b,2,none⟩) 5 6) w:=by show Sem.run _ _ _=_;kernel_rfl
def dI (X r:List Int):List Int:=(r.drop 2).take 5++(if r.getD 7 0=0 then List.replicate 8 0 else eu X (1080+8*(r.getD 7 0).toNat))
def zI (X r:List Int):Prop:=r.getD 7 0<256/\(∀k,k<13->(dI X r).getD k 0<256)/\(r.getD 7 0=0\/(dI X r).drop 5≠List.replicate 8 0)
instance (X r:List Int):Decidable (zI X r):=by unfold zI;infer_instance
theorem wj{r:List Int}(h:r.length=8):(dI X r).length=13:=by
 unfold dI;split
 ·simp[h]
 ·simp[h,iy]
theorem KZ (f row:List Int)(h:f.length=5)(z:row.length=8):(f++List.replicate 8 (0:Int)).take 5++(row.drop 0).take 8++(f++List.replicate 8 (0:Int)).drop (5+8)=f++row:=by
 rw[List.take_left' h,List.drop_zero,aW (by omega),dV (by simp[h]),bz]
def aby (w:World) (X r:List Int) (e:Ending) (w':World):Prop:=
 ∃h z ok,e= .returned (.tuple #[(zs h).toArray,(z:Int),.bool ok])/\(ok=true->zI X r/\h=dI X r/\z=r.getD 7 0)/\(ok=false->¬zI X r)/\h.length=13/\ay [] w w'
theorem K0 (h:eN w b gp B ps)(aN:In64 (az B ps))(r:List Int)(hr:r.length=8)(xq:In64 r):
  Calls prog 177 #[(b:Nat),(aX r).toArray] w (aby w (az B ps) r):=by
 obtain⟨HS,uM,zu⟩:=hh3 h aN xq;have WV:=pd;have EU:=XF
 -- the world behind the three variables
 have aM:=((bc.new w (aX r).toArray 132).alloc (.cells (zs (List.replicate 13 0)).toArray 73)).alloc (.cells (aX (List.replicate 13 0)).toArray 248);have U:=(bc.new (w.alloc (.cells (aX r).toArray 132)) (zs (List.replicate 13 0)).toArray 73).alloc (.cells (aX (List.replicate 13 0)).toArray 248);have V:=bc.new ((w.alloc (.cells (aX r).toArray 132)).alloc (.cells (zs (List.replicate 13 0)).toArray 73)) (aX (List.replicate 13 0)).toArray 248;rw[show(w.alloc (.cells (aX r).toArray 132)).heap.size=w.heap.size+1 by simp] at U;rw[show((w.alloc (.cells (aX r).toArray 132)).alloc (.cells (zs (List.replicate 13 0)).toArray 73)).heap.size=w.heap.size+1+1 by simp] at V;obtain⟨v1,w1,zH,aP,aI⟩:=F8 (o:=0) (n:=13) (cap:=13) (so:=2) (m:=5) (mc:=6) V.drew aM.drew (by omega) (by simp) (by omega);have bf:ay [] w w1:=(((((ay.refl [] w).alloc _).alloc _).alloc _).drew).trans aI (by intro x J;rw[au] at J;omega);have aQ:=aM.drew.keep aI (by rw[au];omega);have XZ:=U.drew.keep aI (by rw[au];omega);have xP:(List.replicate 13 (0:Int)).take 0++(r.drop 2).take 5++(List.replicate 13 (0:Int)).drop (0+5)=(r.drop 2).take 5++List.replicate 8 0:=by simp
 rw[xP] at aP;obtain⟨bg,ax,pO,zC,jv⟩:=hh5 zH aP aQ XZ bf;have bN:=Nb (w.heap.size+1+1);have Py:=F9 w.heap.size;have c7:w1.cell? ⟨w.heap.size,7,none⟩=some (.int .u64 (r.getD 7 0)):=by rw[aQ.cell,aG,dM (by omega)]
 have Ey:Hid (dI (az B ps) r=(r.drop 2).take 5++(if r.getD 7 0=0 then List.replicate 8 0 else eu (az B ps) (1080+8*(r.getD 7 0).toNat))):=rfl;have ui:=ar (wj (X:=az B ps) hr);have jT:Hid (zI (az B ps) r↔r.getD 7 0<256/\(∀k,k<13->(dI (az B ps) r).getD k 0<256)/\(r.getD 7 0=0\/(dI (az B ps) r).drop 5≠List.replicate 8 0)):=Iff.rfl;have bq:Hid (In64 (dI (az B ps) r)):=by
  intro i;have e:dI (az B ps) r=(r.drop 2).take 5++(if r.getD 7 0=0 then List.replicate 8 0 else eu (az B ps) (1080+8*(r.getD 7 0).toNat)):=rfl;by_cases hi:i<5
  ·have :(dI (az B ps) r).getD i 0=r.getD (2+i) 0:=by
    rw[e];simp only[aj];rw[bh (by simp[hr];omega),bU,aB hi,cj]
   rw[this];exact xq _
  ·have h2:(dI (az B ps) r).getD i 0=(if r.getD 7 0=0 then List.replicate 8 0 else eu (az B ps) (1080+8*(r.getD 7 0).toNat)).getD (i-5) 0:=by
    rw[e];simp only[aj];rw[aT (by simp[hr];omega)];simp[hr]
   rw[h2];split
   ·rw[aj,bB]
    split<;>simp
   ·by_cases h8:i-5<8
    ·rw[kx _ _ _ h8]
     exact aN _
    ·rw[aj,aZ (by rw[iy];omega)]
     simp
 have uR:=xq 7;clear aM U V zH aP aI bf aQ XZ h aN xq xP;generalize aY:r.getD 7 0=li at *;have Su:=ar aY;clear aY;generalize (aX r).toArray=Z,bo:(zs (List.replicate 13 0)).toArray=ZN at *;have K3:=ar bo;clear bo;generalize (aX (List.replicate 13 0)).toArray=ZR at *;have lJ:Hid (∀z,bc z (w.heap.size+1) ZN 73->∃w',(storeVar 73 (w.heap.size+1:Nat) (.agg ZN)).run prog z= .ok () w'/\(loadVar 73 (w.heap.size+1:Nat)).run prog w'= .ok (.agg ZN) w'/\ay [w.heap.size+1] z w'):=λz hb=>by
  have hz:=K3.out;obtain⟨w',h1,h2,h3⟩:=bE (P:= prog) (ty:= 73) (cs:=zs (List.replicate 13 0)) (by rw[eT];exact lS) hb (by rw[<-hz];simp) (nt _);have h4:=fy (l:=List.replicate 13 0) (off:=0) h2 (by simp) (λk hk=>by rw[bp,aG,gI (by simpa using hk)]);rw[hz] at h1 h4;exact⟨w',h1,h4,h3⟩
 by_cases bD:256<=li
 ·have HF:Hid (¬zI (az B ps) r):=λh=>by have :=(jT.out.1 h).1;omega
  obtain⟨w2,af,pN,aa⟩:=lJ.out w1 zC.out;obtain⟨aO,mO,fC⟩:=hh3 af pN (jv.out.trans aa);clear af pN aa Ey jT bq;go_in;go_wp2_with fail;refine jR (l:=[_,_]) (S:=λz=>z=(((w.alloc (.cells Z 132)).alloc (.cells ZN 73)).alloc (.cells ZR 248)).drew) rfl rfl ?_;repeat (refine aS.cons ?_ (bG.val rfl ?h) ?_;(case h=>(intro z J;go_simp;rfl));simp only[Act.put,ag,ah,ai])
  refine aS.done λz J=> ?_
  subst J;refine jm rfl (.tmp 13) (.tmp 14) 65 65 rfl _ _ rfl rfl (bg.out _) ?_;go_wp2_with(with_reducible refine gS 73 aO.out ?_);refine aH (cJ results177 rfl mO.out rfl rfl) rfl ⟨List.replicate 13 0,0,false,?_,λh=>(by cases h),λ_=>HF.out,by simp,fC.out⟩;rw[K3.out];rfl
 ·have bH:wrap64 li=li:=by unfold wrap64;omega
  have bT:=kV;have bv:Hid (IntKind.i64.wrap li=li):=fR _ (by omega);go_in;go_wp2_with fail;refine jR (l:=[_,_]) (S:=λz=>z=(((w.alloc (.cells Z 132)).alloc (.cells ZN 73)).alloc (.cells ZR 248)).drew) rfl rfl ?_;repeat (refine aS.cons ?_ (bG.val rfl ?h) ?_;(case h=>(intro z J;go_simp;rfl));simp only[Act.put,ag,ah,ai])
  refine aS.done λz J=> ?_
  subst J;refine jm rfl (.tmp 13) (.tmp 14) 65 65 rfl _ _ rfl rfl (bg.out _) ?_
  go_upto_if 22 with fail
  go_cut [] (λz=>Hid (bc z (w.heap.size+1+1) (aX (dI (az B ps) r)).toArray 248/\bc z (w.heap.size+1) ZN 73/\ay [] w z))
  case first=>
   by_cases W:li=0
   ·have ae:Hid (bc w1 (w.heap.size+1+1) (aX (dI (az B ps) r)).toArray 248):=by
     have e:=Ey.out;rw[aB W] at e;show bc _ _ _ _;rw[e];exact ax.out
    have e1:(li != 0)=false:=by rw[bne,beq_iff_eq.2 W];rfl
    have HR:Hid (bc w1 (w.heap.size+1+1) (aX (dI (az B ps) r)).toArray 248/\bc w1 (w.heap.size+1) ZN 73/\ay [] w w1):=⟨ae.out,zC.out,jv.out⟩;go_wp2_with fail;go_meet;case rel=>exact HR.out
   ·have e1:(li != 0)=true:=bne_iff_ne.2 W
    obtain⟨q,hq⟩:∃q:Nat,li=(q:Int):=⟨li.toNat,by omega⟩;have X0:=ar (j6 li w1);have aJ:iG li=((1080+8*q:Nat):Int):=by unfold iG;rw[aA];omega
    rw[aJ] at X0;have mZ:Hid (∀z,ay [] w z->Calls prog 62 #[(b:Nat),((1080+8*q:Nat):Int)] z λe w'=>e=(aX (eu (az B ps) (1080+8*q))).toArray/\ay [] z w'):=λz hk=>po (HS.out.keep hk) (1080+8*q) (by omega)
    have bt:Hid (dI (az B ps) r=(r.drop 2).take 5++eu (az B ps) (1080+8*q)):=by
     have e:=Ey.out;rw[aA W,hq,aF] at e;exact e
    have aD:=ar (iy (az B ps) (1080+8*q));have bM:=KY (w.heap.size+1+1);have bJ:=wh;clear Ey aJ hq;generalize eu (az B ps) (1080+8*q)=row,((1080+8*q:Nat):Int)=p,vW:(aX (List.replicate 8 0)).toArray=Z8 at *;go_wp2_with fail;refine C' X0.out ?_;go_wp2_with fail;refine Rr (mZ.out _ jv.out) λw2 aa=> ?_;obtain⟨w3,af,EB,aC⟩:=bE (P:= prog) (ty:= 132) (cs:=aX row) (by rw[bA,aD.out];exact iZ) (bc.new w2 Z8 132) (by rw[<-vW];simp[bA,aD.out]) (fk _);have Ql:w.heap.size+1+1<w2.heap.size:=bQ ax.out.lt aa.size;have aR:ay [] w (w3.drew):=((((jv.out.trans' aa).alloc (.cells Z8 132)).trans aC (by intro x J;rw[au] at J;have :=jv.out.size;have :=aa.size;omega))).drew;have aV:=((ax.out.keep aa).alloc (.cells Z8 132)).keep aC (by rw[au];omega);have aW:=((zC.out.keep aa).alloc (.cells Z8 132)).keep aC (by rw[au];omega);obtain⟨v4,wA,X3,aL,aK⟩:=F8 (o:=5) (n:=8) (cap:=8) (so:=0) (m:=8) (mc:=8) aV.drew EB.drew (by omega) (by simp[hr]) (by have :=aD.out;omega);have Sy:((r.drop 2).take 5++List.replicate 8 (0:Int)).take 5++(row.drop 0).take 8++((r.drop 2).take 5++List.replicate 8 (0:Int)).drop (5+8)=dI (az B ps) r:=by
     rw[bt.out];exact KZ _ _ (by simp[hr]) aD.out
    rw[Sy] at aL;obtain⟨ae,av,ak,aO,bw⟩:=hh5 aL (aW.drew.keep aK (by rw[au];omega)) (aR.trans aK (by intro x J;rw[au] at J;omega)) af X3;clear af EB aC Ql aR aV aW X3 aL aK Sy aa;go_wp2_with(with_reducible refine gS 132 aO.out ?_);refine jR (l:=[_,_]) (S:=λz=>z=w3.drew) rfl rfl ?_;repeat (refine aS.cons ?_ (bG.val rfl ?h) ?_;(case h=>(intro z J;go_simp;rfl));simp only[Act.put,ag,ah,ai])
    refine aS.done λz J=> ?_
    subst J;refine jm rfl (.tmp 28) (.tmp 29) 65 65 rfl _ _ rfl rfl (bw.out _) ?_;have HR:Hid (bc wA (w.heap.size+1+1) (aX (dI (az B ps) r)).toArray 248/\bc wA (w.heap.size+1) ZN 73/\ay [] w wA):=⟨ae.out,av.out,ak.out⟩;go_wp2_with fail;go_meet;case rel=>exact HR.out
  case rest=>
   generalize wc=wA at *;obtain⟨ae,av,ak⟩:=hh3 hcut.out.1 hcut.out.2.1 hcut.out.2.2;clear hcut Ey;obtain⟨ba,bb⟩:=hh2 (bc.new wA ZN 73) (XI (ae.out.alloc (.cells ZN 73)) ui.out);have HU:Hid (∀k,k<13->(aX (dI (az B ps) r)).toArray[k]? =some (.int .u64 ((dI (az B ps) r).getD k 0))):=λk hk=>by rw[aG,dM (by rw[ui.out];exact hk)]
   have Ga:Hid (w.heap.size+1+1<wA.heap.size):=ae.out.lt;clear ae;generalize br:dI (az B ps) r=G at *;have bl:=ar br;clear br;generalize (aX G).toArray=UA at *;go_wp2_with(with_reducible refine gL 248 bb.out ?_);clear EU bb;go_loopg [32] 13 (λgh s32 z=>∃k:Nat,k+gh=13/\s32= .int .i64 (k:Int)/\Hid (bc z wA.heap.size (zs (eH 0 G k)).toArray 73/\bc z (w.heap.size+1) ZN 73/\(∀i,i<k->G.getD i 0<256)/\ay [] w z))
   case atStart=>
    refine⟨0,by omega,rfl,?_,av.out.alloc _,by simp,ak.out.alloc _⟩;rw[l8,ui.out,K3.out];exact ba.out
   case round=>
    clear av ak ba;obtain⟨k,hk,rfl,HP⟩:=hrel;obtain⟨U,V,ac,gD⟩:=HP.out;cases gk with
    |zero=>
     obtain rfl:k=13:=by omega
     rw[show eH 0 G 13=G by rw[<-ui.out];exact nj 0 G] at U;have aU:wA.heap.size∉[w.heap.size+1]:=by have :=Ga.out;rw[au];omega
     have rW:=ar (λ(z:World) (hk:ay [w.heap.size+1] wr z)=>fy (off:=0) (U.keep hk aU) ui.out (λk hk=>by rw[bp,aG,gI (by rw[ui.out];exact hk)]));have Ie:Hid (∀z,bc z (w.heap.size+1) ZN 73->∃w',(storeVar 73 (w.heap.size+1:Nat) (.agg (zs G).toArray)).run prog z= .ok () w'/\bc w' (w.heap.size+1) (zs G).toArray 73/\ay [w.heap.size+1] z w'):=λz hb=>by
      have hz:=K3.out;exact bE (P:= prog) (ty:= 73) (cs:=zs G) (by rw[eT,ui.out];exact lS) hb (by rw[<-hz,eT,ui.out];simp[eT]) (nt _)
     have bz:Hid (∀z,bc z (w.heap.size+1) (zs G).toArray 73->(loadVar 73 (w.heap.size+1:Nat)).run prog z= .ok (.agg (zs G).toArray) z):=λz hb=>fy (off:=0) hb ui.out (λk hk=>by rw[bp,aG,gI (by rw[ui.out];exact hk)])
     obtain⟨jD,Be⟩:=hh2 gD V;have bS:w.heap.size<=w.heap.size+1:=by omega
     obtain⟨bu,Qo⟩:=hh2 (KT G ui.out) (λz=>ac8 (a:=G.drop 5) (b:=List.replicate 8 0) (by simp[ui.out]) rfl z);have MV:=MM;have bR:=KM;obtain⟨t,ht⟩:∃t,decide (G.drop 5=List.replicate 8 0)=t:=⟨_,rfl⟩;have HF:Hid (zI (az B ps) r↔li=0\/t=false):=by
      show _↔_;rw[jT.out,<-ht,decide_eq_false_iff_not];exact⟨λh=>h.2.2,λh=>⟨by omega,ac,h⟩⟩
     rw[ht] at Qo;have bI:=Qo.out;generalize (zs (G.drop 5)).toArray=ZD,(zs (List.replicate 8 0)).toArray=ZE at *;clear ht Qo;clear HP U V ac gD hk jT ax pO zC jv aU;generalize bj:(zs G).toArray=ZA at *;have bn:=ar bj;clear bj;by_cases W:li=0;have e0:(li==0)=true:=beq_iff_eq.2 W
     rotate_left
     have e0:(li==0)=false:=cg.2 W
     rotate_left
     all_goals
      go_wp2_with fail;refine Ew (l:=[_,_,_,_,_,_,_,_,_,_,_]) (f:=_) (mid:=[_]) (o:=_) (tl:=[]) (S:=λb z=>ay [w.heap.size+1] wr z/\bc z (w.heap.size+1) (cond b ZA ZN) 73) (by kernel_rfl) rfl (by kernel_rfl) (λd _ _ _ _ h=>by cases d<;>exact h) ⟨(ay.refl _ _).drew,Be.out.drew⟩ (by kernel_rfl) (by kernel_rfl) ?_;repeat (
       (first
       |(refine jW.cons (.agg ZA) (λb=>bG.load rfl 73 (.tmp 10) rfl _ rfl λz J=>rW.out z J.1) ?_)
       |(refine jW.cons (.agg ZD) (λb=>bG.call rfl 204 #[ZA] ?he ?h) ?_;(case he=>(intro wz;go_simp));(case h=>exact λz J=>(bu.out z).mono λe w' he=>⟨he.1,J.1.trans he.2,J.2.keep he.2⟩))
       |(refine jW.cons undef (λb=>bG.off rfl) ?_)
       |(refine jW.cons ?_ (λb=>bG.val rfl ?h) ?_;(case h=>(intro z J;clear J;go_simp;rfl))));simp only[Act.put,ag,ah,ai])
      refine jW.done ⟨undef,Jz.store rfl 73 (.tmp 4) (.tmp 44) rfl _ rfl _ rfl (λz J=> ?_),?_⟩
      ·obtain⟨w',h1,h2,h3⟩:=Ie.out z J.2
       exact⟨w',h1,J.1.trans' h3,h2⟩
      refine aS.cons ?_ (bG.val rfl ?h) ?_;case h=>intro z J;clear J;go_simp;rfl
      simp only[Act.put,ag,ah,ai];refine aS.done λz J=> ?_
      obtain⟨bk,rX⟩:=hh2 (bz.out z J.2) (jD.out.trans J.1 (by intro x J;rw[au] at J;omega));clear J;go_wp2_with fail
     ·refine aH (cJ results177 rfl bk.out rfl rfl) rfl ⟨G,0,true,?_,λ_=>⟨HF.out.2 (.inl W),bl.out.symm,by rw[Su.out];exact W.symm⟩,λh=>(by cases h),ui.out,rX.out⟩
      rw[bn.out];rfl
     ·refine aH (cJ results177 rfl bk.out rfl rfl) rfl ⟨G,li,!t,?_,λh=>⟨HF.out.2 (.inr (by simpa using h)),bl.out.symm,Su.out.symm⟩,λh hn=> ?_,ui.out,rX.out⟩
      ·rw[bn.out]
       show Ending.returned (.tuple #[ZA,(IntKind.i64.wrap li:Int),.bool !t])=_;rw[bv.out]
      ·have :=(HF.out.1 hn).resolve_left W
       rw[this] at h;cases h
    |succ gg=>
     have lZ:k<13:=by omega
     have bP:(k:Int)<13:=by omega
     have cM:(0:Int)<=(k:Int):=by omega
     have Ib:=TU lZ (HU.out k lZ);have bL:=bq.out k;by_cases Qi:256<=G.getD k 0
     ·have HF:Hid (¬zI (az B ps) r):=λh=>by have :=(jT.out.1 h).2.1 k lZ;omega
      obtain⟨w5,Gb,Nc,kr⟩:=lJ.out wr V;obtain⟨EC,Ul,pU⟩:=hh3 Gb Nc (gD.trans kr);clear Gb Nc kr HP U V ac gD hk;generalize G.getD k 0=x at *;go_wp2_with(with_reducible refine gS 73 EC.out ?_);refine aH (cJ results177 rfl Ul.out rfl rfl) rfl ⟨List.replicate 13 0,0,false,?_,λh=>(by cases h),λ_=>HF.out,by simp,pU.out⟩;rw[K3.out];rfl
     ·have bO:wrap64 (G.getD k 0)=G.getD k 0:=by unfold wrap64;omega
      have bC:wr.cell? ⟨wA.heap.size,k,none⟩=some (.int .i64 ((eH 0 G k).getD k 0)):=by
       rw[U.cell,aG,gI (by rw[mg _ _ _ (by rw[ui.out];omega),ui.out];exact lZ)]
      have bK:wr.frozen? ⟨wA.heap.size,k,none⟩=false:=U.frozen k;have HR:Hid (bc (wr.setCell ⟨wA.heap.size,k,none⟩ (.int .i64 (G.getD k 0))) wA.heap.size (zs (eH 0 G (k+1))).toArray 73/\bc (wr.setCell ⟨wA.heap.size,k,none⟩ (.int .i64 (G.getD k 0))) (w.heap.size+1) ZN 73/\(∀i,i<k+1->G.getD i 0<256)/\ay [] w (wr.setCell ⟨wA.heap.size,k,none⟩ (.int .i64 (G.getD k 0)))):=by
       have bF:=Ga.out;refine⟨?_,V.other (by show w.heap.size+1≠wA.heap.size;omega) _,λi hi=> ?_,gD.setCell (.inr (by show w.heap.size<=wA.heap.size;omega)) _⟩
       ·have :=U.set k (.int .i64 (G.getD k 0))
        rw[ag,XB,l9 0 G k (by rw[ui.out];exact lZ) (G.getD k 0) (by simp[show k<G.length by rw[ui.out];exact lZ])] at this;exact this
       ·by_cases e:i=k
        ·subst e;omega
        ·exact ac i (by omega)
      clear HP U V ac gD;generalize G.getD k 0=x,(eH 0 G k).getD k 0=y at *;go_wp2;go_roundg gg;case measure=>omega
      case rel=>exact⟨k+1,by omega,by go_num,HR.out⟩
theorem Um (b c:Nat)(z:c<=8)(w:World):(Instr.sliceAt 132 (.pointer (some ⟨b,0,none⟩)) none (some (.int .i64 (c:Int))) none).run prog w= .ok (.slice b c 8) w:=by
 have h:c=0\/c=1\/c=2\/c=3\/c=4\/c=5\/c=6\/c=7\/c=8:=by omega
 rcases h with rfl|rfl|rfl|rfl|rfl|rfl|rfl|rfl|rfl
 all_goals (show Sem.run _ _ _=_;kernel_rfl)
theorem bc.reads{c:Nat}(h:bc w b (aX l).toArray T)(U:o+n<=l.length)(J:n<=c)(V:c<=1000):Reads w (.slice (some ⟨b,o,none⟩) n c) b (aX ((l.drop o).take n)):=by
 have z:(aX ((l.drop o).take n)).length=n:=by grind [bA]
 refine⟨_,c,by rw[z],by rw[z];exact J,by unfold maxLen;omega,λ_=>⟨h.lt,o,rfl,λj G=> ?_⟩⟩;rw[z] at G;rw[h.cell,aG,dM (by omega),dM (by grind)];simp[G]
theorem ay.grown2{wr h:World}{row:Option Nat}(J:ay [] w wr)(G:wr.grownBy h row)(z:∀k,row=some k->w.heap.size<=k):ay [] w h:=J.grown G z
def py (w:World) (X l:List Int) (m:Nat) (e:Ending) (w':World):Prop:=
 ∃v E ok g,e= .returned (.tuple #[v,.bool ok])/\bD w' v g E/\w.heap.size<=g/\(ok=true->pq X l m/\E=sQ X l m)/\(ok=false->¬pq X l m/\E=[])/\ay [] w w'
theorem py.no{w':World}(h:¬pq X l m)(z:ay [] w w'):py w X l m (.returned (.tuple #[(),false])) w':=
 ⟨_,[],false,w.heap.size,rfl,bD.nil _ _,aI _,λh=>(by cases h),λ_=>⟨h,rfl⟩,z⟩
theorem K4 (h:eN w b gp B ps)(aK:In64 (az B ps))(l:List Int)(hl:l.length=13)(Sz:∀k,0<=l.getD k 0/\l.getD k 0<256)(m:Nat)(hm:m<=832):
  Calls prog 178 #[b,(zs l).toArray,(m:Int)] w (py w (az B ps) l m):=by
 obtain⟨HS,uM⟩:=hh2 h aK;have ak:=bc.new w (zs l).toArray 73;have pO:=ar ak;have fG:Hid (ay [] w (w.alloc (.cells (zs l).toArray 73))):=(ay.refl _ _).alloc _;have aR:=Bb m 4 (by omega) (by omega) (by omega);rw[show(m+4-1)/4=bj m by unfold bj;congr 1] at aR;have HP:=ar aR;have DL:bj m<=300:=by unfold bj;omega
 have mO:Hid (∀z,ay [] (w.alloc (.cells (zs l).toArray 73)) z->(loadVar 73 w.heap.size).run prog z= .ok (.agg (zs l).toArray) z):=λz hk=>
  fy (off:=0) (ak.keep hk) hl (λk hk=>by rw[bp,aG,gI (by omega)])
 have X4:Hid (∀z k,k<13->ay [] (w.alloc (.cells (zs l).toArray 73)) z->z.cell? ⟨w.heap.size,k,none⟩=some (.int .i64 (l.getD k 0))):=λz k hk gD=>by
  rw[(ak.keep gD).cell,aG,gI (by omega)]
 obtain⟨bk,HL⟩:=hh2 Sz hl;clear h aK ak aR Sz;generalize hz:(zs l).toArray=Z at *;have HZ:=ar hz;clear hz;by_cases Px:24<m
 ·have HN:Hid (¬pq (az B ps) l m):=λh=>by have :=h.1;omega
  have cC:(24:Int)<(m:Int):=by omega
  generalize bj m=W at *;clear hl;go_in;go_wp2_with fail;refine C' (HP.out _) ?_;go_wp2_with fail;have av:decide (24<m)=true:=bq Px;refine iW (S:=λz=>z=(w.alloc (.cells Z 73)).drew) rfl ?_;repeat (
   (first
   |(refine aS.cons undef (bG.off rfl) ?_)
   |(refine aS.cons (.bool true) (bG.val rfl ?h) ?_;(case h=>(intro z G;clear G;first|(go_simp;done)|(go_simp;simp[av];done))))
   |(refine aS.cons ?_ (bG.val rfl ?h) ?_;(case h=>(intro z G;go_simp;rfl))));simp only[Act.put,ag,ah,ai])
  refine aS.done λz G=> ?_
  subst G;go_wp2;go_ret2;exact py.no HN.out fG.out.drew
 ·have av:decide (24<m)=false:=aP Px
  have cv:¬(24:Int)<(m:Int):=by omega
  have Qp:bj m<=13:=by unfold bj;omega
  obtain⟨HU,Iz⟩:=hh2 (Sr l (bj m) hl Qp) (λz=>P6 (a:=l) (b:=jn l (bj m)) hl (nI hl Qp) z);rw[HZ.out] at HU Iz;have bU:=Cs;obtain⟨t,ht⟩:∃t,decide (l=jn l (bj m))=t:=⟨_,rfl⟩;rw[ht] at Iz;have b7:=Iz.out;generalize (zs (jn l (bj m))).toArray=ZU at *;clear Iz;cases t
  ·have HN:Hid (¬pq (az B ps) l m):=λh=>of_decide_eq_false ht h.2.1
   clear ht hl HL bk;generalize bj m=W at *;go_in;go_wp2_with fail;refine C' (HP.out _) ?_;go_wp2_with fail;refine iW (S:=λz=>ay [] (w.alloc (.cells Z 73)) z) ((ay.refl _ _).drew) ?_;repeat (
    (first
    |(refine aS.cons (.agg Z) (bG.load rfl 73 (.tmp 4) rfl _ rfl λz G=>mO.out z G) ?_)
    |(refine aS.cons (.agg ZU) (bG.call rfl 173 #[Z,(W:Int)] ?he ?h) ?_;(case he=>(intro wz;go_simp));(case h=>exact λz G=>(HU.out z).mono λe w' he=>⟨he.1,G.trans' he.2⟩))
    |(refine aS.cons (.bool false) (bG.val rfl ?h) ?_;(case h=>(intro z G;clear G;first|(go_simp;done)|(go_simp;simp[av];done))))
    |(refine aS.cons ?_ (bG.val rfl ?h) ?_;(case h=>(intro z G;clear G;go_simp;rfl))));simp only[Act.put,ag,ah,ai])
   refine aS.done λz G=> ?_
   have tT:=ar (fG.out.trans' G);clear G;go_wp2;go_ret2;exact py.no HN.out tT.out
  ·have bF:=of_decide_eq_true ht
   have cr:=ar bF;clear bF;have cd:=λz=>MO w.heap.size (bj m) Qp z
   clear ht hl;generalize aY:bj m=W at *;have ax:=ar aY;clear aY;go_in;go_wp2_with fail;refine C' (HP.out _) ?_;go_wp2_with fail;refine iW (S:=λz=>ay [] (w.alloc (.cells Z 73)) z) ((ay.refl _ _).drew) ?_;repeat (
    (first
    |(refine aS.cons (.agg Z) (bG.load rfl 73 (.tmp 4) rfl _ rfl λz G=>mO.out z G) ?_)
    |(refine aS.cons (.agg ZU) (bG.call rfl 173 #[Z,(W:Int)] ?he ?h) ?_;(case he=>(intro wz;go_simp));(case h=>exact λz G=>(HU.out z).mono λe w' he=>⟨he.1,G.trans' he.2⟩))
    |(refine aS.cons (.bool false) (bG.val rfl ?h) ?_;(case h=>(intro z G;clear G;first|(go_simp;done)|(go_simp;simp[av];done))))
    |(refine aS.cons ?_ (bG.val rfl ?h) ?_;(case h=>(intro z G;clear G;go_simp;rfl))));simp only[Act.put,ag,ah,ai])
   refine aS.done λw1 G=> ?_
   have jv:=ar G;clear G;obtain⟨E,hE⟩:∃E,E=sQ (az B ps) l m:=⟨_,rfl⟩;have HE:=ar hE;have bg:E.length=m:=by rw[hE];exact qj _ _ _
   have JD:=ar bg;have aO:Hid (∀e,e<m->eY E e=xk ((kD (Bd (az B ps) l e)).getD [])/\jq E e=zt (az B ps) l e):=λe he=>by rw[hE];exact Cz _ _ _ _ he
   have bn:m<=4*W/\∀k,k<W->4*k<m:=by
    have hc:=ax.out;unfold bj at hc;exact⟨by omega,λk hk=>by omega⟩
   have br:=ar bn;clear hE bg bn;obtain⟨i0,hi,bS,cn,b6⟩:=df Tryz.info_entry;have HI:=ar hi;have cK:=kV;clear hi;go_wp2_with fail;clear cd b7 bU;go_loopg [9,29] W (λgh s9 s29 z=>∃k:Nat,k+gh=W/\s29= .int .i64 (k:Int)/\Hid (z.ownsRow (w.heap.size+1) 99 2 s9 (min m (4*k)) (fc (E.take (4*k)))/\(∀i,i<k->JJ (az B ps) l m i)/\ay [] (w.alloc (.cells Z 73)) z))
   case atStart=>exact⟨0,by omega,rfl,⟨by simp[fc],.inl ⟨rfl,by simp⟩⟩,by simp,jv.out⟩
   case round=>
    clear jv;obtain⟨k,hk,rfl,HP⟩:=hrel;obtain⟨J,ac,gD⟩:=HP.out;cases gk with
    |zero=>
     obtain rfl:k=W:=by omega
     have mi:Hid (py w (az B ps) l m (.returned (.tuple #[u9,true])) wr):=by
      have h1:=br.out.1;rw[cZ h1,aW (by rw[JD.out];exact h1)] at J;obtain⟨g,ho,hg⟩:=fw.of_row J;obtain⟨g2,cm,bW⟩:∃g2,w.heap.size<=g2/\bD wr u9 g2 E:=by
       by_cases h0:m=0
       ·exact⟨w.heap.size,aI _,(ho.ereads JD.out.symm).anyG (by rw[JD.out,h0]) _⟩
       ·exact⟨g,by have :=(hg h0).1;omega,ho.ereads JD.out.symm⟩
      exact⟨u9,E,true,g2,rfl,bW,cm,λ_=>⟨⟨by omega,by rw[ax.out];exact cr.out,by rw[ax.out];exact ac⟩,HE.out⟩,λh=>(by cases h),fG.out.trans' gD⟩
     clear HP J ac gD hk;go_wp2;go_ret2;exact mi.out
    |succ gg=>
     have bJ:k<W:=by omega
     have cI:(k:Int)<(W:Int):=by omega
     have cM:(0:Int)<=(k:Int):=by omega
     have ct:=br.out.2 k bJ;have aV:=X4.out wr k (by omega) gD;have bX:=bk.out k;have Pz:Hid (¬JJ (az B ps) l m k->¬pq (az B ps) l m):=λh hh=>h (hh.2.2 k (by rw[ax.out];exact bJ))
     have K5:Hid (JJ (az B ps) l m k↔l.getD k 0≠0/\(∀j,j<min 4 (m-4*k)->(kD (Bd (az B ps) l (4*k+j))).isSome=true/\zt (az B ps) l (4*k+j)<32)/\jf E k=eu (az B ps) (1080+8*(l.getD k 0).toNat)):=by
      have e:=HE.out;show _↔_;rw[e];exact Iff.rfl
     obtain⟨xj,jD⟩:=hh2 ac gD;have SA:Hid (∀j,j<4->xO l (4*k+j)=1080+8*(l.getD k 0).toNat+2*j):=λj U=>Uk l k j U
     obtain⟨q,hq⟩:∃q:Nat,l.getD k 0=(q:Int):=⟨(l.getD k 0).toNat,by omega⟩;rw[hq] at aV K5 SA bX;rw[aF] at K5 SA;rw[Nat.min_eq_right (by omega)] at J;have ae:=ar J;clear HP J ac gD hq;by_cases cp:q=0
     ·subst cp
      have HN:Hid (¬pq (az B ps) l m):=Pz.out λh=>(K5.out.1 h).1 rfl
      have tT:=ar (fG.out.trans' jD.out);clear K5 SA Pz hk;go_wp2;go_ret2;exact py.no HN.out tT.out
     ·have e0:((q:Int)==0)=false:=cg.2 (by omega)
      have af:=j6 (q:Int) wr;rw[show iG (q:Int)=((1080+8*q:Nat):Int) by unfold iG;rw[aA];omega] at af;obtain⟨X0,mZ⟩:=hh2 af (po (HS.out.keep (fG.out.trans' jD.out)) (1080+8*q) (by omega));obtain⟨r,hr⟩:∃r,r=eu (az B ps) (1080+8*q):=⟨_,rfl⟩;rw[<-hr] at mZ K5;have bM:=ar hr;have wm:r.length=8:=by rw[hr];exact iy _ _
      have bB:Hid (∀j,j<4->r.getD (j*2) 0=((Bd (az B ps) l (4*k+j):Nat):Int)/\r.getD (j*2+1) 0=zt (az B ps) l (4*k+j)):=λj U=>by
       have bO:=SA.out j U;rw[hr,kx _ _ _ (by omega),kx _ _ _ (by omega)];unfold Bd zt;rw[bO];have aK:=uM.out (1080+8*q+2*j);rw[show 1080+8*q+j*2=1080+8*q+2*j by omega,show 1080+8*q+(j*2+1)=1080+8*q+2*j+1 by omega];exact⟨by omega,rfl⟩
      have BU:=ar wm;have cJ:Hid (∀j,j<4->0<=zt (az B ps) l (4*k+j)):=λj U=>by
       have :=(uM.out (xO l (4*k+j)+1)).1;exact this
      clear hr wm SA af;generalize hp:((1080+8*q:Nat):Int)=p at *;clear hp;obtain⟨c,hc⟩:∃c,c=min 4 (m-4*k):=⟨_,rfl⟩;have HC:=ar hc;have cB:c<=4:=by omega
      have cG:4*k+c<=m:=by omega
      have bo:(m:Int)-(k:Int)*4=((m-4*k:Nat):Int):=by omega
      obtain⟨d,hd⟩:∃d,d=m-4*k:=⟨_,rfl⟩;rw[<-hd] at bo hc;have b9:((4:Int)<=(d:Int)/\c=4)\/((d:Int)<4/\c=d):=by omega
      clear hc hd;have cw:w.heap.size+1<=wr.heap.size:=by have :=jD.out.size;simpa using this
      go_wp2_with fail;refine C' X0.out ?_;go_wp2_with fail;refine Rr mZ.out λw3 aT=> ?_;obtain⟨w5,bb,rQ,kr⟩:=bE (P:= prog) (ty:= 132) (cs:=aX r) (by rw[bA,BU.out];exact iZ) (bc.new w3 (aX (List.replicate 8 0)).toArray 132) (by simp[bA,BU.out]) (fk _);have cy:=aT.size;obtain⟨bZ,Un⟩:=hh2 bb rQ;have pU:Hid (ay [] wr w5):=((aT.alloc (.cells (aX (List.replicate 8 0)).toArray 132)).trans kr (by intro x G;rw[au] at G;omega));clear bb rQ kr aT X0 mZ;have mK:Hid (ay [] (w.alloc (.cells Z 73)) w5):=jD.out.trans' pU.out;have bH:Hid (∀g,u9.ownBlock=some g->g≠w3.heap.size):=λg hg=>by
       obtain⟨-,h1⟩:=ae.out;rcases h1 with ⟨hv,-⟩|⟨g2,cap,cx,hv,-,hh,-⟩
       ·rw[hv] at hg;cases hg
       ·rw[hv] at hg
        cases hg;have :=(Array.getElem?_eq_some_iff.1 hh).1;show g2≠w3.heap.size;omega
      have bt:Hid (w5.ownsRow (w.heap.size+1) 99 2 u9 (4*k+0) (fc (E.take (4*k+0)))):=ey ae.out pU.out (by simp);have cD:w.heap.size+1<=w3.heap.size:=by omega
      obtain⟨V,bf⟩:∃V,V=2*c:=⟨_,rfl⟩;have X5:Hid (∀j,j<c->(r.take V).getD (j*2) 0=((Bd (az B ps) l (4*k+j):Nat):Int)/\(r.take V).getD (j*2+1) 0=zt (az B ps) l (4*k+j)):=λj U=>by
       have e0:(r.take V).getD (j*2) 0=r.getD (j*2) 0:=by simp[show j*2<V by omega]
       have e1:(r.take V).getD (j*2+1) 0=r.getD (j*2+1) 0:=by simp[show j*2+1<V by omega]
       rw[e0,e1];exact bB.out j (by omega)
      have ba:Hid (qD (r.take V) c↔∀j,j<c->(kD (Bd (az B ps) l (4*k+j))).isSome=true/\zt (az B ps) l (4*k+j)<32):=by
       constructor
       ·intro h j U
        have :=h j U;rw[(X5.out j U).1,(X5.out j U).2,aF] at this;exact this
       ·intro h j U
        rw[(X5.out j U).1,(X5.out j U).2,aF];exact h j U
      have ck:Hid (E.take (4*k+c)=E.take (4*k)++mA (r.take V) c):=by
       show _=_;rw[List.take_add]
       congr 1
       have Cj:((E.drop (4*k)).take c).length=c:=by rw[aJ,bV,JD.out];omega
       refine XD (by rw[Cj,jX]) λj U=> ?_
       rw[Cj] at U;rw[(Bc E (4*k) c j U).1,(Bc E (4*k) c j U).2,(Cw _ _ _ U).1,(Cw _ _ _ U).2,(X5.out j U).1,(X5.out j U).2,aF];exact aO.out _ (by omega)
      have zu:Hid (∀j,0<=(r.take V).getD j 0/\(r.take V).getD j 0<18446744073709551616):=λj=>by
       by_cases U:j<V
       ·have e0:(r.take V).getD j 0=r.getD j 0:=by simp[U]
        rw[e0,bM.out];by_cases bQ:j<8
        ·rw[kx _ _ _ bQ];exact uM.out _
        ·rw[aj,aZ (by rw[iy];omega)]
         simp
       ·rw[aj,aZ (by rw[aJ];omega)]
        simp
      have bl:Reads w5 (.slice w3.heap.size V 8) w3.heap.size (aX (r.take V)):=by
       have :=Un.out.reads (o:=0) (n:=V) (c:=8) (by rw[BU.out];omega) (by omega) (by omega);rwa[List.drop_zero] at this
      have aB:=ar (xc bl (by rw[aJ,BU.out];omega) c (by rw[aJ,BU.out];omega) zu.out);have aQ:Hid (∀x:Int,x=(V:Int)->∀z,(Instr.sliceAt 132 (.pointer (some ⟨w3.heap.size,0,none⟩)) none (some (.int .i64 x)) none).run prog z= .ok (.slice w3.heap.size V 8) z):=λx G z=>by
       rw[G];exact Um _ _ (by omega) z
      have cH:1<=c:=by have :=HC.out;omega
      clear bl bB X5 zu;have Nf:=ar bf;clear bf;rcases b9 with ⟨cj,aM⟩|⟨cj,aM⟩
      have Uo:min (4:Int) (d:Int)=4:=by omega
      have Py:=aQ.out 8 (by have :=Nf.out;omega)
      rotate_left
      have Uo:min (4:Int) (d:Int)=(d:Int):=by omega
      have cE:2*(d:Int)=(V:Int):=by have :=Nf.out;omega
      have Py:=aQ.out (V:Int) rfl;all_goals
       have cz:=ar aM;clear aM aQ;go_wp2_with(with_reducible refine gS 132 bZ.out ?_);refine aB.out.mono ?_;rintro e w6 aD;rcases aD with ⟨g7,rfl,bu,bR,bw,jE⟩|⟨rfl,bh,jE⟩
       ·have aC:=ba.out.1 bw
        obtain⟨aL,rX,aH⟩:=hh3 (ey bt.out jE (by simp)) (pU.out.trans' jE) (Un.out.keep jE);have bP:Hid (∀j u,(fc (mA (r.take V) c))[j]? =some u->w6.cell? ((⟨g7,0,none⟩:Addr).add j)=some u):=λj u hu=>by
         obtain⟨-,-,bz,-⟩:=bu.cell (by omega);have U:=(List.getElem?_eq_some_iff.1 hu).1;rw[lI,jX] at U;rw[add_plain,bp,bz j U];exact hu
        have Sd:Hid ((fc (mA (r.take V) c)).length=c*2):=by show _=_;rw[lI,jX]
        have cf:w.heap.size+1<=w6.heap.size:=by have :=rX.out.size;omega
        have hi:=HI.out;clear Py bu bR bw jE aB;go_wp2_with(at_builtin;refine eO _ rfl _ _ 30 rfl (w.heap.size+1) 99 i0 (.agg #[.string ⟨#[]⟩,(0:Int)]) 2 24 underlying30 hi bS cn b6 rfl (by decide) u9 (4*k+0) _ rfl aL.out ⟨g7,0,none⟩ c c (fc (mA (r.take V) c)) rfl Sd.out bP.out (z7 _) (by unfold maxLen;omega) (by omega) cf ?_);intro v9 w7 bI aa _;have J:w7.ownsRow (w.heap.size+1) 99 2 v9 (4*k+c) (fc (E.take (4*k+c))):=by
         rw[ck.out,qA];exact bI
        have bC:bc w7 w3.heap.size (aX r).toArray 132 :=(aa.block _ aH.out.lt (λe=>bH.out _ e.symm rfl)).trans aH.out;have gD:ay [] (w.alloc (.cells Z 73)) w7:=(jD.out.trans' rX.out).grown2 aa λg hg=>by have :=dO aL.out g hg;simpa using this
        clear bI aa aL rX aH mK pU bt bH Un jD ae hi;obtain⟨g0,bv,bL⟩:=fw.of_row J;have rh:=ar (bv.ereads (by rw[aJ,JD.out];omega));have bT:Hid (xN (E.take (4*k+c))):=by
         have bY:∀e,e<4*k+c->0<=zt (az B ps) l e/\zt (az B ps) l e<32:=λe he=>by
          have h0:0<=zt (az B ps) l e:=(uM.out (xO l e+1)).1;refine⟨h0,?_⟩;by_cases cF:e<4*k
          ·have :=((xj.out (e/4) (by omega)).2.1 (e%4) (by omega)).2
           rw[show 4*(e/4)+e%4=e by omega] at this;exact this
          ·have :=(aC (e-4*k) (by omega)).2
           rw[show 4*k+(e-4*k)=e by omega] at this;exact this
         refine⟨by rw[aJ,JD.out];omega,λe he=> ?_,λe he=> ?_⟩
         ·rw[aJ,JD.out] at he
          rw[(F7 E (4*k+c) e (by omega)).1,(aO.out e (by omega)).1];have :=CA (Bd (az B ps) l e);omega
         ·rw[aJ,JD.out] at he
          rw[(F7 E (4*k+c) e (by omega)).2,(aO.out e (by omega)).2];have :=bY e (by omega);omega
        have bK:Hid (∀z,ay [] w7 z->Calls prog 183 #[v9,(k:Int)] z λe w'=>e=(aX (jf E k)).toArray/\ay [] z w'):=λz aU=>by
         have :=DW (rh.out.keep aU) bT.out k (by rw[aJ,JD.out];omega);rw[Na E k c (by rw[HC.out,JD.out]) (by rw[JD.out];exact ct)] at this;exact this
        have PA:Hid (∀z,ay [] w7 z->(loadVar 132 w3.heap.size).run prog z= .ok (.agg (aX r).toArray) z):=λz aU=>fN (bC.keep aU) BU.out
        have Qo:=ar (λz=>ML (a:=jf E k) (b:=r) (mL _ _ _) BU.out z);have cu:=xK;obtain⟨jD,ae⟩:=hh2 gD J;obtain⟨t2,aN⟩:∃t2,decide (jf E k=r)=t2:=⟨_,rfl⟩;rw[aN] at Qo;have cA:=Qo.out;have DX:Hid (JJ (az B ps) l m k↔t2=true):=by
         show _↔_;rw[K5.out,<-aN,decide_eq_true_iff];refine⟨λh=>h.2.2,λh=>⟨by omega,λi hi=>aC i ?_,h⟩⟩;have :=HC.out;omega
        clear J aC bC gD bv bL aN Qo;generalize (aX (jf E k)).toArray=ZQ,(aX r).toArray=ZP at *;cases t2;all_goals
         go_wp2_with fail;refine iW (S:=λz=>ay [] w7 z) ((ay.refl _ _).drew) ?_;repeat (
          (first
          |(refine aS.cons (.agg ZP) (bG.load rfl 132 (.tmp 12) rfl _ rfl λz G=>PA.out z G) ?_)
          |(refine aS.cons (.agg ZQ) (bG.call rfl 183 #[v9,(k:Int)] ?he ?h) ?_;(case he=>(intro wz;go_simp));(case h=>exact λz G=>(bK.out z G).mono λe w' he=>⟨he.1,G.trans' he.2⟩))
          |(refine aS.cons ?_ (bG.val rfl ?h) ?_;(case h=>(intro z G;clear G;go_simp;rfl))));simp only[Act.put,ag,ah,ai])
         refine aS.done λwz G=> ?_
         have ED:=ar G;clear G
        ·have HN:Hid (¬pq (az B ps) l m):=Pz.out λh=>by have :=DX.out.1 h;cases this
         have tT:=ar (fG.out.trans' (jD.out.trans' ED.out));go_wp2;go_ret2;exact py.no HN.out tT.out
        ·have bN:Hid (wz.ownsRow (w.heap.size+1) 99 2 v9 (min m (4*(k+1))) (fc (E.take (4*(k+1))))/\(∀i,i<k+1->JJ (az B ps) l m i)/\ay [] (w.alloc (.cells Z 73)) wz):=by
          refine⟨?_,λi hi=> ?_,jD.out.trans' ED.out⟩
          ·have h1:=ey ae.out ED.out (by simp)
           have bz:=HC.out;rw[show min m (4*(k+1))=4*k+c by omega];have e:E.take (4*(k+1))=E.take (4*k+c):=by
            by_cases h4:c=4
            ·rw[h4,Nat.mul_add]
            ·rw[aW (by rw[JD.out];omega),aW (by rw[JD.out];omega)]
           rw[e];exact h1
          ·by_cases e:i=k
           ·subst e;exact DX.out.2 (by simp)
           ·exact xj.out i (by omega)
         go_wp2;go_roundg gg;case measure=>omega
         case rel=>exact⟨k+1,by omega,by go_num,bN.out⟩
       ·have HN:Hid (¬pq (az B ps) l m):=Pz.out λh=>bh (ba.out.2 λj U=>(K5.out.1 h).2.1 j (by have :=HC.out;omega))
        have tT:=ar (fG.out.trans' ((jD.out.trans' pU.out).trans' jE));clear bh jE aB;go_wp2;go_ret2;exact py.no HN.out tT.out
end Go.Proofs.YtimcfdnbpkiniaaGreatDoor
