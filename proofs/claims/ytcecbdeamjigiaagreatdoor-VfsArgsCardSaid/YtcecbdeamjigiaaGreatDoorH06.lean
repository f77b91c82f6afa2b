/- Lemmas. -/
import Derived.Test.YtcecbdeamjigiaaGreatDoorH05
set_option maxHeartbeats 8000000
set_option maxRecDepth 100000
namespace Go.Proofs.YtcecbdeamjigiaaGreatDoor
open Go.RowKit
variable{w:World}{T W b cap g gp n o:Nat}{v:Value}{B h y:List Int}{E:List (ByteArray×Int)}{ps:List (Int×Int)}
def kP (n:bM):Nat->Nat
 |0=>if 6<(eB n.B).length then 1 else 0
 |k+1=>kP n k+((dA n.E k).length+2)/3
def dU (n:bM):Nat:=kP n 4
theorem yl (n:bM)(h:n.E.length<=10000):∀k,kP n k<=1+k*4000
 |0=>by unfold kP;split<;>omega
 |k+1=>by
  unfold kP;have :=yl n h k;have :=iI n.E k;omega
theorem vy (S:Nat->Value){k:Nat}(h:k<4)(w:World):(Instr.index 258 (.agg (lD S)) (.int .i64 (k:Int))).run Tryz.prog w= .ok (S k) w:=by
 rcases (show k=0\/k=1\/k=2\/k=3 by omega) with rfl|rfl|rfl|rfl
 all_goals (show Sem.run _ _ _=_;kernel_rfl)
theorem BK (n:bM)(v:Value)(g:Nat)(hB:n.B.length=13)(w:World)(hE:bz w v g n.E)(U:n.E.length<=10000)(ag:∀k,k<n.E.length->(eh n.E k).size<=9223372036854775807):
  Calls Tryz.prog 196 #[.agg (aU n v)] w λe w'=>e= .returned (.int .i64 ((if bP n then dU n else 0:Nat):Int))/\ay [] w w':=by
 have HR:Hid (∀G,ay [] w G->Calls Tryz.prog 94 #[.agg (aU n v)] G λe w'=>e= .returned (.bool (decide (bP n)))/\ay [] G w'):=λG J=>kV n v g hB G (hE.keep J (by simp)) ag
 have BC:=ar (λG=>FK n.B hB G);have GP:Hid (∀G,ay [] w G->Calls Tryz.prog 213 #[v] G (ri G n.E)):=λG J=>Ew (hE.keep J (by simp)) U ag
 have ac:=bm.new w (aU n v) 110;have fS:Hid (ay [] w (w.alloc (.cells (aU n v) 110))):=(ay.refl [] w).alloc _;have vv:=ar (cH ac hB);have n5:Hid (∀G,ay [] (w.alloc (.cells (aU n v) 110)) G->(loadVar 108 ⟨w.heap.size,4,none⟩).run Tryz.prog G= .ok (.agg (zs n.B).toArray) G):=λG J=>eD (off:=4) (ac.keep J (by simp)) hB λk J=>ya _ (by omega)
 have FR:Hid (∀G,ay [] (w.alloc (.cells (aU n v) 110)) G->G.cell? ⟨w.heap.size,17,none⟩=some v):=λG J=>by rw[(ac.keep J (by simp)).cell];exact vk _ hB
 have Vo:Hid ((eB n.B).length<=13):=jM n.B 13;have QC:Hid (∀k,(dA n.E k).length<=10000):=λk=>cu (iI _ _) U
 have aj:=ar (λk=>yl n U k);have ah:Hid (∀k,kP n (k+1)=kP n k+((dA n.E k).length+2)/3):=λ_=>rfl
 have XF:Hid (kP n 0=if 6<(eB n.B).length then 1 else 0):=rfl;clear ac hE ag U;generalize aU n v=Z at *;generalize (zs n.B).toArray=ZB at *;by_cases hR:bP n
 ·rw[bj hR] at HR
  rw[aB hR];clear hR;unfold dU;generalize eB n.B=R at *;go_enter Tryz.func196,Tryz.ntmps196;go_wp2_with(with_reducible refine gL 110 vv.out ?_);refine(HR.out _ fS.out).mono ?_;rintro e w1 ⟨rfl,dc⟩;have iH:=ar dc;have qQ:=ar (n5.out w1 dc);clear dc;go_wp2_with(with_reducible refine gL 108 qQ.out ?_);refine(BC.out _).mono ?_;rintro e w2 ⟨va,ga,rfl,GQ,sk,ai⟩;obtain⟨aa,ca,rfl,-,-,-⟩:=fM GQ;have fj:=ar (iH.out.trans' ai);have ak:=FR.out w2 fj.out;clear GQ sk ai;generalize tX:R.length=m at *;have HZ:=XF.out;clear tX;obtain⟨d,hd⟩:∃d,d=kP n 0:=⟨_,rfl⟩;rw[<-hd] at HZ;have HD:=ar hd;clear hd XF;by_cases h6:6<m
  ·rw[aB h6] at HZ
   have ae:(6:Int)<(m:Int):=by omega
   have af:=ar HZ;clear HZ;go_wp2_with fail;refine(GP.out _ (fS.out.trans' fj.out)).mono ?_;rintro e w3 ⟨S,rfl,W,hS⟩;have lS:=ar (fS.out.trans' (fj.out.trans' W));have N7:Hid (∀k,k<4->∃a c,S k= .slice a (dA n.E k).length c):=λk J=>by
    obtain⟨g,⟨a,c,h,-⟩,-⟩:=hS k J;exact⟨a,c,h⟩
   have zW:=λk (J:k<4) G=>vy S J G
   clear hS W ak;generalize (Value.agg (lD S))=ZS at *;go_wp2_with fail;clear ae;go_loopg [3,19] 4 (λgh s3 s19 G=>∃k:Nat,k+gh=4/\s19= .int .i64 (k:Int)/\s3= .int .i64 ((kP n k:Nat):Int)/\G=w3)
   case atStart=>exact⟨0,by omega,rfl,by rw[<-HD.out,af.out];rfl,rfl⟩
   case round=>
    obtain⟨k,J,rfl,rfl,rfl⟩:=hrel;cases gk with
    |zero=>
     obtain rfl:k=4:=by omega
     clear J zW;go_wp2_with fail;go_ret;exact⟨rfl,lS.out⟩
    |succ gg=>
     have V:k<4:=by omega
     have ap:(k:Int)<4:=by omega
     have ez:(0:Int)<=(k:Int):=by omega
     have Y1:=zW k V wr;obtain⟨a,c,XG⟩:=N7.out k V;rw[XG] at Y1;have hl:=QC.out k;have au:=aj.out k;have J8:=ar (ah.out k);have Mt:=ar (tj (dA n.E k).length 3 (by omega) (by omega) (by omega));generalize (dA n.E k).length=q at *;rw[show q+3-1=q+2 by omega] at Mt;have aq:(q+2)/3<=4000:=by omega
     generalize (q+2)/3=z at *;generalize kP n k=y at *;clear zW XG;go_wp2_with fail;refine(Mt.out _).mono ?_;rintro e w' ⟨rfl,rfl⟩;go_wp2_with fail;go_roundg gg;case measure=>omega
     case rel=>exact⟨k+1,by omega,by go_num,by rw[J8.out];go_num,rfl⟩
  ·rw[aA h6] at HZ
   have ae:¬(6:Int)<(m:Int):=by omega
   have af:=ar HZ;clear HZ;go_wp2_with fail;refine(GP.out _ (fS.out.trans' fj.out)).mono ?_;rintro e w3 ⟨S,rfl,W,hS⟩;have lS:=ar (fS.out.trans' (fj.out.trans' W));have N7:Hid (∀k,k<4->∃a c,S k= .slice a (dA n.E k).length c):=λk J=>by
    obtain⟨g,⟨a,c,h,-⟩,-⟩:=hS k J;exact⟨a,c,h⟩
   have zW:=λk (J:k<4) G=>vy S J G
   clear hS W ak;generalize (Value.agg (lD S))=ZS at *;go_wp2_with fail;clear ae;go_loopg [3,19] 4 (λgh s3 s19 G=>∃k:Nat,k+gh=4/\s19= .int .i64 (k:Int)/\s3= .int .i64 ((kP n k:Nat):Int)/\G=w3)
   case atStart=>exact⟨0,by omega,rfl,by rw[<-HD.out,af.out];rfl,rfl⟩
   case round=>
    obtain⟨k,J,rfl,rfl,rfl⟩:=hrel;cases gk with
    |zero=>
     obtain rfl:k=4:=by omega
     clear J zW;go_wp2_with fail;go_ret;exact⟨rfl,lS.out⟩
    |succ gg=>
     have V:k<4:=by omega
     have ap:(k:Int)<4:=by omega
     have ez:(0:Int)<=(k:Int):=by omega
     have Y1:=zW k V wr;obtain⟨a,c,XG⟩:=N7.out k V;rw[XG] at Y1;have hl:=QC.out k;have au:=aj.out k;have J8:=ar (ah.out k);have Mt:=ar (tj (dA n.E k).length 3 (by omega) (by omega) (by omega));generalize (dA n.E k).length=q at *;rw[show q+3-1=q+2 by omega] at Mt;have aq:(q+2)/3<=4000:=by omega
     generalize (q+2)/3=z at *;generalize kP n k=y at *;clear zW XG;go_wp2_with fail;refine(Mt.out _).mono ?_;rintro e w' ⟨rfl,rfl⟩;go_wp2_with fail;go_roundg gg;case measure=>omega
     case rel=>exact⟨k+1,by omega,by go_num,by rw[J8.out];go_num,rfl⟩
 ·rw[aT hR] at HR
  rw[aA hR];clear hR;go_enter Tryz.func196,Tryz.ntmps196;go_wp2_with(with_reducible refine gL 110 vv.out ?_);refine(HR.out _ fS.out).mono ?_;rintro e w1 ⟨rfl,dc⟩;have iH:=ar (fS.out.trans' dc);clear dc;go_wp2_with fail;go_ret;exact⟨rfl,iH.out⟩
def FT (E:List (ByteArray×Int)) (f i:Nat):Int:=if i%2=0 then ((iY (bl (eh E (f+i/2))):Nat):Int) else gT E (f+i/2)
def uJ (E:List (ByteArray×Int)) (f j:Nat):List Int:=(List.range 8).map λi=>if i<2*j then FT E f i else 0
def fT (E:List (ByteArray×Int)) (k:Nat):List Int:=uJ E (4*k) (min 4 (E.length-4*k))
theorem jA (E:List (ByteArray×Int))(f j:Nat):(uJ E f j).length=8:=by simp[uJ]
theorem my (E:List (ByteArray×Int))(f j i:Nat)(h:i<8):(uJ E f j).getD i 0=if i<2*j then FT E f i else 0:=by
 rw[uJ,aj,bD,b7 h];rfl
theorem BL:(Tryz.prog.info? 88).map (·.size)=some 2:=by kernel_rfl
theorem Dq (g off n cap f h:Nat)(U:f<cap)(G:f<=h)(V:h<=cap)(w:World):
  (Instr.sliceAt 32 (.slice (some ⟨g,off,none⟩) n cap) (some (.int .i64 (f:Int))) (some (.int .i64 (h:Int))) none).run Tryz.prog w= .ok (.slice (some ⟨g,off+f*2,none⟩) (h-f) (cap-f)) w:=by
 have y: Tryz.prog.underlying 32 =some (.slice (Tryz.prog.elem 32)):=by kernel_rfl
 have z: Tryz.prog.elem 32 = 88 :=by kernel_rfl
 have J:(sizeOf 88).run Tryz.prog w= .ok 2 w:=by kernel_rfl
 rw[run_sliceAt_slice _ _ _ _ _ _ y,run_slice_lh _ _ _ _ _ y .i64 .i64 (f:Int) (h:Int) (by omega) (by omega) (by omega),z,J];simp only[b9,sliced,aH];rw[aA (by omega)];simp[add_plain]
theorem rj (b:Nat)(w:World):(Instr.sliceAt 188 (.pointer (some ⟨b,0,none⟩)) none none none).run Tryz.prog w= .ok (.slice (some ⟨b,0,none⟩) 8 8) w:=by show Sem.run _ _ _=_;kernel_rfl
theorem mz{U:Nat}(G:bm w b (aR y).toArray T)(hs:Reads w v U (aR h))(hm:h.length<=n)(Kk:o+h.length<=y.length):
  ∃r w',(∀ty,(Builtin.copy_ #[69,69] ty #[.slice (some ⟨b,o,none⟩) n cap,v]).run Tryz.prog w= .ok r w')/\bm w' b (aR (y.take o++h++y.drop (o+h.length))).toArray T/\ay [b] w w':=by
 obtain⟨a,c,rfl,h1,h2,J⟩:=fM hs;by_cases W:h.length=0
 ·obtain rfl:=bg W
  refine⟨_,w,λty=>run_copy_none (P:= Tryz.prog) w 69 69 ty 55 _ a n cap 0 c Tryz.underlying69 mP (by simp),?_,ay.refl _ _⟩;rw[bq,cp,dH,dM];exact G
 ·obtain⟨hg,off,rfl,-⟩:=J.out 0 (by omega)
  have hl:(aR h).length=min h.length n:=by rw[bc];omega
  refine⟨_,_,λty=>run_copy_row (P:= Tryz.prog) w 69 69 ty 55 b o n cap ⟨U,off,none⟩ h.length c (aR y).toArray T (aR h) Tryz.underlying69 mP G hl ?_ ?_ ?_,?_,(ay.refl _ _).setRow (by simp) _⟩
  ·intro j u z
   have V:j<h.length:=by
    have :=(List.getElem?_eq_some_iff.1 z).1;rwa[bc] at this
   obtain⟨-,RO,Z,hc⟩:=J.out j V;cases Z;rw[cC V] at z;rw[add_plain,hc,<-z]
  ·rw[bU,bc,bc];omega
  ·exact λu z=>eu _ u z
  ·have e:((aR y).toArray.toList.take o++aR h++(aR y).toArray.toList.drop (o+(aR h).length)).toArray=(aR (y.take o++h++y.drop (o+h.length))).toArray:=by
    rw[bc];simp[aR,List.map_drop]
   rw[e];exact jK G
theorem bz.sub{off:Nat}(h:bz w (.slice (some ⟨g,off,none⟩) n cap) g E)(hn:n=E.length)(f c:Nat)(MI:f+c<=n):bz w (.slice (some ⟨g,off+f*2,none⟩) c (cap-f)) g ((E.drop f).take c):=by
 obtain⟨a,z,hv,h1,h2,h3⟩:=h;cases hv;have y:((E.drop f).take c).length=c:=by rw[aI,bu];omega
 refine⟨_,cap-f,by rw[y],by omega,by omega,λU=> ?_⟩;rw[y] at U;obtain⟨hg,RO,Z,W⟩:=h3 (by omega);cases Z;refine⟨hg,_,rfl,λj G=> ?_⟩;rw[y] at G;obtain⟨V,J⟩:=W (f+j) (by omega);have e:((E.drop f).take c).getD j (ByteArray.empty,0)=E.getD (f+j) (ByteArray.empty,0):=by
  simp[G]
 rw[show off+f*2+j*2=off+(f+j)*2 by omega,eh,gT,e];exact⟨V,J⟩
theorem wR (E:List (ByteArray×Int))(f c k:Nat)(h:k<c):eh ((E.drop f).take c) k=eh E (f+k)/\gT ((E.drop f).take c) k=gT E (f+k):=by
 have e:((E.drop f).take c).getD k (ByteArray.empty,0)=E.getD (f+k) (ByteArray.empty,0):=by
  simp[h]
 rw[eh,gT,e];exact⟨rfl,rfl⟩
theorem rR.sub(h:rR E)(f c:Nat)(G:f+c<=E.length):rR ((E.drop f).take c):=by
 have z:((E.drop f).take c).length=c:=by rw[aI,bu];omega
 refine⟨by rw[z];have :=h.len;omega,λk y=> ?_,λk y=> ?_⟩
 ·rw[z] at y
  rw[(wR E f c k y).1];exact h.size _ (by omega)
 ·rw[z] at y
  rw[(wR E f c k y).2];exact h.ino _ (by omega)
theorem Im (E:List (ByteArray×Int))(f j:Nat)(hj:j<=4)(h:f+j<=E.length):uJ E f j=dR ((E.drop f).take j)++List.replicate (8-2*j) 0:=by
 have y:((E.drop f).take j).length=j:=by rw[aI,bu];omega
 refine zk (by rw[jA,aF,iZ,y,bh];omega) λi G=> ?_
 rw[jA] at G;rw[my _ _ _ _ G];by_cases z:i<2*j
 ·rw[aB z,aj,aW (by rw[iZ,y];omega),<-aj]
  obtain⟨Z,W⟩:=rh ((E.drop f).take j) (i/2) (by omega);obtain⟨U,V⟩:=wR E f j (i/2) (by omega);unfold FT;by_cases J:i%2=0
  ·rw[aB J,<-U,<-Z,show i/2*2=i by omega]
  ·rw[aA J,<-V,<-W,show i/2*2+1=i by omega]
 ·rw[aA z,aj,aM (by rw[iZ,y];omega),aY]
  split<;>rfl
theorem tr (hE:bz w v g E)(ho:rR E)(k:Nat)(hk:4*k<E.length):
  Calls Tryz.prog 193 #[v,.int .i64 (k:Int)] w λe w'=>e= .returned (.agg (aR (fT E k)).toArray)/\ay [] w w':=by
 obtain⟨a,cap,rfl,nz,nB,uv⟩:=hE.open;obtain⟨hg,off,rfl,-,-⟩:=uv.out _ hk;unfold maxLen at nB;have av:=ho.len;obtain⟨c,hc⟩:∃c,c=min 4 (E.length-4*k):=⟨_,rfl⟩;have ai:c<=4:=by omega
 unfold fT;rw[<-hc];obtain⟨f,hf⟩:∃f,f=4*k:=⟨_,rfl⟩;rw[<-hf] at hk hc ⊢;have aw:(k:Int)*4=(f:Int):=by omega
 have BI:=λJ=>Dq g off E.length cap f (f+c) (by omega) (by omega) (by omega) J
 rw[show f+c-f=c by omega] at BI;have ac:Hid (∀H:Int,H=(f:Int)+(c:Int)->∀J,(Instr.sliceAt 32 (.slice (some ⟨g,off,none⟩) E.length cap) (some (.int .i64 (f:Int))) (some (.int .i64 H)) none).run Tryz.prog J= .ok (.slice (some ⟨g,off+f*2,none⟩) c (cap-f)) J):=λH hH J=>by
  have :=BI J;rw[show((f+c:Nat):Int)=H by omega] at this;exact this
 have p8:=jd;obtain⟨H,hH,aq⟩:∃H:Int,H=(f:Int)+(c:Int)/\((((f:Int)+4<=(E.length:Int))/\H=(f:Int)+4)\/((E.length:Int)<(f:Int)+4/\H=(E.length:Int))):=⟨_,rfl,by omega⟩;have ap:=ac.out H hH;have MI:f+c<=E.length:=by omega
 have ae:=ar (hE.sub rfl f c MI);have ah:=ar (ho.sub f c MI);have ag:=ar (Im E f c ai MI);have XC:Hid ((dR ((E.drop f).take c)).length=2*c):=by
  show _=_;rw[iZ,aI,bu];omega
 have yj:=ar (jA E f c);have BM:Hid (∀J,ay [] w J->Calls Tryz.prog 209 #[.slice (some ⟨g,off+f*2,none⟩) c (cap-f)] J (gC J (dR ((E.drop f).take c)))):=λJ hk=>uH (ae.out.keep hk (by simp)) ah.out
 generalize dR ((E.drop f).take c)=WE at *;have ax:=rj (w.heap.size+1);obtain⟨W0,V⟩:∃W0,W0=(w.alloc (.cells (aR (List.replicate 8 0)).toArray 188)).alloc (.cells (aR (List.replicate 8 0)).toArray 188):=⟨_,rfl⟩;have qa:Hid (bm W0 (w.heap.size+1) (aR (List.replicate 8 0)).toArray 188):=by
  have :=bm.new (w.alloc (.cells (aR (List.replicate 8 0)).toArray 188)) (aR (List.replicate 8 0)).toArray 188;have e:(w.alloc (.cells (aR (List.replicate 8 0)).toArray 188)).heap.size=w.heap.size+1:=by simp
  rw[e,<-V] at this;exact this
 have nY:Hid (bm W0 w.heap.size (aR (List.replicate 8 0)).toArray 188):=by
  rw[V];exact(bm.new w _ _).alloc _
 have HK:Hid (ay [] w W0):=by
  rw[V];exact((ay.refl _ _).alloc _).alloc _
 have nv:=ar V;clear hE ho BI ac hf hc V ae ah ap;generalize sG:(aR (List.replicate 8 0)).toArray=Z8 at *;have af:Hid (∀J,ay [] W0 J->bm J (w.heap.size+1) (aR (List.replicate 8 0)).toArray 188):=λJ hk=>by rw[sG];exact qa.out.keep hk (by simp)
 have xH:Hid (Z8.size=8):=by rw[<-sG];rfl
 clear sG qa;generalize E.length=n at *;rcases aq with ⟨ak,rfl⟩|⟨ak,rfl⟩
 ·obtain rfl:c=4:=by omega
  have aj:IntKind.i64.wrap ((f:Int)+4)=(f:Int)+4:=dY _ (by omega);have h1:(0:Int)<=(f:Int)+4:=by omega
  have h2:(f:Int)+4<=(cap:Int):=by omega
  have h3:((f:Int)+4).toNat=f+4:=by omega
  have h4:¬cap=f:=by omega
  clear hH MI;go_enter Tryz.func193,Tryz.ntmps193;go_wp2_with fail;rw[<-nv.out];go_region_with (go_at_call 209;refine(BM.out _ HK.out.drew).mono ?_;rintro e w1 ⟨v1,g1,rfl,G,aa,dc⟩;obtain⟨vc,w2,zt,z,U⟩:=mz (o:=0) (n:=8) (cap:=8) (af.out _ ((ay.refl _ _).drew.trans' dc)) G (by have :=XC.out;omega) (by rw[bh];have :=XC.out;omega);(have RS:=zt 3);obtain⟨a1,c1,rfl,-,-,-⟩:=fM G)
  have y:(List.replicate 8 (0:Int)).take 0++WE++(List.replicate 8 (0:Int)).drop (0+WE.length)=uJ E f 4:=by
   rw[ag.out,XC.out,eX,bW,aX,gY]
  rw[y] at z;have HL:=ar (ea z yj.out);have h:bm w2 w.heap.size Z8 188 :=(nY.out.drew.keep dc (by simp)).keep U (by simp);obtain⟨w3,hS,W,Z⟩:=br (P:= Tryz.prog) (ty:= 188) (cs:=aR (uJ E f 4)) (by rw[bc,yj.out];exact gH) h (by rw[xH.out,bc,yj.out]) (eu _);have HS:=ar hS;have pw:=ar (ea W yj.out);have gI:Hid (ay [] w w3):=(((HK.out.drew.trans' dc).trans U (by intro x hx;rw[au] at hx;omega))).trans Z (by intro x hx;rw[au] at hx;omega);clear y z h hS W Z zt RS dc U aa G;go_wp2_with(first|(with_reducible refine gL 188 HL.out ?_)|(with_reducible refine gS 188 HS.out ?_));exact aK (dP Tryz.results193 rfl pw.out) rfl ⟨rfl,gI.out⟩
 ·have aj:IntKind.i64.wrap ((f:Int)+4)=(f:Int)+4:=dY _ (by omega)
  have h2:n<=cap:=by omega
  have h3:f<=n:=by omega
  have h4:¬cap=f:=by omega
  have h5:n-f=c:=by omega
  clear hH MI;go_enter Tryz.func193,Tryz.ntmps193;go_wp2_with fail;rw[<-nv.out];go_region_with (go_at_call 209;refine(BM.out _ HK.out.drew).mono ?_;rintro e w1 ⟨v1,g1,rfl,G,aa,dc⟩;obtain⟨vc,w2,zt,z,U⟩:=mz (o:=0) (n:=8) (cap:=8) (af.out _ ((ay.refl _ _).drew.trans' dc)) G (by have :=XC.out;omega) (by rw[bh];have :=XC.out;omega);(have RS:=zt 3);obtain⟨a1,c1,rfl,-,-,-⟩:=fM G)
  have y:(List.replicate 8 (0:Int)).take 0++WE++(List.replicate 8 (0:Int)).drop (0+WE.length)=uJ E f c:=by
   rw[ag.out,XC.out,eX,bW,aX,gY]
  rw[y] at z;have HL:=ar (ea z yj.out);have h:bm w2 w.heap.size Z8 188 :=(nY.out.drew.keep dc (by simp)).keep U (by simp);obtain⟨w3,hS,W,Z⟩:=br (P:= Tryz.prog) (ty:= 188) (cs:=aR (uJ E f c)) (by rw[bc,yj.out];exact gH) h (by rw[xH.out,bc,yj.out]) (eu _);have HS:=ar hS;have pw:=ar (ea W yj.out);have gI:Hid (ay [] w w3):=(((HK.out.drew.trans' dc).trans U (by intro x hx;rw[au] at hx;omega))).trans Z (by intro x hx;rw[au] at hx;omega);clear y z h hS W Z zt RS dc U aa G;go_wp2_with(first|(with_reducible refine gL 188 HL.out ?_)|(with_reducible refine gS 188 HS.out ?_));exact aK (dP Tryz.results193 rfl pw.out) rfl ⟨rfl,gI.out⟩
def dy (X:List Int) (p:Nat):List Int:=(List.range 8).map λj=>X.getD (p+j) 0
theorem fQ (X:List Int)(p:Nat):(dy X p).length=8:=by simp[dy]
theorem iJ (X:List Int)(p k:Nat)(h:k<8):(dy X p).getD k 0=X.getD (p+k) 0:=by
 rw[dy,aj,bD,b7 h];rfl
def ir (p:Nat) (l:List Int) (k:Nat):List (Int×Int):=(List.range k).map λj=>(((p+j:Nat):Int),l.getD j 0)
theorem vz (p:Nat)(l:List Int)(k:Nat):ir p l (k+1)=ir p l k++[(((p+k:Nat):Int),l.getD k 0)]:=by
 unfold ir;rw[dL,dZ];rfl
theorem mA (p:Nat)(l:List Int)(k:Nat):(ir p l k).length=k:=by simp[ir]
theorem l6 (h:eF w b gp B ps)(p:Nat)(hp:p+8<=3128):
  Calls Tryz.prog 138 #[.pointer (some ⟨b,0,none⟩),.int .i64 (p:Int)] w λe w'=>e= .returned (.agg (aR (dy (az B ps) p)).toArray)/\ay [] w w':=by
 have xI:=ar h;have V:=fQ (az B ps) p;have KR:Hid (∀(k:Nat) J,k<8->ay [] w J->Calls Tryz.prog 20 #[.pointer (some ⟨b,0,none⟩),.int .i64 ((p:Int)+(k:Int))] J λe w'=>e= .returned (.int .u64 ((dy (az B ps) p).getD k 0))/\J=w'):=λk J hk eI=>by
  have :=mO (xI.out.keep eI (by simp) (by simp)) ((p:Int)+(k:Int));unfold Dd at this;rw[aB (by omega),show((p:Int)+(k:Int)).toNat=p+k by omega,<-iJ _ p k hk] at this;exact this
 have xH:(aR (List.replicate 8 0)).toArray=(aR (cU 0 (dy (az B ps) p) 0)).toArray:=by rw[iM,V]
 clear h;generalize dy (az B ps) p=d at *;obtain⟨W,G⟩:∃W,W=(w.alloc (.cells (aR (List.replicate 8 0)).toArray 188)).alloc (.cells (aR (List.replicate 8 0)).toArray 188):=⟨_,rfl⟩;have nY:Hid (bm W w.heap.size (aR (List.replicate 8 0)).toArray 188):=by
  have :=(bm.new w (aR (List.replicate 8 0)).toArray 188).alloc (.cells (aR (List.replicate 8 0)).toArray 188);rw[<-G] at this;exact this
 have qb:Hid (bm W (w.heap.size+1) (aR (cU 0 d 0)).toArray 188):=by
  have :=bm.new (w.alloc (.cells (aR (List.replicate 8 0)).toArray 188)) (aR (List.replicate 8 0)).toArray 188;have e:(w.alloc (.cells (aR (List.replicate 8 0)).toArray 188)).heap.size=w.heap.size+1:=by simp
  rw[e,<-G,xH] at this;exact this
 have HK:Hid (ay [] w W):=by
  show ay _ _ _;rw[G];exact((ay.refl [] w).alloc _).alloc _
 have p8:=jd;clear xH xI;generalize sG:(aR (List.replicate 8 0)).toArray=Z8 at *;go_enter Tryz.func138,Tryz.ntmps138;go_wp2_with fail;rw[<-G];go_loopg [7] 8 (λgh s7 J=>∃k:Nat,k+gh=8/\s7= .int .i64 (k:Int)/\Hid (bm J (w.heap.size+1) (aR (cU 0 d k)).toArray 188/\bm J w.heap.size Z8 188/\ay [] w J))
 case atStart=>exact⟨0,by omega,rfl,qb.out,nY.out,HK.out⟩
 case round=>
  clear nY qb HK p8 G;obtain⟨k,hk,rfl,z⟩:=hrel;cases gk with
  |zero=>
   obtain rfl:k=8:=by omega
   have U:=z.out.1;rw[show cU 0 d 8=d by rw[<-V];exact jl 0 d] at U;have HL:=ar (ea U V);obtain⟨w2,hS,Z,aa⟩:=br (P:= Tryz.prog) (ty:= 188) (cs:=aR d) (by rw[bc,V];exact gH) z.out.2.1 (by rw[<-sG];simp[bc,V]) (eu _);have HS:=ar hS;have pw:=ar (ea Z V);have gI:=ar (z.out.2.2.trans aa (by simp));clear hS U Z aa z hk;go_wp2_with(first|(with_reducible refine gL 188 HL.out ?_)|(with_reducible refine gS 188 HS.out ?_));exact aK (dP Tryz.results138 rfl pw.out) rfl ⟨rfl,gI.out⟩
  |succ gg=>
   have qP:k<8:=by omega
   have af:(k:Int)<8:=by omega
   have ez:(0:Int)<=(k:Int):=by omega
   have HC:=ar (KR.out k wr qP z.out.2.2);have ae:wr.cell? ⟨w.heap.size+1,k,none⟩=some (.int .u64 ((cU 0 d k).getD k 0)):=by
    rw[z.out.1.cell,aC,cC (by rw[iU _ _ _ (by omega)];omega)]
   have hf:wr.frozen? ⟨w.heap.size+1,k,none⟩=false:=z.out.1.frozen k;have HB:Hid (bm (wr.setCell ⟨w.heap.size+1,k,none⟩ (.int .u64 (d.getD k 0))) (w.heap.size+1) (aR (cU 0 d (k+1))).toArray 188):=by
    have :=z.out.1.set k (.int .u64 (d.getD k 0));rw[ag,jw,iN 0 d k (by omega) (d.getD k 0) (by simp[show k<d.length by omega])] at this;exact this
   have ac:Hid (bm (wr.setCell ⟨w.heap.size+1,k,none⟩ (.int .u64 (d.getD k 0))) w.heap.size Z8 188):=z.out.2.1.other (by simp) _;have gI:=ar z.out.2.2;clear z;generalize d.getD k 0=x at *;generalize (cU 0 d k).getD k 0=y at *;go_wp2_with fail;refine HC.out.mono ?_;rintro e w' ⟨rfl,rfl⟩;go_wp2_with fail;go_roundg gg;case measure=>omega
   case rel=>exact⟨k+1,by omega,by go_num,HB.out,ac.out,gI.out.setCell (by simp) _⟩
theorem qd{z:Nat}(h:eF w b z B ps)(hn:ps.length<=900000)(p:Nat)(hp:p+8<=3128)(l:List Int)(hl:l.length=8):
  Calls Tryz.prog 192 #[.pointer (some ⟨b,0,none⟩),.int .i64 (p:Int),.agg (aR l).toArray] w (iy w b z B (ps++ir p l 8)):=by
 have HL:Hid ((loadVar 188 ⟨w.heap.size,0,none⟩).run Tryz.prog (w.alloc (.cells (aR l).toArray 188))= .ok (.agg (aR l).toArray) (w.alloc (.cells (aR l).toArray 188))):=ea (bm.new w _ _) hl;have HX:Hid (∀k,k<8->(aR l).toArray[k]? =some (.int .u64 (l.getD k 0))):=λk hk=>by rw[aC,cC (by omega)]
 have fS:Hid (ay [b,z] w (w.alloc (.cells (aR l).toArray 188))):=(ay.refl _ w).alloc _;have xI:=ar (h.keep ((ay.refl [] w).alloc (.cells (aR l).toArray 188)) (by simp) (by simp));clear h;generalize (aR l).toArray=Z at *;go_enter Tryz.func192,Tryz.ntmps192;go_wp2_with(with_reducible refine gL 188 HL.out ?_);go_loopg [9] 8 (λgh s9 wx=>∃k:Nat,k+gh=8/\s9= .int .i64 (k:Int)/\Hid (∃y,(y=z\/(w.heap.size<=y/\y<wx.heap.size))/\eF wx b y B (ps++ir p l k)/\ay [b,z] w wx))
 case atStart=>exact⟨0,by omega,rfl,z,.inl rfl,by rw[show ir p l 0=[] from rfl,bq];exact xI.out,fS.out⟩
 case round=>
  clear xI fS HL;obtain⟨k,hk,rfl,HP⟩:=hrel;obtain⟨y,W,sH,eI⟩:=HP.out;cases gk with
  |zero=>
   obtain rfl:k=8:=by omega
   have HE:Hid (iy w b z B (ps++ir p l 8) (.returned (.tuple #[])) wr):=⟨rfl,y,W,sH,eI⟩;clear HP W sH eI hk;go_wp2_with fail;go_end0;exact HE.out
  |succ gg=>
   have qP:k<8:=by omega
   have aa:(k:Int)<8:=by omega
   have ez:(0:Int)<=(k:Int):=by omega
   have zW:=Rz qP (HX.out k qP);have G:zX (ps++ir p l k) ((p:Int)+(k:Int)) (l.getD k 0)=ps++ir p l (k+1):=by
    rw[zX,aB (by rw[qX];omega),vz,bf,Int.natCast_add]
   have HC:=oz sH (by rw[aF,mA];omega) ((p:Int)+(k:Int)) (l.getD k 0);rw[G] at HC;have HC:=ar HC;have HG:=ar W;have gI:=ar eI;clear HP W sH eI G;generalize l.getD k 0=x at *;go_wp2_with fail;refine HC.out.mono ?_;rintro e w2 ⟨rfl,wM,V,U,J⟩;have HR:Hid (∃y,(y=z\/(w.heap.size<=y/\y<w2.heap.size))/\eF w2 b y B (ps++ir p l (k+1))/\ay [b,z] w w2):=by
    have ac:=gI.out.size;have RT:=J.size;refine⟨wM,?_,U,gI.out.trans J λx hx=> ?_⟩
    ·rcases HG.out with h|h<;>rcases V with h2|h2<;>omega
    ·simp only[aS,aV,bL] at hx ⊢
     rcases HG.out with h|h<;>omega
   clear V U J;go_wp2_with fail;go_roundg gg;case measure=>omega
   case rel=>exact⟨k+1,by omega,by go_num,HR.out⟩
def rU (l:List Int) (e:Nat):Nat:=1080+8*(l.getD (e/4) 0).toNat+2*(e%4)
def vA (X l:List Int) (e:Nat):Nat:=(X.getD (rU l e) 0).toNat
def rk (X l:List Int) (e:Nat):Int:=X.getD (rU l e+1) 0
def oG (X l:List Int) (m:Nat):List (ByteArray×Int):=(List.range m).map λe=>(sg ((iL (vA X l e)).getD []),rk X l e)
theorem mB (X l:List Int)(m:Nat):(oG X l m).length=m:=by simp[oG]
theorem ym (X l:List Int)(m e:Nat)(h:e<m):eh (oG X l m) e=sg ((iL (vA X l e)).getD [])/\gT (oG X l m) e=rk X l e:=by
 have :(oG X l m).getD e (ByteArray.empty,0)=(sg ((iL (vA X l e)).getD []),rk X l e):=by
  rw[oG,aj,bD,b7 h];rfl
 rw[eh,gT,this];exact⟨rfl,rfl⟩
theorem tu (E:List (ByteArray×Int))(n e:Nat)(h:e<n):eh (E.take n) e=eh E e/\gT (E.take n) e=gT E e:=by
 have :(E.take n).getD e (ByteArray.empty,0)=E.getD e (ByteArray.empty,0):=by simp[h]
 rw[eh,gT,this];exact⟨rfl,rfl⟩
theorem zu (E:List (ByteArray×Int))(k c:Nat)(J:c=min 4 (E.length-4*k))(U:4*k<E.length):fT (E.take (4*k+c)) k=fT E k:=by
 unfold fT;rw[aI,show min 4 (min (4*k+c) E.length-4*k)=c by omega,<-J];refine zk (by rw[jA,jA]) λi y=> ?_
 rw[jA] at y;rw[my _ _ _ _ y,my _ _ _ _ y];by_cases h:i<2*c
 ·rw[aB h,aB h]
  obtain⟨G,z⟩:=tu E (4*k+c) (4*k+i/2) (by omega);rw[FT,FT,G,z]
 ·rw[aA h,aA h]
def zv (X l:List Int) (m k:Nat):Prop:=
 l.getD k 0≠0/\(∀j,j<min 4 (m-4*k)->(iL (vA X l (4*k+j))).isSome=true/\rk X l (4*k+j)<32)/\fT (oG X l m) k=dy X (1080+8*(l.getD k 0).toNat)
def kQ (X l:List Int) (m:Nat):Prop:=m<=24/\l=iz l (aZ m)/\∀k,k<aZ m->zv X l m k
theorem N8 (l:List Int)(k j:Nat)(h:j<4):rU l (4*k+j)=1080+8*(l.getD k 0).toNat+2*j:=by
 rw[rU,show(4*k+j)/4=k by omega,show(4*k+j)%4=j by omega]
theorem KS{l:List Nat}(h:iL W=some l):l.length<=7/\(∀c∈l,c<256)/\fN l=true/\nH l=W:=by
 unfold iL at h;split at h
 ·rename_i hc
  cases h;exact⟨by rw[aI];omega,λc y=>Mo W c (bA y),hc.2.1,hc.2.2⟩
 ·cases h
theorem tY (W:Nat):(sg ((iL W).getD [])).size<=7:=by
 rw[Ep];cases h:iL W with
 |none=>simp
 |some l=>exact(KS h).1
theorem BN{J so m mc:Nat}(U:bm w b (aR h).toArray T)(V:bm w J (aR y).toArray W)(Z:m<=n)(Kk:o+m<=h.length)(BI:so+m<=y.length):
  ∃v w',(∀ty,(Builtin.copy_ #[69,69] ty #[.slice (some ⟨b,o,none⟩) n cap,.slice (some ⟨J,so,none⟩) m mc]).run Tryz.prog w= .ok v w')/\bm w' b (aR (h.take o++(y.drop so).take m++h.drop (o+m))).toArray T/\ay [b] w w':=by
 have G:(aR ((y.drop so).take m)).length=min m n:=by rw[bc,aI,bu];omega
 refine⟨_,_,λty=>run_copy_row (P:= Tryz.prog) w 69 69 ty 55 b o n cap ⟨J,so,none⟩ m mc (aR h).toArray T (aR ((y.drop so).take m)) Tryz.underlying69 mP U G ?_ ?_ ?_,?_,(ay.refl _ _).setRow (by simp) _⟩
 ·intro j u z
  have hj:j<m:=by
   have :=(List.getElem?_eq_some_iff.1 z).1;rw[G] at this;omega
  rw[cC (by rw[aI,bu];omega)] at z;rw[add_plain,V.cell,aC,cC (by omega),<-z];simp[hj]
 ·rw[G,bU,bc];omega
 ·exact λu z=>eu _ u z
 ·have e:((aR h).toArray.toList.take o++aR ((y.drop so).take m)++(aR h).toArray.toList.drop (o+(aR ((y.drop so).take m)).length)).toArray=(aR (h.take o++(y.drop so).take m++h.drop (o+m))).toArray:=by
   rw[G,cy Z];simp[aR,List.map_drop]
  rw[e];exact jK U
theorem Io (b:Nat)(w:World):(Instr.sliceAt 247 (.pointer (some ⟨b,0,none⟩)) none none none).run Tryz.prog w= .ok (.slice (some ⟨b,0,none⟩) 13 13) w:=by show Sem.run _ _ _=_;kernel_rfl
theorem FU (b:Nat)(w:World):(Instr.sliceAt 247 (.pointer (some ⟨b,0,none⟩)) (some (.int .i64 5)) none none).run Tryz.prog w= .ok (.slice (some ⟨b,5,none⟩) 8 8) w:=by show Sem.run _ _ _=_;kernel_rfl
theorem BO (b:Nat)(w:World):(Instr.sliceAt 188 (.pointer (some ⟨b,0,none⟩)) (some (.int .i64 2)) (some (.int .i64 7)) none).run Tryz.prog w= .ok (.slice (some ⟨b,2,none⟩) 5 6) w:=by show Sem.run _ _ _=_;kernel_rfl
def cM (X r:List Int):List Int:=(r.drop 2).take 5++(if r.getD 7 0=0 then List.replicate 8 0 else dy X (1080+8*(r.getD 7 0).toNat))
def rV (X r:List Int):Prop:=r.getD 7 0<256/\(∀k,k<13->(cM X r).getD k 0<256)/\(r.getD 7 0=0\/(cM X r).drop 5≠List.replicate 8 0)
instance (X r:List Int):Decidable (rV X r):=by unfold rV;infer_instance
theorem rp{X r:List Int}(h:r.length=8):(cM X r).length=13:=by
 unfold cM;split
 ·simp[h]
 ·simp[h,fQ]
theorem FV (f row:List Int)(h:f.length=5)(y:row.length=8):(f++List.replicate 8 (0:Int)).take 5++(row.drop 0).take 8++(f++List.replicate 8 (0:Int)).drop (5+8)=f++row:=by
 rw[List.take_left' h,List.drop_zero,aQ (by omega),dm (by simp[h]),bq]
def Vz (w:World) (X r:List Int) (e:Ending) (w':World):Prop:=
 ∃h y ok,e= .returned (.tuple #[.agg (zs h).toArray,.int .i64 y,.bool ok])/\(ok=true->rV X r/\h=cM X r/\y=r.getD 7 0)/\(ok=false->¬rV X r)/\h.length=13/\ay [] w w'
theorem FW (h:eF w b gp B ps)(eT:dD (az B ps))(r:List Int)(hr:r.length=8)(sr:dD r):
  Calls Tryz.prog 187 #[.pointer (some ⟨b,0,none⟩),.agg (aR r).toArray] w (Vz w (az B ps) r):=by
 have HS:=ar h;have sf:=ar eT;have uw:=ar sr;have N9:=lV;have UB:=Rx
 -- the world behind the three variables
 have aG:=((bm.new w (aR r).toArray 188).alloc (.cells (zs (List.replicate 13 0)).toArray 108)).alloc (.cells (aR (List.replicate 13 0)).toArray 247);have U:=(bm.new (w.alloc (.cells (aR r).toArray 188)) (zs (List.replicate 13 0)).toArray 108).alloc (.cells (aR (List.replicate 13 0)).toArray 247);have V:=bm.new ((w.alloc (.cells (aR r).toArray 188)).alloc (.cells (zs (List.replicate 13 0)).toArray 108)) (aR (List.replicate 13 0)).toArray 247;rw[show(w.alloc (.cells (aR r).toArray 188)).heap.size=w.heap.size+1 by simp] at U;rw[show((w.alloc (.cells (aR r).toArray 188)).alloc (.cells (zs (List.replicate 13 0)).toArray 108)).heap.size=w.heap.size+1+1 by simp] at V;obtain⟨v1,w1,zt,aP,vB⟩:=BN (o:=0) (n:=13) (cap:=13) (so:=2) (m:=5) (mc:=6) V.drew aG.drew (by omega) (by simp) (by omega);have dc:ay [] w w1:=(((((ay.refl [] w).alloc _).alloc _).alloc _).drew).trans vB (by intro x J;rw[au] at J;omega);have Y2:=aG.drew.keep vB (by rw[au];omega);have RU:=U.drew.keep vB (by rw[au];omega);have tv:(List.replicate 13 (0:Int)).take 0++(r.drop 2).take 5++(List.replicate 13 (0:Int)).drop (0+5)=(r.drop 2).take 5++List.replicate 8 0:=by simp
 rw[tv] at aP;have UC:=ar zt;have av:=ar aP;have nu:=ar Y2;have qa:=ar RU;have iH:=ar dc;have bo:=Io (w.heap.size+1+1);have RV:=BO w.heap.size;have c7:w1.cell? ⟨w.heap.size,7,none⟩=some (.int .u64 (r.getD 7 0)):=by rw[Y2.cell,aC,cC (by omega)]
 have Ad:Hid (cM (az B ps) r=(r.drop 2).take 5++(if r.getD 7 0=0 then List.replicate 8 0 else dy (az B ps) (1080+8*(r.getD 7 0).toNat))):=rfl;have W:=ar (rp (X:=az B ps) hr);have jr:Hid (rV (az B ps) r↔r.getD 7 0<256/\(∀k,k<13->(cM (az B ps) r).getD k 0<256)/\(r.getD 7 0=0\/(cM (az B ps) r).drop 5≠List.replicate 8 0)):=Iff.rfl;have Y3:Hid (dD (cM (az B ps) r)):=by
  intro i;have e:cM (az B ps) r=(r.drop 2).take 5++(if r.getD 7 0=0 then List.replicate 8 0 else dy (az B ps) (1080+8*(r.getD 7 0).toNat)):=rfl;by_cases hi:i<5
  ·have :(cM (az B ps) r).getD i 0=r.getD (2+i) 0:=by
    rw[e];simp only[aj];rw[aW (by simp[hr];omega),bN,aB hi,bX]
   rw[this];exact sr _
  ·have h2:(cM (az B ps) r).getD i 0=(if r.getD 7 0=0 then List.replicate 8 0 else dy (az B ps) (1080+8*(r.getD 7 0).toNat)).getD (i-5) 0:=by
    rw[e];simp only[aj];rw[aM (by simp[hr];omega)];simp[hr]
   rw[h2];split
   ·rw[aj,aY]
    split<;>simp
   ·by_cases h8:i-5<8
    ·rw[iJ _ _ _ h8]
     exact eT _
    ·rw[aj,aO (by rw[fQ];omega)]
     simp
 have wh:=sr 7;clear aG U V zt aP vB dc Y2 RU h eT sr tv;generalize aT:r.getD 7 0=li at *;have RN:=ar aT;clear aT;generalize (aR r).toArray=Z at *;generalize aU:(zs (List.replicate 13 0)).toArray=ZN at *;have C7:=ar aU;clear aU;generalize (aR (List.replicate 13 0)).toArray=ZR at *;have vC:Hid (∀z,bm z (w.heap.size+1) ZN 108->∃w',(storeVar 108 ⟨w.heap.size+1,0,none⟩ (.agg ZN)).run Tryz.prog z= .ok () w'/\(loadVar 108 ⟨w.heap.size+1,0,none⟩).run Tryz.prog w'= .ok (.agg ZN) w'/\ay [w.heap.size+1] z w'):=λz hb=>by
  have hz:=C7.out;obtain⟨w',h1,h2,h3⟩:=br (P:= Tryz.prog) (ty:= 108) (cs:=zs (List.replicate 13 0)) (by rw[dJ];exact jf) hb (by rw[<-hz];simp) (jY _);have h4:=eD (l:=List.replicate 13 0) (off:=0) h2 (by simp) (λk hk=>by rw[aX,aC,eR (by simpa using hk)]);rw[hz] at h1 h4;exact⟨w',h1,h4,h3⟩
 by_cases FN:256<=li
 ·have HF:Hid (¬rV (az B ps) r):=λh=>by have :=(jr.out.1 h).1;omega
  obtain⟨w2,ap,ny,aa⟩:=vC.out w1 qa.out;have aL:=ar ap;have nJ:=ar ny;have fj:=ar (iH.out.trans aa (by simp));clear ap ny aa Ad jr Y3;go_enter Tryz.func187,Tryz.ntmps187;go_wp2_with fail;refine fD (l:=[_,_]) (o:=_) (S:=λz=>z=(((w.alloc (.cells Z 188)).alloc (.cells ZN 108)).alloc (.cells ZR 247)).drew) (by kernel_rfl) rfl (by kernel_rfl) (λd _ _ _ _ h=>by cases d<;>exact h) rfl (by kernel_rfl) (by kernel_rfl) ?_;repeat (refine aJ.cons ?_ (ba.val rfl ?h) ?_;(case h=>(intro z J;go_simp;rfl));simp only[Act.put,ag,ah,ai])
  refine aJ.done λz J=> ?_
  subst J;refine gj rfl (.tmp 13) (.tmp 14) 69 69 rfl _ _ rfl rfl (UC.out _) ?_;go_wp2_with(with_reducible refine gS 108 aL.out ?_);refine aK (bE Tryz.results187 rfl nJ.out rfl rfl) rfl ⟨List.replicate 13 0,0,false,?_,λh=>(by cases h),λ_=>HF.out,by simp,fj.out⟩;rw[C7.out];rfl
 ·have bp:wrap64 li=li:=by unfold wrap64;omega
  have bn:=jd;have bj:Hid (IntKind.i64.wrap li=li):=dY _ (by omega);by_cases ac:li=0
  ·have Y4:Hid (bm w1 (w.heap.size+1+1) (aR (cM (az B ps) r)).toArray 247):=by
    have e:=Ad.out;rw[aB ac] at e;show bm _ _ _ _;rw[e];exact av.out
   have QC:Hid (li=0\/(cM (az B ps) r).drop 5≠List.replicate 8 0↔True):=⟨λ_=>trivial,λ_=> .inl ac⟩;have ak:=qa;have ae:=iH;have e0:(li==0)=true:=beq_iff_eq.2 ac;have e1:(li != 0)=false:=by rw[bne,e0];rfl
   go_enter Tryz.func187,Tryz.ntmps187;go_wp2_with fail;refine fD (l:=[_,_]) (o:=_) (S:=λz=>z=(((w.alloc (.cells Z 188)).alloc (.cells ZN 108)).alloc (.cells ZR 247)).drew) (by kernel_rfl) rfl (by kernel_rfl) (λd _ _ _ _ h=>by cases d<;>exact h) rfl (by kernel_rfl) (by kernel_rfl) ?_;repeat (refine aJ.cons ?_ (ba.val rfl ?h) ?_;(case h=>(intro z J;go_simp;rfl));simp only[Act.put,ag,ah,ai])
   refine aJ.done λz J=> ?_
   subst J;refine gj rfl (.tmp 13) (.tmp 14) 69 69 rfl _ _ rfl rfl (UC.out _) ?_;clear Ad;generalize w1=wA at *;have RY:=ar (bm.new wA ZN 108);have RZ:=ar (Hs (Y4.out.alloc (.cells ZN 108)) W.out);have HU:Hid (∀k,k<13->(aR (cM (az B ps) r)).toArray[k]? =some (.int .u64 ((cM (az B ps) r).getD k 0))):=λk hk=>by rw[aC,cC (by rw[W.out];exact hk)]
   have ax:Hid (w.heap.size+1+1<wA.heap.size):=Y4.out.lt;clear Y4;generalize aw:cM (az B ps) r=G at *;have Y5:=ar aw;clear aw;generalize (aR G).toArray=UA at *;go_wp2_with(with_reducible refine gL 247 RZ.out ?_);clear UB RZ;go_loopg [32] 13 (λgh s32 z=>∃k:Nat,k+gh=13/\s32= .int .i64 (k:Int)/\Hid (bm z wA.heap.size (zs (cU 0 G k)).toArray 108/\bm z (w.heap.size+1) ZN 108/\(∀i,i<k->G.getD i 0<256)/\ay [] w z))
   case atStart=>
    refine⟨0,by omega,rfl,?_,ak.out.alloc _,by simp,ae.out.alloc _⟩;rw[iM,W.out,C7.out];exact RY.out
   case round=>
    clear ak ae RY;obtain⟨k,hk,rfl,HP⟩:=hrel;obtain⟨U,V,kD,eI⟩:=HP.out;cases gk with
    |zero=>
     obtain rfl:k=13:=by omega
     rw[show cU 0 G 13=G by rw[<-W.out];exact jl 0 G] at U;have af:wA.heap.size∉[w.heap.size+1]:=by have :=ax.out;rw[au];omega
     have n5:=ar (λ(z:World) (hk:ay [w.heap.size+1] wr z)=>eD (off:=0) (U.keep hk af) W.out (λk hk=>by rw[aX,aC,eR (by rw[W.out];exact hk)]));have AB:Hid (∀z,bm z (w.heap.size+1) ZN 108->∃w',(storeVar 108 ⟨w.heap.size+1,0,none⟩ (.agg (zs G).toArray)).run Tryz.prog z= .ok () w'/\bm w' (w.heap.size+1) (zs G).toArray 108/\ay [w.heap.size+1] z w'):=λz hb=>by
      have hz:=C7.out;exact br (P:= Tryz.prog) (ty:= 108) (cs:=zs G) (by rw[dJ,W.out];exact jf) hb (by rw[<-hz,dJ,W.out];simp[dJ]) (jY _)
     have VA:Hid (∀z,bm z (w.heap.size+1) (zs G).toArray 108->(loadVar 108 ⟨w.heap.size+1,0,none⟩).run Tryz.prog z= .ok (.agg (zs G).toArray) z):=λz hb=>eD (off:=0) hb W.out (λk hk=>by rw[aX,aC,eR (by rw[W.out];exact hk)])
     have gI:=ar eI;have Af:=ar V;have bf:w.heap.size<=w.heap.size+1:=by omega
     have HF:Hid (rV (az B ps) r):=jr.out.2 ⟨by omega,kD,.inl ac⟩;clear HP U V kD eI hk jr av nu qa iH af;generalize aq:(zs G).toArray=ZA at *;have aI:=ar aq;clear aq;go_wp2_with fail;refine rQ (l:=[_,_,_,_,_,_,_,_,_,_,_]) (f:=_) (mid:=[_]) (o:=_) (tl:=[]) (S:=λb z=>ay [w.heap.size+1] wr z/\bm z (w.heap.size+1) (cond b ZA ZN) 108) (by kernel_rfl) rfl (by kernel_rfl) (λd _ _ _ _ h=>by cases d<;>exact h) ⟨(ay.refl _ _).drew,Af.out.drew⟩ (by kernel_rfl) (by kernel_rfl) ?_;repeat (first
      |(refine fX.cons (.agg ZA) (λb=>ba.load rfl 108 (.tmp 10) rfl _ rfl λz J=>n5.out z J.1) ?_;simp only[Act.put,ag,ah,ai])
      |(refine fX.cons undef (λb=>ba.off rfl) ?_;simp only[Act.put,ag,ah,ai])
      |(refine fX.cons ?_ (λb=>ba.val rfl ?h) ?_;(case h=>(intro z J;clear J;go_simp;rfl));simp only[Act.put,ag,ah,ai]))
     refine fX.done ⟨undef,Bx.store rfl 108 (.tmp 4) (.tmp 44) rfl _ rfl _ rfl (λz J=> ?_),?_⟩
     ·obtain⟨w',h1,h2,h3⟩:=AB.out z J.2
      exact⟨w',h1,J.1.trans' h3,h2⟩
     refine aJ.cons ?_ (ba.val rfl ?h) ?_;case h=>intro z J;clear J;go_simp;rfl
     simp only[Act.put,ag,ah,ai];refine aJ.done λz J=> ?_
     have Y6:=ar (VA.out z J.2);have mX:=ar (gI.out.trans J.1 (by intro x J;rw[au] at J;omega));clear J;go_wp2_with fail;refine aK (bE Tryz.results187 rfl Y6.out rfl rfl) rfl ⟨G,0,true,?_,λ_=>⟨HF.out,Y5.out.symm,by rw[RN.out];exact ac.symm⟩,λh=>(by cases h),W.out,mX.out⟩;rw[aI.out];rfl
    |succ gg=>
     have mv:k<13:=by omega
     have aZ:(k:Int)<13:=by omega
     have ez:(0:Int)<=(k:Int):=by omega
     have zW:=En mv (HU.out k mv);have a7:=Y3.out k;by_cases J9:256<=G.getD k 0
     ·have HF:Hid (¬rV (az B ps) r):=λh=>by have :=(jr.out.1 h).2.1 k mv;omega
      obtain⟨w5,wT,BP,jG⟩:=vC.out wr V;have wU:=ar wT;have Ip:=ar BP;have oH:=ar (eI.trans jG (by simp));clear wT BP jG HP U V kD eI hk;generalize G.getD k 0=x at *;go_wp2_with(with_reducible refine gS 108 wU.out ?_);refine aK (bE Tryz.results187 rfl Ip.out rfl rfl) rfl ⟨List.replicate 13 0,0,false,?_,λh=>(by cases h),λ_=>HF.out,by simp,oH.out⟩;rw[C7.out];rfl
     ·have a6:wrap64 (G.getD k 0)=G.getD k 0:=by unfold wrap64;omega
      have aN:wr.cell? ⟨wA.heap.size,k,none⟩=some (.int .i64 ((cU 0 G k).getD k 0)):=by
       rw[U.cell,aC,eR (by rw[iU _ _ _ (by rw[W.out];omega),W.out];exact mv)]
      have YV:wr.frozen? ⟨wA.heap.size,k,none⟩=false:=U.frozen k;have HR:Hid (bm (wr.setCell ⟨wA.heap.size,k,none⟩ (.int .i64 (G.getD k 0))) wA.heap.size (zs (cU 0 G (k+1))).toArray 108/\bm (wr.setCell ⟨wA.heap.size,k,none⟩ (.int .i64 (G.getD k 0))) (w.heap.size+1) ZN 108/\(∀i,i<k+1->G.getD i 0<256)/\ay [] w (wr.setCell ⟨wA.heap.size,k,none⟩ (.int .i64 (G.getD k 0)))):=by
       have bg:=ax.out;refine⟨?_,V.other (by show w.heap.size+1≠wA.heap.size;omega) _,λi hi=> ?_,eI.setCell (.inr (by show w.heap.size<=wA.heap.size;omega)) _⟩
       ·have :=U.set k (.int .i64 (G.getD k 0))
        rw[ag,KB,iN 0 G k (by rw[W.out];exact mv) (G.getD k 0) (by simp[show k<G.length by rw[W.out];exact mv])] at this;exact this
       ·by_cases e:i=k
        ·subst e;omega
        ·exact kD i (by omega)
      clear HP U V kD eI;generalize G.getD k 0=x at *;generalize (cU 0 G k).getD k 0=y at *;go_wp2_with fail;go_roundg gg;case measure=>omega
      case rel=>exact⟨k+1,by omega,by go_num,HR.out⟩
  ·have e0:(li==0)=false:=cg.2 ac
   have e1:(li != 0)=true:=bne_iff_ne.2 ac;obtain⟨q,hq⟩:∃q:Nat,li=(q:Int):=⟨li.toNat,by omega⟩;have R1:=ar (jm li w1);have aF:gV li=((1080+8*q:Nat):Int):=by unfold gV;rw[aA (by omega)];omega
   rw[aF] at R1;have j1:Hid (∀z,ay [] w z->Calls Tryz.prog 138 #[.pointer (some ⟨b,0,none⟩),.int .i64 ((1080+8*q:Nat):Int)] z λe w'=>e= .returned (.agg (aR (dy (az B ps) (1080+8*q))).toArray)/\ay [] z w'):=λz hk=>l6 (HS.out.keep hk (by simp) (by simp)) (1080+8*q) (by omega)
   have bh:Hid (cM (az B ps) r=(r.drop 2).take 5++dy (az B ps) (1080+8*q)):=by
    have e:=Ad.out;rw[aA ac,hq,aH] at e;exact e
   have Vo:=ar (fQ (az B ps) (1080+8*q));have bk:=FU (w.heap.size+1+1);have bl:=rj;clear Ad aF hq;generalize dy (az B ps) (1080+8*q)=row at *;generalize ((1080+8*q:Nat):Int)=p at *;generalize sG:(aR (List.replicate 8 0)).toArray=Z8 at *;go_enter Tryz.func187,Tryz.ntmps187;go_wp2_with fail;refine fD (l:=[_,_]) (o:=_) (S:=λz=>z=(((w.alloc (.cells Z 188)).alloc (.cells ZN 108)).alloc (.cells ZR 247)).drew) (by kernel_rfl) rfl (by kernel_rfl) (λd _ _ _ _ h=>by cases d<;>exact h) rfl (by kernel_rfl) (by kernel_rfl) ?_;repeat (refine aJ.cons ?_ (ba.val rfl ?h) ?_;(case h=>(intro z J;go_simp;rfl));simp only[Act.put,ag,ah,ai])
   refine aJ.done λz J=> ?_
   subst J;refine gj rfl (.tmp 13) (.tmp 14) 69 69 rfl _ _ rfl rfl (UC.out _) ?_;go_wp2_with fail;refine R1.out.mono ?_;rintro e w' ⟨rfl,rfl⟩;go_wp2_with fail;refine(j1.out _ iH.out).mono ?_;rintro e w2 ⟨rfl,aa⟩;obtain⟨w3,ap,MJ,aD⟩:=br (P:= Tryz.prog) (ty:= 188) (cs:=aR row) (by rw[bc,Vo.out];exact gH) (bm.new w2 Z8 188) (by rw[<-sG];simp[bc,Vo.out]) (eu _);have N2:w.heap.size+1+1<w2.heap.size:=bC av.out.lt aa.size;have aV:ay [] w (w3.drew):=((((iH.out.trans' aa).alloc (.cells Z8 188)).trans aD (by intro x J;rw[au] at J;have :=iH.out.size;have :=aa.size;omega))).drew;have aQ:=((av.out.keep aa (by simp)).alloc (.cells Z8 188)).keep aD (by rw[au];omega);have aS:=((qa.out.keep aa (by simp)).alloc (.cells Z8 188)).keep aD (by rw[au];omega);obtain⟨v4,wA,R2,Y7,Y8⟩:=BN (o:=5) (n:=8) (cap:=8) (so:=0) (m:=8) (mc:=8) aQ.drew MJ.drew (by omega) (by simp[hr]) (by have :=Vo.out;omega);have MK:((r.drop 2).take 5++List.replicate 8 (0:Int)).take 5++(row.drop 0).take 8++((r.drop 2).take 5++List.replicate 8 (0:Int)).drop (5+8)=cM (az B ps) r:=by
    rw[bh.out];exact FV _ _ (by simp[hr]) Vo.out
   rw[MK] at Y7;have Y4:=ar Y7;have ak:=ar (aS.drew.keep Y8 (by rw[au];omega));have ae:=ar (aV.trans Y8 (by intro x J;rw[au] at J;omega));have aL:=ar ap;have a8:=ar R2;clear ap MJ aD N2 aV aQ aS R2 Y7 Y8 MK aa;go_wp2_with(with_reducible refine gS 188 aL.out ?_);refine fD (l:=[_,_]) (o:=_) (S:=λz=>z=w3.drew) (by kernel_rfl) rfl (by kernel_rfl) (λd _ _ _ _ h=>by cases d<;>exact h) rfl (by kernel_rfl) (by kernel_rfl) ?_;repeat (refine aJ.cons ?_ (ba.val rfl ?h) ?_;(case h=>(intro z J;go_simp;rfl));simp only[Act.put,ag,ah,ai])
   refine aJ.done λz J=> ?_
   subst J;refine gj rfl (.tmp 28) (.tmp 29) 69 69 rfl _ _ rfl rfl (a8.out _) ?_;have RY:=ar (bm.new wA ZN 108);have RZ:=ar (Hs (Y4.out.alloc (.cells ZN 108)) W.out);have HU:Hid (∀k,k<13->(aR (cM (az B ps) r)).toArray[k]? =some (.int .u64 ((cM (az B ps) r).getD k 0))):=λk hk=>by rw[aC,cC (by rw[W.out];exact hk)]
   have ax:Hid (w.heap.size+1+1<wA.heap.size):=Y4.out.lt;clear Y4;generalize aw:cM (az B ps) r=G at *;have Y5:=ar aw;clear aw;generalize (aR G).toArray=UA at *;go_wp2_with(with_reducible refine gL 247 RZ.out ?_);clear UB RZ;go_loopg [32] 13 (λgh s32 z=>∃k:Nat,k+gh=13/\s32= .int .i64 (k:Int)/\Hid (bm z wA.heap.size (zs (cU 0 G k)).toArray 108/\bm z (w.heap.size+1) ZN 108/\(∀i,i<k->G.getD i 0<256)/\ay [] w z))
   case atStart=>
    refine⟨0,by omega,rfl,?_,ak.out.alloc _,by simp,ae.out.alloc _⟩;rw[iM,W.out,C7.out];exact RY.out
   case round=>
    clear ak ae RY;obtain⟨k,hk,rfl,HP⟩:=hrel;obtain⟨U,V,kD,eI⟩:=HP.out;cases gk with
    |zero=>
     obtain rfl:k=13:=by omega
     rw[show cU 0 G 13=G by rw[<-W.out];exact jl 0 G] at U;have af:wA.heap.size∉[w.heap.size+1]:=by have :=ax.out;rw[au];omega
     have n5:=ar (λ(z:World) (hk:ay [w.heap.size+1] wr z)=>eD (off:=0) (U.keep hk af) W.out (λk hk=>by rw[aX,aC,eR (by rw[W.out];exact hk)]));have AB:Hid (∀z,bm z (w.heap.size+1) ZN 108->∃w',(storeVar 108 ⟨w.heap.size+1,0,none⟩ (.agg (zs G).toArray)).run Tryz.prog z= .ok () w'/\bm w' (w.heap.size+1) (zs G).toArray 108/\ay [w.heap.size+1] z w'):=λz hb=>by
      have hz:=C7.out;exact br (P:= Tryz.prog) (ty:= 108) (cs:=zs G) (by rw[dJ,W.out];exact jf) hb (by rw[<-hz,dJ,W.out];simp[dJ]) (jY _)
     have VA:Hid (∀z,bm z (w.heap.size+1) (zs G).toArray 108->(loadVar 108 ⟨w.heap.size+1,0,none⟩).run Tryz.prog z= .ok (.agg (zs G).toArray) z):=λz hb=>eD (off:=0) hb W.out (λk hk=>by rw[aX,aC,eR (by rw[W.out];exact hk)])
     have gI:=ar eI;have Af:=ar V;have bf:w.heap.size<=w.heap.size+1:=by omega
     have bb:=ar (FL G W.out);have BQ:=ar (λz=>Xs (a:=G.drop 5) (b:=List.replicate 8 0) (by simp[W.out]) rfl z);have Ic:=Hr;have Y9:=FB;obtain⟨t,ht⟩:∃t,decide (G.drop 5=List.replicate 8 0)=t:=⟨_,rfl⟩;have HF:Hid (rV (az B ps) r↔t=false):=by
      show _↔_;rw[jr.out,<-ht,decide_eq_false_iff_not];exact⟨λh=>h.2.2.resolve_left ac,λh=>⟨by omega,kD,.inr h⟩⟩
     rw[ht] at BQ;have Za:=BQ.out;generalize (zs (G.drop 5)).toArray=ZD at *;generalize (zs (List.replicate 8 0)).toArray=ZE at *;clear ht BQ;clear HP U V kD eI hk jr av nu qa iH af;generalize aq:(zs G).toArray=ZA at *;have aI:=ar aq;clear aq;go_wp2_with fail;refine rQ (l:=[_,_,_,_,_,_,_,_,_,_,_]) (f:=_) (mid:=[_]) (o:=_) (tl:=[]) (S:=λb z=>ay [w.heap.size+1] wr z/\bm z (w.heap.size+1) (cond b ZA ZN) 108) (by kernel_rfl) rfl (by kernel_rfl) (λd _ _ _ _ h=>by cases d<;>exact h) ⟨(ay.refl _ _).drew,Af.out.drew⟩ (by kernel_rfl) (by kernel_rfl) ?_;repeat (first
      |(refine fX.cons (.agg ZA) (λb=>ba.load rfl 108 (.tmp 10) rfl _ rfl λz J=>n5.out z J.1) ?_;simp only[Act.put,ag,ah,ai])
      |(refine fX.cons (.agg ZD) (λb=>ba.call rfl 206 #[.agg ZA] ?he ?h) ?_;(case he=>(intro wz;go_simp));(case h=>exact λz J=>(bb.out z).mono λe w' he=>⟨he.1,J.1.trans he.2 (by simp),J.2.keep he.2 (by simp)⟩);simp only[Act.put,ag,ah,ai])
      |(refine fX.cons undef (λb=>ba.off rfl) ?_;simp only[Act.put,ag,ah,ai])
      |(refine fX.cons ?_ (λb=>ba.val rfl ?h) ?_;(case h=>(intro z J;clear J;go_simp;rfl));simp only[Act.put,ag,ah,ai]))
     refine fX.done ⟨undef,Bx.store rfl 108 (.tmp 4) (.tmp 44) rfl _ rfl _ rfl (λz J=> ?_),?_⟩
     ·obtain⟨w',h1,h2,h3⟩:=AB.out z J.2
      exact⟨w',h1,J.1.trans' h3,h2⟩
     refine aJ.cons ?_ (ba.val rfl ?h) ?_;case h=>intro z J;clear J;go_simp;rfl
     simp only[Act.put,ag,ah,ai];refine aJ.done λz J=> ?_
     have Y6:=ar (VA.out z J.2);have mX:=ar (gI.out.trans J.1 (by intro x J;rw[au] at J;omega));clear J;go_wp2_with fail;refine aK (bE Tryz.results187 rfl Y6.out rfl rfl) rfl ⟨G,li,!t,?_,λh=>⟨HF.out.2 (by simpa using h),Y5.out.symm,RN.out.symm⟩,λh hn=> ?_,W.out,mX.out⟩
     ·rw[aI.out]
      show Ending.returned (.tuple #[.agg ZA,.int .i64 (IntKind.i64.wrap li),.bool !t])=_;rw[bj.out]
     ·have :=HF.out.1 hn
      rw[this] at h;cases h
    |succ gg=>
     have mv:k<13:=by omega
     have aZ:(k:Int)<13:=by omega
     have ez:(0:Int)<=(k:Int):=by omega
     have zW:=En mv (HU.out k mv);have a7:=Y3.out k;by_cases J9:256<=G.getD k 0
     ·have HF:Hid (¬rV (az B ps) r):=λh=>by have :=(jr.out.1 h).2.1 k mv;omega
      obtain⟨w5,wT,BP,jG⟩:=vC.out wr V;have wU:=ar wT;have Ip:=ar BP;have oH:=ar (eI.trans jG (by simp));clear wT BP jG HP U V kD eI hk;generalize G.getD k 0=x at *;go_wp2_with(with_reducible refine gS 108 wU.out ?_);refine aK (bE Tryz.results187 rfl Ip.out rfl rfl) rfl ⟨List.replicate 13 0,0,false,?_,λh=>(by cases h),λ_=>HF.out,by simp,oH.out⟩;rw[C7.out];rfl
     ·have a6:wrap64 (G.getD k 0)=G.getD k 0:=by unfold wrap64;omega
      have aN:wr.cell? ⟨wA.heap.size,k,none⟩=some (.int .i64 ((cU 0 G k).getD k 0)):=by
       rw[U.cell,aC,eR (by rw[iU _ _ _ (by rw[W.out];omega),W.out];exact mv)]
      have YV:wr.frozen? ⟨wA.heap.size,k,none⟩=false:=U.frozen k;have HR:Hid (bm (wr.setCell ⟨wA.heap.size,k,none⟩ (.int .i64 (G.getD k 0))) wA.heap.size (zs (cU 0 G (k+1))).toArray 108/\bm (wr.setCell ⟨wA.heap.size,k,none⟩ (.int .i64 (G.getD k 0))) (w.heap.size+1) ZN 108/\(∀i,i<k+1->G.getD i 0<256)/\ay [] w (wr.setCell ⟨wA.heap.size,k,none⟩ (.int .i64 (G.getD k 0)))):=by
       have bg:=ax.out;refine⟨?_,V.other (by show w.heap.size+1≠wA.heap.size;omega) _,λi hi=> ?_,eI.setCell (.inr (by show w.heap.size<=wA.heap.size;omega)) _⟩
       ·have :=U.set k (.int .i64 (G.getD k 0))
        rw[ag,KB,iN 0 G k (by rw[W.out];exact mv) (G.getD k 0) (by simp[show k<G.length by rw[W.out];exact mv])] at this;exact this
       ·by_cases e:i=k
        ·subst e;omega
        ·exact kD i (by omega)
      clear HP U V kD eI;generalize G.getD k 0=x at *;generalize (cU 0 G k).getD k 0=y at *;go_wp2_with fail;go_roundg gg;case measure=>omega
      case rel=>exact⟨k+1,by omega,by go_num,HR.out⟩
end Go.Proofs.YtcecbdeamjigiaaGreatDoor
