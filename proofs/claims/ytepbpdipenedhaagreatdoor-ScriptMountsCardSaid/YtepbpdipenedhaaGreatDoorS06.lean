/- Lemmas. -/
import Derived.Test.YtepbpdipenedhaaGreatDoorS05
set_option maxHeartbeats 8000000
set_option maxRecDepth 100000
namespace Go.Proofs.YtepbpdipenedhaaGreatDoor
open Go.Proofs.Tryz
open Go.RowKit
variable{w:World}{T W b cap g gp n o:Nat}{v:Value}{B h y:List Int}{E:List (ByteArray×Int)}{ps:List (Int×Int)}
def lH (n:bN):Nat->Nat
 |0=>if 6<(eO n.B).length then 1 else 0
 |k+1=>lH n k+((dF n.E k).length+2)/3
def dS (n:bN):Nat:=lH n 4
theorem yJ (n:bN)(h:n.E.length<=10000):∀k,lH n k<=1+k*4000
 |0=>by unfold lH;split<;>omega
 |k+1=>by
  unfold lH;have :=yJ n h k;have :=jf n.E k;omega
theorem vT (S:Nat->Value){k:Nat}(h:k<4)(w:World):(Instr.index 265 (.agg (mj S)) (.int .i64 (k:Int))).run prog w= .ok (S k) w:=by
 rcases (show k=0\/k=1\/k=2\/k=3 by omega) with rfl|rfl|rfl|rfl
 all_goals (show Sem.run _ _ _=_;kernel_rfl)
theorem BQ (n:bN)(v:Value)(g:Nat)(hB:n.B.length=13)(w:World)(hE:br w v g n.E)(U:n.E.length<=10000)(ah:∀k,k<n.E.length->(dZ n.E k).size<=9223372036854775807):
  Calls prog 199 #[.agg (aU n v)] w λe w'=>e= .returned (.int .i64 ((if bR n then dS n else 0:Nat):Int))/\ay [] w w':=by
 have HR:Hid (∀G,ay [] w G->Calls prog 96 #[.agg (aU n v)] G λe w'=>e= .returned (.bool (decide (bR n)))/\ay [] G w'):=λG J=>lO n v g hB G (hE.keep J (by simp)) ah
 have BL:=ar (λG=>FY n.B hB G);have G7:Hid (∀G,ay [] w G->Calls prog 216 #[v] G (rE G n.E)):=λG J=>EE (hE.keep J (by simp)) U ah
 have ae:=bf.new w (aU n v) 111;have gH:Hid (ay [] w (w.alloc (.cells (aU n v) 111))):=(ay.refl [] w).alloc _;have vR:=ar (cC ae hB);have oO:Hid (∀G,ay [] (w.alloc (.cells (aU n v) 111)) G->(loadVar 109 ⟨w.heap.size,4,none⟩).run prog G= .ok (.agg (zs n.B).toArray) G):=λG J=>eN (off:=4) (ae.keep J (by simp)) hB λk J=>yB _ (by omega)
 have F7:Hid (∀G,ay [] (w.alloc (.cells (aU n v) 111)) G->G.cell? ⟨w.heap.size,17,none⟩=some v):=λG J=>by rw[(ae.keep J (by simp)).cell];exact vN _ hB
 have U6:Hid ((eO n.B).length<=13):=kf n.B 13;have Qx:Hid (∀k,(dF n.E k).length<=10000):=λk=>cJ (jf _ _) U
 have ai:=ar (λk=>yJ n U k);have au:Hid (∀k,lH n (k+1)=lH n k+((dF n.E k).length+2)/3):=λ_=>rfl
 have Xf:Hid (lH n 0=if 6<(eO n.B).length then 1 else 0):=rfl;clear ae hE ah U;generalize aU n v=Z at *;generalize (zs n.B).toArray=ZB at *;by_cases hR:bR n
 ·rw[bh hR] at HR
  rw[aB hR];clear hR;unfold dS;generalize eO n.B=R at *;go_enter func199,ntmps199;go_wp2_with(with_reducible refine gL 111 vR.out ?_);refine(HR.out _ gH.out).mono ?_;rintro e w1 ⟨rfl,V⟩;have jl:=ar V;have uI:=ar (oO.out w1 V);clear V;go_wp2_with(with_reducible refine gL 109 uI.out ?_);refine(BL.out _).mono ?_;rintro e w2 ⟨va,ga,rfl,G8,sG,ak⟩;obtain⟨aa,ca,rfl,-,-,-⟩:=gy G8;have fF:=ar (jl.out.trans' ak);have aj:=F7.out w2 fF.out;clear G8 sG ak;generalize az:R.length=m at *;have HZ:=Xf.out;clear az;obtain⟨d,hd⟩:∃d,d=lH n 0:=⟨_,rfl⟩;rw[<-hd] at HZ;have HD:=ar hd;clear hd Xf;by_cases h6:6<m
  ·rw[aB h6] at HZ
   have af:(6:Int)<(m:Int):=by omega
   have ag:=ar HZ;clear HZ;go_wp2_with fail;refine(G7.out _ (gH.out.trans' fF.out)).mono ?_;rintro e w3 ⟨S,rfl,ac,hS⟩;have lV:=ar (gH.out.trans' (fF.out.trans' ac));have N8:Hid (∀k,k<4->∃a c,S k= .slice a (dF n.E k).length c):=λk J=>by
    obtain⟨g,⟨a,c,h,-⟩,-⟩:=hS k J;exact⟨a,c,h⟩
   have Ad:=λk (J:k<4) G=>vT S J G
   clear hS ac aj;generalize (Value.agg (mj S))=ZS at *;go_wp2_with fail;clear af;go_loopg [3,19] 4 (λgh s3 s19 G=>∃k:Nat,k+gh=4/\s19= .int .i64 (k:Int)/\s3= .int .i64 ((lH n k:Nat):Int)/\G=w3)
   case atStart=>exact⟨0,by omega,rfl,by rw[<-HD.out,ag.out];rfl,rfl⟩
   case round=>
    obtain⟨k,J,rfl,rfl,rfl⟩:=hrel;cases gk with
    |zero=>
     obtain rfl:k=4:=by omega
     clear J Ad;go_wp2_with fail;go_ret;exact⟨rfl,lV.out⟩
    |succ gg=>
     have W:k<4:=by omega
     have aC:(k:Int)<4:=by omega
     have eo:(0:Int)<=(k:Int):=by omega
     have Yv:=Ad k W wr;obtain⟨a,c,Xg⟩:=N8.out k W;rw[Xg] at Yv;have hl:=Qx.out k;have ax:=ai.out k;have Kb:=ar (au.out k);have Mx:=ar (tG (dF n.E k).length 3 (by omega) (by omega) (by omega));generalize (dF n.E k).length=q at *;rw[show q+3-1=q+2 by omega] at Mx;have av:(q+2)/3<=4000:=by omega
     generalize (q+2)/3=z at *;generalize lH n k=y at *;clear Ad Xg;go_wp2_with fail;refine(Mx.out _).mono ?_;rintro e w' ⟨rfl,rfl⟩;go_wp2_with fail;go_roundg gg;case measure=>omega
     case rel=>exact⟨k+1,by omega,by go_num,by rw[Kb.out];go_num,rfl⟩
  ·rw[aA h6] at HZ
   have af:¬(6:Int)<(m:Int):=by omega
   have ag:=ar HZ;clear HZ;go_wp2_with fail;refine(G7.out _ (gH.out.trans' fF.out)).mono ?_;rintro e w3 ⟨S,rfl,ac,hS⟩;have lV:=ar (gH.out.trans' (fF.out.trans' ac));have N8:Hid (∀k,k<4->∃a c,S k= .slice a (dF n.E k).length c):=λk J=>by
    obtain⟨g,⟨a,c,h,-⟩,-⟩:=hS k J;exact⟨a,c,h⟩
   have Ad:=λk (J:k<4) G=>vT S J G
   clear hS ac aj;generalize (Value.agg (mj S))=ZS at *;go_wp2_with fail;clear af;go_loopg [3,19] 4 (λgh s3 s19 G=>∃k:Nat,k+gh=4/\s19= .int .i64 (k:Int)/\s3= .int .i64 ((lH n k:Nat):Int)/\G=w3)
   case atStart=>exact⟨0,by omega,rfl,by rw[<-HD.out,ag.out];rfl,rfl⟩
   case round=>
    obtain⟨k,J,rfl,rfl,rfl⟩:=hrel;cases gk with
    |zero=>
     obtain rfl:k=4:=by omega
     clear J Ad;go_wp2_with fail;go_ret;exact⟨rfl,lV.out⟩
    |succ gg=>
     have W:k<4:=by omega
     have aC:(k:Int)<4:=by omega
     have eo:(0:Int)<=(k:Int):=by omega
     have Yv:=Ad k W wr;obtain⟨a,c,Xg⟩:=N8.out k W;rw[Xg] at Yv;have hl:=Qx.out k;have ax:=ai.out k;have Kb:=ar (au.out k);have Mx:=ar (tG (dF n.E k).length 3 (by omega) (by omega) (by omega));generalize (dF n.E k).length=q at *;rw[show q+3-1=q+2 by omega] at Mx;have av:(q+2)/3<=4000:=by omega
     generalize (q+2)/3=z at *;generalize lH n k=y at *;clear Ad Xg;go_wp2_with fail;refine(Mx.out _).mono ?_;rintro e w' ⟨rfl,rfl⟩;go_wp2_with fail;go_roundg gg;case measure=>omega
     case rel=>exact⟨k+1,by omega,by go_num,by rw[Kb.out];go_num,rfl⟩
 ·rw[aM hR] at HR
  rw[aA hR];clear hR;go_enter func199,ntmps199;go_wp2_with(with_reducible refine gL 111 vR.out ?_);refine(HR.out _ gH.out).mono ?_;rintro e w1 ⟨rfl,V⟩;have jl:=ar (gH.out.trans' V);clear V;go_wp2_with fail;go_ret;exact⟨rfl,jl.out⟩
def F8 (E:List (ByteArray×Int)) (f i:Nat):Int:=if i%2=0 then ((jq (bl (dZ E (f+i/2))):Nat):Int) else iC E (f+i/2)
def uZ (E:List (ByteArray×Int)) (f j:Nat):List Int:=(List.range 8).map λi=>if i<2*j then F8 E f i else 0
def gI (E:List (ByteArray×Int)) (k:Nat):List Int:=uZ E (4*k) (min 4 (E.length-4*k))
theorem jS (E:List (ByteArray×Int))(f j:Nat):(uZ E f j).length=8:=by simp[uZ]
theorem ni (E:List (ByteArray×Int))(f j i:Nat)(h:i<8):(uZ E f j).getD i 0=if i<2*j then F8 E f i else 0:=by
 rw[uZ,aj,bC,bV h];rfl
theorem BR:(prog.info? 87).map (·.size)=some 2:=by kernel_rfl
theorem DA (g off n cap f h:Nat)(U:f<cap)(G:f<=h)(V:h<=cap)(w:World):
  (Instr.sliceAt 32 (.slice (some ⟨g,off,none⟩) n cap) (some (.int .i64 (f:Int))) (some (.int .i64 (h:Int))) none).run prog w= .ok (.slice (some ⟨g,off+f*2,none⟩) (h-f) (cap-f)) w:=by
 have y: prog.underlying 32 =some (.slice (prog.elem 32)):=by kernel_rfl
 have z: prog.elem 32 = 87 :=by kernel_rfl
 have J:(sizeOf 87).run prog w= .ok 2 w:=by kernel_rfl
 rw[run_sliceAt_slice _ _ _ _ _ _ y,run_slice_lh _ _ _ _ _ y .i64 .i64 (f:Int) (h:Int) (by omega) (by omega) (by omega),z,J];simp only[bX,sliced,aJ];rw[aA (by omega)];simp[add_plain]
theorem rF (b:Nat)(w:World):(Instr.sliceAt 195 (.pointer (some ⟨b,0,none⟩)) none none none).run prog w= .ok (.slice (some ⟨b,0,none⟩) 8 8) w:=by show Sem.run _ _ _=_;kernel_rfl
theorem nj{gs:Nat}(J:bf w b (aO y).toArray T)(hs:Reads w v gs (aO h))(hm:h.length<=n)(W:o+h.length<=y.length):
  ∃r w',(∀ty,(Builtin.copy_ #[71,71] ty #[.slice (some ⟨b,o,none⟩) n cap,v]).run prog w= .ok r w')/\bf w' b (aO (y.take o++h++y.drop (o+h.length))).toArray T/\ay [b] w w':=by
 obtain⟨a,c,rfl,h1,h2,U⟩:=gy hs;by_cases h0:h.length=0
 ·obtain rfl:=bc h0
  refine⟨_,w,λty=>run_copy_none (P:= prog) w 71 71 ty 56 _ a n cap 0 c underlying71 nG (by simp),?_,ay.refl _ _⟩;rw[bq,b9,dP,ey];exact J
 ·obtain⟨hg,off,rfl,-⟩:=U.out 0 (by omega)
  have hl:(aO h).length=min h.length n:=by rw[aZ];omega
  refine⟨_,_,λty=>run_copy_row (P:= prog) w 71 71 ty 56 b o n cap ⟨gs,off,none⟩ h.length c (aO y).toArray T (aO h) underlying71 nG J hl ?_ ?_ ?_,?_,(ay.refl _ _).setRow (by simp) _⟩
  ·intro j u z
   have V:j<h.length:=by
    have :=(List.getElem?_eq_some_iff.1 z).1;rwa[aZ] at this
   obtain⟨-,Z,G,hc⟩:=U.out j V;cases G;rw[cG V] at z;rw[add_plain,hc,<-z]
  ·rw[bH,aZ,aZ];omega
  ·exact λu z=>eF _ u z
  ·have e:((aO y).toArray.toList.take o++aO h++(aO y).toArray.toList.drop (o+(aO h).length)).toArray=(aO (y.take o++h++y.drop (o+h.length))).toArray:=by
    rw[aZ];simp[aO,List.map_take,List.map_drop]
   rw[e];exact j6 J
theorem br.sub{off:Nat}(h:br w (.slice (some ⟨g,off,none⟩) n cap) g E)(hn:n=E.length)(f c:Nat)(U:f+c<=n):br w (.slice (some ⟨g,off+f*2,none⟩) c (cap-f)) g ((E.drop f).take c):=by
 obtain⟨a,G,hv,h1,h2,W⟩:=h;cases hv;have y:((E.drop f).take c).length=c:=by rw[aI,bu];omega
 refine⟨_,cap-f,by rw[y],by omega,by omega,λh0=> ?_⟩;rw[y] at h0;obtain⟨hg,J,ho,Z⟩:=W (by omega);cases ho;refine⟨hg,_,rfl,λj z=> ?_⟩;rw[y] at z;obtain⟨V,c1⟩:=Z (f+j) (by omega);have e:((E.drop f).take c).getD j (ByteArray.empty,0)=E.getD (f+j) (ByteArray.empty,0):=by
  simp[z]
 rw[show off+f*2+j*2=off+(f+j)*2 by omega,dZ,iC,e];exact⟨V,c1⟩
theorem xk (E:List (ByteArray×Int))(f c k:Nat)(h:k<c):dZ ((E.drop f).take c) k=dZ E (f+k)/\iC ((E.drop f).take c) k=iC E (f+k):=by
 have e:((E.drop f).take c).getD k (ByteArray.empty,0)=E.getD (f+k) (ByteArray.empty,0):=by
  simp[h]
 rw[dZ,iC,e];exact⟨rfl,rfl⟩
theorem su.sub(h:su E)(f c:Nat)(G:f+c<=E.length):su ((E.drop f).take c):=by
 have z:((E.drop f).take c).length=c:=by rw[aI,bu];omega
 refine⟨by rw[z];have :=h.len;omega,λk y=> ?_,λk y=> ?_⟩
 ·rw[z] at y
  rw[(xk E f c k y).1];exact h.size _ (by omega)
 ·rw[z] at y
  rw[(xk E f c k y).2];exact h.ino _ (by omega)
theorem ID (E:List (ByteArray×Int))(f j:Nat)(hj:j<=4)(h:f+j<=E.length):uZ E f j=dM ((E.drop f).take j)++List.replicate (8-2*j) 0:=by
 have y:((E.drop f).take j).length=j:=by rw[aI,bu];omega
 refine zB (by rw[jS,aD,jr,y,bj];omega) λi z=> ?_
 rw[jS] at z;rw[ni _ _ _ _ z];by_cases G:i<2*j
 ·rw[aB G,aj,bg (by rw[jr,y];omega),<-aj]
  obtain⟨U,W⟩:=rD ((E.drop f).take j) (i/2) (by omega);obtain⟨V,Z⟩:=xk E f j (i/2) (by omega);unfold F8;by_cases J:i%2=0
  ·rw[aB J,<-V,<-U,show i/2*2=i by omega]
  ·rw[aA J,<-Z,<-W,show i/2*2+1=i by omega]
 ·rw[aA G,aj,aT (by rw[jr,y];omega),bb]
  split<;>rfl
theorem tH (hE:br w v g E)(ho:su E)(k:Nat)(hk:4*k<E.length):
  Calls prog 196 #[v,.int .i64 (k:Int)] w λe w'=>e= .returned (.agg (aO (gI E k)).toArray)/\ay [] w w':=by
 obtain⟨a,cap,rfl,aF,av,uL⟩:=hE.open;obtain⟨hg,off,rfl,-,-⟩:=uL.out _ hk;unfold maxLen at av;have aD:=ho.len;obtain⟨c,hc⟩:∃c,c=min 4 (E.length-4*k):=⟨_,rfl⟩;have ax:c<=4:=by omega
 unfold gI;rw[<-hc];obtain⟨f,hf⟩:∃f,f=4*k:=⟨_,rfl⟩;rw[<-hf] at hk hc ⊢;have aH:(k:Int)*4=(f:Int):=by omega
 have af:=λJ=>DA g off E.length cap f (f+c) (by omega) (by omega) (by omega) J
 rw[show f+c-f=c by omega] at af;have ag:Hid (∀H:Int,H=(f:Int)+(c:Int)->∀J,(Instr.sliceAt 32 (.slice (some ⟨g,off,none⟩) E.length cap) (some (.int .i64 (f:Int))) (some (.int .i64 H)) none).run prog J= .ok (.slice (some ⟨g,off+f*2,none⟩) c (cap-f)) J):=λH hH J=>by
  have :=af J;rw[show((f+c:Nat):Int)=H by omega] at this;exact this
 have aG:=jx;obtain⟨H,hH,aA⟩:∃H:Int,H=(f:Int)+(c:Int)/\((((f:Int)+4<=(E.length:Int))/\H=(f:Int)+4)\/((E.length:Int)<(f:Int)+4/\H=(E.length:Int))):=⟨_,rfl,by omega⟩;have aB:=ag.out H hH;have Z:f+c<=E.length:=by omega
 have ak:=ar (hE.sub rfl f c Z);have aj:=ar (ho.sub f c Z);have ai:=ar (ID E f c ax Z);have Xd:Hid ((dM ((E.drop f).take c)).length=2*c):=by
  show _=_;rw[jr,aI,bu];omega
 have Dd:=ar (jS E f c);have BS:Hid (∀J,ay [] w J->Calls prog 212 #[.slice (some ⟨g,off+f*2,none⟩) c (cap-f)] J (iK J (dM ((E.drop f).take c)))):=λJ hk=>uX (ak.out.keep hk (by simp)) aj.out
 generalize dM ((E.drop f).take c)=WE at *;have aJ:=rF (w.heap.size+1);obtain⟨W0,ac⟩:∃W0,W0=(w.alloc (.cells (aO (List.replicate 8 0)).toArray 195)).alloc (.cells (aO (List.replicate 8 0)).toArray 195):=⟨_,rfl⟩;have qD:Hid (bf W0 (w.heap.size+1) (aO (List.replicate 8 0)).toArray 195):=by
  have :=bf.new (w.alloc (.cells (aO (List.replicate 8 0)).toArray 195)) (aO (List.replicate 8 0)).toArray 195;have e:(w.alloc (.cells (aO (List.replicate 8 0)).toArray 195)).heap.size=w.heap.size+1:=by simp
  rw[e,<-ac] at this;exact this
 have oL:Hid (bf W0 w.heap.size (aO (List.replicate 8 0)).toArray 195):=by
  rw[ac];exact(bf.new w _ _).alloc _
 have HK:Hid (ay [] w W0):=by
  rw[ac];exact((ay.refl _ _).alloc _).alloc _
 have nX:=ar ac;clear hE ho af ag hf hc ac ak aj aB;generalize sP:(aO (List.replicate 8 0)).toArray=Z8 at *;have ah:Hid (∀J,ay [] W0 J->bf J (w.heap.size+1) (aO (List.replicate 8 0)).toArray 195):=λJ hk=>by rw[sP];exact qD.out.keep hk (by simp)
 have yb:Hid (Z8.size=8):=by rw[<-sP];rfl
 clear sP qD;generalize E.length=n at *;rcases aA with ⟨aC,rfl⟩|⟨aC,rfl⟩
 ·obtain rfl:c=4:=by omega
  have az:IntKind.i64.wrap ((f:Int)+4)=(f:Int)+4:=dV _ (by omega);have h1:(0:Int)<=(f:Int)+4:=by omega
  have h2:(f:Int)+4<=(cap:Int):=by omega
  have h3:((f:Int)+4).toNat=f+4:=by omega
  have h4:¬cap=f:=by omega
  clear hH Z;go_enter func196,ntmps196;go_wp2_with fail;rw[<-nX.out];go_region_with (go_at_call 212;refine(BS.out _ HK.out.drew).mono ?_;rintro e w1 ⟨v1,g1,rfl,U,ae,h⟩;obtain⟨vc,w2,EF,G,V⟩:=nj (o:=0) (n:=8) (cap:=8) (ah.out _ ((ay.refl _ _).drew.trans' h)) U (by have :=Xd.out;omega) (by rw[bj];have :=Xd.out;omega);(have RB:=EF 3);obtain⟨a1,c1,rfl,-,-,-⟩:=gy U)
  have z:(List.replicate 8 (0:Int)).take 0++WE++(List.replicate 8 (0:Int)).drop (0+WE.length)=uZ E f 4:=by
   rw[ai.out,Xd.out,eI,bT,aV,iG]
  rw[z] at G;have HL:=ar (dX G Dd.out);have y:bf w2 w.heap.size Z8 195 :=(oL.out.drew.keep h (by simp)).keep V (by simp);obtain⟨w3,hS,aa,W⟩:=bo (P:= prog) (ty:= 195) (cs:=aO (uZ E f 4)) (by rw[aZ,Dd.out];exact il) y (by rw[yb.out,aZ,Dd.out]) (eF _);have HS:=ar hS;have pd:=ar (dX aa Dd.out);have iA:Hid (ay [] w w3):=(((HK.out.drew.trans' h).trans V (by intro x hx;rw[au] at hx;omega))).trans W (by intro x hx;rw[au] at hx;omega);clear z G y hS aa W EF RB h V ae U;go_wp2_with(first|(with_reducible refine gL 195 HL.out ?_)|(with_reducible refine gS 195 HS.out ?_));exact aL (dJ results196 rfl pd.out) rfl ⟨rfl,iA.out⟩
 ·have az:IntKind.i64.wrap ((f:Int)+4)=(f:Int)+4:=dV _ (by omega)
  have h2:n<=cap:=by omega
  have h3:f<=n:=by omega
  have h4:¬cap=f:=by omega
  have h5:n-f=c:=by omega
  clear hH Z;go_enter func196,ntmps196;go_wp2_with fail;rw[<-nX.out];go_region_with (go_at_call 212;refine(BS.out _ HK.out.drew).mono ?_;rintro e w1 ⟨v1,g1,rfl,U,ae,h⟩;obtain⟨vc,w2,EF,G,V⟩:=nj (o:=0) (n:=8) (cap:=8) (ah.out _ ((ay.refl _ _).drew.trans' h)) U (by have :=Xd.out;omega) (by rw[bj];have :=Xd.out;omega);(have RB:=EF 3);obtain⟨a1,c1,rfl,-,-,-⟩:=gy U)
  have z:(List.replicate 8 (0:Int)).take 0++WE++(List.replicate 8 (0:Int)).drop (0+WE.length)=uZ E f c:=by
   rw[ai.out,Xd.out,eI,bT,aV,iG]
  rw[z] at G;have HL:=ar (dX G Dd.out);have y:bf w2 w.heap.size Z8 195 :=(oL.out.drew.keep h (by simp)).keep V (by simp);obtain⟨w3,hS,aa,W⟩:=bo (P:= prog) (ty:= 195) (cs:=aO (uZ E f c)) (by rw[aZ,Dd.out];exact il) y (by rw[yb.out,aZ,Dd.out]) (eF _);have HS:=ar hS;have pd:=ar (dX aa Dd.out);have iA:Hid (ay [] w w3):=(((HK.out.drew.trans' h).trans V (by intro x hx;rw[au] at hx;omega))).trans W (by intro x hx;rw[au] at hx;omega);clear z G y hS aa W EF RB h V ae U;go_wp2_with(first|(with_reducible refine gL 195 HL.out ?_)|(with_reducible refine gS 195 HS.out ?_));exact aL (dJ results196 rfl pd.out) rfl ⟨rfl,iA.out⟩
def dz (X:List Int) (p:Nat):List Int:=(List.range 8).map λj=>X.getD (p+j) 0
theorem iB (X:List Int)(p:Nat):(dz X p).length=8:=by simp[dz]
theorem jt (X:List Int)(p k:Nat)(h:k<8):(dz X p).getD k 0=X.getD (p+k) 0:=by
 rw[dz,aj,bC,bV h];rfl
def jz (p:Nat) (l:List Int) (k:Nat):List (Int×Int):=(List.range k).map λj=>(((p+j:Nat):Int),l.getD j 0)
theorem BU (p:Nat)(l:List Int)(k:Nat):jz p l (k+1)=jz p l k++[(((p+k:Nat):Int),l.getD k 0)]:=by
 unfold jz;rw[dI,eJ];rfl
theorem np (p:Nat)(l:List Int)(k:Nat):(jz p l k).length=k:=by simp[jz]
theorem mL (h:eT w b gp B ps)(p:Nat)(hp:p+8<=3128):
  Calls prog 141 #[.pointer (some ⟨b,0,none⟩),.int .i64 (p:Int)] w λe w'=>e= .returned (.agg (aO (dz (az B ps) p)).toArray)/\ay [] w w':=by
 have yc:=ar h;have V:=iB (az B ps) p;have KU:Hid (∀(k:Nat) J,k<8->ay [] w J->Calls prog 127 #[.pointer (some ⟨b,0,none⟩),.int .i64 ((p:Int)+(k:Int))] J λe w'=>e= .returned (.int .u64 ((dz (az B ps) p).getD k 0))/\J=w'):=λk J hk eW=>by
  have :=nE (yc.out.keep eW (by simp) (by simp)) ((p:Int)+(k:Int));unfold Dl at this;rw[aB (by omega),show((p:Int)+(k:Int)).toNat=p+k by omega,<-jt _ p k hk] at this;exact this
 have yb:(aO (List.replicate 8 0)).toArray=(aO (dn 0 (dz (az B ps) p) 0)).toArray:=by rw[jA,V]
 clear h;generalize dz (az B ps) p=d at *;obtain⟨Z,G⟩:∃Z,Z=(w.alloc (.cells (aO (List.replicate 8 0)).toArray 195)).alloc (.cells (aO (List.replicate 8 0)).toArray 195):=⟨_,rfl⟩;have oL:Hid (bf Z w.heap.size (aO (List.replicate 8 0)).toArray 195):=by
  have :=(bf.new w (aO (List.replicate 8 0)).toArray 195).alloc (.cells (aO (List.replicate 8 0)).toArray 195);rw[<-G] at this;exact this
 have p9:Hid (bf Z (w.heap.size+1) (aO (dn 0 d 0)).toArray 195):=by
  have :=bf.new (w.alloc (.cells (aO (List.replicate 8 0)).toArray 195)) (aO (List.replicate 8 0)).toArray 195;have e:(w.alloc (.cells (aO (List.replicate 8 0)).toArray 195)).heap.size=w.heap.size+1:=by simp
  rw[e,<-G,yb] at this;exact this
 have HK:Hid (ay [] w Z):=by
  show ay _ _ _;rw[G];exact((ay.refl [] w).alloc _).alloc _
 have af:=jx;clear yb yc;generalize sP:(aO (List.replicate 8 0)).toArray=Z8 at *;go_enter func141,ntmps141;go_wp2_with fail;rw[<-G];go_loopg [7] 8 (λgh s7 J=>∃k:Nat,k+gh=8/\s7= .int .i64 (k:Int)/\Hid (bf J (w.heap.size+1) (aO (dn 0 d k)).toArray 195/\bf J w.heap.size Z8 195/\ay [] w J))
 case atStart=>exact⟨0,by omega,rfl,p9.out,oL.out,HK.out⟩
 case round=>
  clear oL p9 HK af G;obtain⟨k,hk,rfl,z⟩:=hrel;cases gk with
  |zero=>
   obtain rfl:k=8:=by omega
   have U:=z.out.1;rw[show dn 0 d 8=d by rw[<-V];exact j5 0 d] at U;have HL:=ar (dX U V);obtain⟨w2,hS,W,aa⟩:=bo (P:= prog) (ty:= 195) (cs:=aO d) (by rw[aZ,V];exact il) z.out.2.1 (by rw[<-sP];simp[aZ,V]) (eF _);have HS:=ar hS;have pd:=ar (dX W V);have iA:=ar (z.out.2.2.trans aa (by simp));clear hS U W aa z hk;go_wp2_with(first|(with_reducible refine gL 195 HL.out ?_)|(with_reducible refine gS 195 HS.out ?_));exact aL (dJ results141 rfl pd.out) rfl ⟨rfl,iA.out⟩
  |succ gg=>
   have sX:k<8:=by omega
   have ah:(k:Int)<8:=by omega
   have eo:(0:Int)<=(k:Int):=by omega
   have HC:=ar (KU.out k wr sX z.out.2.2);have ac:wr.cell? ⟨w.heap.size+1,k,none⟩=some (.int .u64 ((dn 0 d k).getD k 0)):=by
    rw[z.out.1.cell,aC,cG (by rw[jG _ _ _ (by omega)];omega)]
   have hf:wr.frozen? ⟨w.heap.size+1,k,none⟩=false:=z.out.1.frozen k;have HB:Hid (bf (wr.setCell ⟨w.heap.size+1,k,none⟩ (.int .u64 (d.getD k 0))) (w.heap.size+1) (aO (dn 0 d (k+1))).toArray 195):=by
    have :=z.out.1.set k (.int .u64 (d.getD k 0));rw[ag,ku,jB 0 d k (by omega) (d.getD k 0) (by simp[show k<d.length by omega])] at this;exact this
   have ae:Hid (bf (wr.setCell ⟨w.heap.size+1,k,none⟩ (.int .u64 (d.getD k 0))) w.heap.size Z8 195):=z.out.2.1.other (by simp) _;have iA:=ar z.out.2.2;clear z;generalize d.getD k 0=x at *;generalize (dn 0 d k).getD k 0=y at *;go_wp2_with fail;refine HC.out.mono ?_;rintro e w' ⟨rfl,rfl⟩;go_wp2_with fail;go_roundg gg;case measure=>omega
   case rel=>exact⟨k+1,by omega,by go_num,HB.out,ae.out,iA.out.setCell (by simp) _⟩
theorem qF{G:Nat}(h:eT w b G B ps)(hn:ps.length<=900000)(p:Nat)(hp:p+8<=3128)(l:List Int)(hl:l.length=8):
  Calls prog 195 #[.pointer (some ⟨b,0,none⟩),.int .i64 (p:Int),.agg (aO l).toArray] w (iY w b G B (ps++jz p l 8)):=by
 have HL:Hid ((loadVar 195 ⟨w.heap.size,0,none⟩).run prog (w.alloc (.cells (aO l).toArray 195))= .ok (.agg (aO l).toArray) (w.alloc (.cells (aO l).toArray 195))):=dX (bf.new w _ _) hl;have HX:Hid (∀k,k<8->(aO l).toArray[k]? =some (.int .u64 (l.getD k 0))):=λk hk=>by rw[aC,cG (by omega)]
 have gH:Hid (ay [b,G] w (w.alloc (.cells (aO l).toArray 195))):=(ay.refl _ w).alloc _;have yc:=ar (h.keep ((ay.refl [] w).alloc (.cells (aO l).toArray 195)) (by simp) (by simp));clear h;generalize (aO l).toArray=Z at *;go_enter func195,ntmps195;go_wp2_with(with_reducible refine gL 195 HL.out ?_);go_loopg [9] 8 (λgh s9 wx=>∃k:Nat,k+gh=8/\s9= .int .i64 (k:Int)/\Hid (∃y,(y=G\/(w.heap.size<=y/\y<wx.heap.size))/\eT wx b y B (ps++jz p l k)/\ay [b,G] w wx))
 case atStart=>exact⟨0,by omega,rfl,G,.inl rfl,by rw[show jz p l 0=[] from rfl,bq];exact yc.out,gH.out⟩
 case round=>
  clear yc gH HL;obtain⟨k,hk,rfl,HP⟩:=hrel;obtain⟨y,Dn,z,eW⟩:=HP.out;cases gk with
  |zero=>
   obtain rfl:k=8:=by omega
   have HE:Hid (iY w b G B (ps++jz p l 8) (.returned (.tuple #[])) wr):=⟨rfl,y,Dn,z,eW⟩;clear HP Dn z eW hk;go_wp2_with fail;go_end0;exact HE.out
  |succ gg=>
   have sX:k<8:=by omega
   have ac:(k:Int)<8:=by omega
   have eo:(0:Int)<=(k:Int):=by omega
   have Ad:=Rm sX (HX.out k sX);have J:Ae (ps++jz p l k) ((p:Int)+(k:Int)) (l.getD k 0)=ps++jz p l (k+1):=by
    rw[Ae,aB (by rw[ru];omega),BU,ba,Int.natCast_add]
   have HC:=o7 z (by rw[aD,np];omega) ((p:Int)+(k:Int)) (l.getD k 0);rw[J] at HC;have HC:=ar HC;have HG:=ar Dn;have iA:=ar eW;clear HP Dn z eW J;generalize l.getD k 0=x at *;go_wp2_with fail;refine HC.out.mono ?_;rintro e w2 ⟨rfl,xe,W,V,U⟩;have HR:Hid (∃y,(y=G\/(w.heap.size<=y/\y<w2.heap.size))/\eT w2 b y B (ps++jz p l (k+1))/\ay [b,G] w w2):=by
    have aa:=iA.out.size;have RD:=U.size;refine⟨xe,?_,V,iA.out.trans U λx hx=> ?_⟩
    ·rcases HG.out with h|h<;>rcases W with h2|h2<;>omega
    ·simp only[aQ,aS,bD] at hx ⊢
     rcases HG.out with h|h<;>omega
   clear W V U;go_wp2_with fail;go_roundg gg;case measure=>omega
   case rel=>exact⟨k+1,by omega,by go_num,HR.out⟩
def sy (l:List Int) (e:Nat):Nat:=1080+8*(l.getD (e/4) 0).toNat+2*(e%4)
def vU (X l:List Int) (e:Nat):Nat:=(X.getD (sy l e) 0).toNat
def rG (X l:List Int) (e:Nat):Int:=X.getD (sy l e+1) 0
def pj (X l:List Int) (m:Nat):List (ByteArray×Int):=(List.range m).map λe=>(sF ((jk (vU X l e)).getD []),rG X l e)
theorem nr (X l:List Int)(m:Nat):(pj X l m).length=m:=by simp[pj]
theorem yK (X l:List Int)(m e:Nat)(h:e<m):dZ (pj X l m) e=sF ((jk (vU X l e)).getD [])/\iC (pj X l m) e=rG X l e:=by
 have :(pj X l m).getD e (ByteArray.empty,0)=(sF ((jk (vU X l e)).getD []),rG X l e):=by
  rw[pj,aj,bC,bV h];rfl
 rw[dZ,iC,this];exact⟨rfl,rfl⟩
theorem tI (E:List (ByteArray×Int))(n e:Nat)(h:e<n):dZ (E.take n) e=dZ E e/\iC (E.take n) e=iC E e:=by
 have :(E.take n).getD e (ByteArray.empty,0)=E.getD e (ByteArray.empty,0):=by simp[h]
 rw[dZ,iC,this];exact⟨rfl,rfl⟩
theorem zG (E:List (ByteArray×Int))(k c:Nat)(G:c=min 4 (E.length-4*k))(U:4*k<E.length):gI (E.take (4*k+c)) k=gI E k:=by
 unfold gI;rw[aI,show min 4 (min (4*k+c) E.length-4*k)=c by omega,<-G];refine zB (by rw[jS,jS]) λi y=> ?_
 rw[jS] at y;rw[ni _ _ _ _ y,ni _ _ _ _ y];by_cases h:i<2*c
 ·rw[aB h,aB h]
  obtain⟨J,z⟩:=tI E (4*k+c) (4*k+i/2) (by omega);rw[F8,F8,J,z]
 ·rw[aA h,aA h]
def zH (X l:List Int) (m k:Nat):Prop:=
 l.getD k 0≠0/\(∀j,j<min 4 (m-4*k)->(jk (vU X l (4*k+j))).isSome=true/\rG X l (4*k+j)<32)/\gI (pj X l m) k=dz X (1080+8*(l.getD k 0).toNat)
def lI (X l:List Int) (m:Nat):Prop:=m<=24/\l=kW l (aY m)/\∀k,k<aY m->zH X l m k
theorem N9 (l:List Int)(k j:Nat)(h:j<4):sy l (4*k+j)=1080+8*(l.getD k 0).toNat+2*j:=by
 rw[sy,show(4*k+j)/4=k by omega,show(4*k+j)%4=j by omega]
theorem KV{l:List Nat}(h:jk W=some l):l.length<=7/\(∀c∈l,c<256)/\gA l=true/\ot l=W:=by
 unfold jk at h;split at h
 ·rename_i hc
  cases h;exact⟨by rw[aI];omega,λc y=>Ms W c (bQ y),hc.2.1,hc.2.2⟩
 ·cases h
theorem um (W:Nat):(sF ((jk W).getD [])).size<=7:=by
 rw[Ew];cases h:jk W with
 |none=>simp
 |some l=>exact(KV h).1
theorem BV{J so m mc:Nat}(U:bf w b (aO h).toArray T)(hs:bf w J (aO y).toArray W)(hm:m<=n)(V:o+m<=h.length)(aa:so+m<=y.length):
  ∃v w',(∀ty,(Builtin.copy_ #[71,71] ty #[.slice (some ⟨b,o,none⟩) n cap,.slice (some ⟨J,so,none⟩) m mc]).run prog w= .ok v w')/\bf w' b (aO (h.take o++(y.drop so).take m++h.drop (o+m))).toArray T/\ay [b] w w':=by
 have G:(aO ((y.drop so).take m)).length=min m n:=by rw[aZ,aI,bu];omega
 refine⟨_,_,λty=>run_copy_row (P:= prog) w 71 71 ty 56 b o n cap ⟨J,so,none⟩ m mc (aO h).toArray T (aO ((y.drop so).take m)) underlying71 nG U G ?_ ?_ ?_,?_,(ay.refl _ _).setRow (by simp) _⟩
 ·intro j u z
  have Z:j<m:=by
   have :=(List.getElem?_eq_some_iff.1 z).1;rw[G] at this;omega
  rw[cG (by rw[aI,bu];omega)] at z;rw[add_plain,hs.cell,aC,cG (by omega),<-z];simp[Z]
 ·rw[G,bH,aZ];omega
 ·exact λu z=>eF _ u z
 ·have e:((aO h).toArray.toList.take o++aO ((y.drop so).take m)++(aO h).toArray.toList.drop (o+(aO ((y.drop so).take m)).length)).toArray=(aO (h.take o++(y.drop so).take m++h.drop (o+m))).toArray:=by
   rw[G,cA hm];simp[aO,List.map_take,List.map_drop]
  rw[e];exact j6 U
theorem IE (b:Nat)(w:World):(Instr.sliceAt 254 (.pointer (some ⟨b,0,none⟩)) none none none).run prog w= .ok (.slice (some ⟨b,0,none⟩) 13 13) w:=by show Sem.run _ _ _=_;kernel_rfl
theorem F9 (b:Nat)(w:World):(Instr.sliceAt 254 (.pointer (some ⟨b,0,none⟩)) (some (.int .i64 5)) none none).run prog w= .ok (.slice (some ⟨b,5,none⟩) 8 8) w:=by show Sem.run _ _ _=_;kernel_rfl
theorem BX (b:Nat)(w:World):(Instr.sliceAt 195 (.pointer (some ⟨b,0,none⟩)) (some (.int .i64 2)) (some (.int .i64 7)) none).run prog w= .ok (.slice (some ⟨b,2,none⟩) 5 6) w:=by show Sem.run _ _ _=_;kernel_rfl
def cD (X r:List Int):List Int:=(r.drop 2).take 5++(if r.getD 7 0=0 then List.replicate 8 0 else dz X (1080+8*(r.getD 7 0).toNat))
def sA (X r:List Int):Prop:=r.getD 7 0<256/\(∀k,k<13->(cD X r).getD k 0<256)/\(r.getD 7 0=0\/(cD X r).drop 5≠List.replicate 8 0)
instance (X r:List Int):Decidable (sA X r):=by unfold sA;infer_instance
theorem rH{X r:List Int}(h:r.length=8):(cD X r).length=13:=by
 unfold cD;split
 ·simp[h]
 ·simp[h,iB]
theorem Ga (f row:List Int)(h:f.length=5)(y:row.length=8):(f++List.replicate 8 (0:Int)).take 5++(row.drop 0).take 8++(f++List.replicate 8 (0:Int)).drop (5+8)=f++row:=by
 rw[List.take_left' h,List.drop_zero,aW (by omega),cZ (by simp[h]),bq]
def Vf (w:World) (X r:List Int) (e:Ending) (w':World):Prop:=
 ∃h y ok,e= .returned (.tuple #[.agg (zs h).toArray,.int .i64 y,.bool ok])/\(ok=true->sA X r/\h=cD X r/\y=r.getD 7 0)/\(ok=false->¬sA X r)/\h.length=13/\ay [] w w'
theorem Gb (h:eT w b gp B ps)(aW:In64 (az B ps))(r:List Int)(hr:r.length=8)(sH:In64 r):
  Calls prog 190 #[.pointer (some ⟨b,0,none⟩),.agg (aO r).toArray] w (Vf w (az B ps) r):=by
 have HS:=ar h;have sD:=ar aW;have uM:=ar sH;have Oa:=mH;have Qz:=Rk
 -- the world behind the three variables
 have aQ:=((bf.new w (aO r).toArray 195).alloc (.cells (zs (List.replicate 13 0)).toArray 109)).alloc (.cells (aO (List.replicate 13 0)).toArray 254);have U:=(bf.new (w.alloc (.cells (aO r).toArray 195)) (zs (List.replicate 13 0)).toArray 109).alloc (.cells (aO (List.replicate 13 0)).toArray 254);have V:=bf.new ((w.alloc (.cells (aO r).toArray 195)).alloc (.cells (zs (List.replicate 13 0)).toArray 109)) (aO (List.replicate 13 0)).toArray 254;rw[show(w.alloc (.cells (aO r).toArray 195)).heap.size=w.heap.size+1 by simp] at U;rw[show((w.alloc (.cells (aO r).toArray 195)).alloc (.cells (zs (List.replicate 13 0)).toArray 109)).heap.size=w.heap.size+1+1 by simp] at V;obtain⟨v1,w1,EF,aR,aK⟩:=BV (o:=0) (n:=13) (cap:=13) (so:=2) (m:=5) (mc:=6) V.drew aQ.drew (by omega) (by simp) (by omega);have bc:ay [] w w1:=(((((ay.refl [] w).alloc _).alloc _).alloc _).drew).trans aK (by intro x J;rw[au] at J;omega);have Yw:=aQ.drew.keep aK (by rw[au];omega);have RF:=U.drew.keep aK (by rw[au];omega);have tJ:(List.replicate 13 (0:Int)).take 0++(r.drop 2).take 5++(List.replicate 13 (0:Int)).drop (0+5)=(r.drop 2).take 5++List.replicate 8 0:=by simp
 rw[tJ] at aR;have Ui:=ar EF;have ax:=ar aR;have nW:=ar Yw;have qD:=ar RF;have jl:=ar bc;have bH:=IE (w.heap.size+1+1);have RG:=BX w.heap.size;have c7:w1.cell? ⟨w.heap.size,7,none⟩=some (.int .u64 (r.getD 7 0)):=by rw[Yw.cell,aC,cG (by omega)]
 have Al:Hid (cD (az B ps) r=(r.drop 2).take 5++(if r.getD 7 0=0 then List.replicate 8 0 else dz (az B ps) (1080+8*(r.getD 7 0).toNat))):=rfl;have nt:=ar (rH (X:=az B ps) hr);have jc:Hid (sA (az B ps) r↔r.getD 7 0<256/\(∀k,k<13->(cD (az B ps) r).getD k 0<256)/\(r.getD 7 0=0\/(cD (az B ps) r).drop 5≠List.replicate 8 0)):=Iff.rfl;have Yx:Hid (In64 (cD (az B ps) r)):=by
  intro i;have e:cD (az B ps) r=(r.drop 2).take 5++(if r.getD 7 0=0 then List.replicate 8 0 else dz (az B ps) (1080+8*(r.getD 7 0).toNat)):=rfl;by_cases hi:i<5
  ·have :(cD (az B ps) r).getD i 0=r.getD (2+i) 0:=by
    rw[e];simp only[aj];rw[bg (by simp[hr];omega),cy,aB hi,cg]
   rw[this];exact sH _
  ·have h2:(cD (az B ps) r).getD i 0=(if r.getD 7 0=0 then List.replicate 8 0 else dz (az B ps) (1080+8*(r.getD 7 0).toNat)).getD (i-5) 0:=by
    rw[e];simp only[aj];rw[aT (by simp[hr];omega)];simp[hr]
   rw[h2];split
   ·rw[aj,bb]
    split<;>simp
   ·by_cases h8:i-5<8
    ·rw[jt _ _ _ h8]
     exact aW _
    ·rw[aj,aP (by rw[iB];omega)]
     simp
 have wP:=sH 7;clear aQ U V EF aR aK bc Yw RF h aW sH tJ;generalize bk:r.getD 7 0=li at *;have Rx:=ar bk;clear bk;generalize (aO r).toArray=Z at *;generalize aY:(zs (List.replicate 13 0)).toArray=ZN at *;have De:=ar aY;clear aY;generalize (aO (List.replicate 13 0)).toArray=ZR at *;have uo:Hid (∀z,bf z (w.heap.size+1) ZN 109->∃w',(storeVar 109 ⟨w.heap.size+1,0,none⟩ (.agg ZN)).run prog z= .ok () w'/\(loadVar 109 ⟨w.heap.size+1,0,none⟩).run prog w'= .ok (.agg ZN) w'/\ay [w.heap.size+1] z w'):=λz hb=>by
  have hz:=De.out;obtain⟨w',h1,h2,h3⟩:=bo (P:= prog) (ty:= 109) (cs:=zs (List.replicate 13 0)) (by rw[dG];exact jC) hb (by rw[<-hz];simp) (kD _);have h4:=eN (l:=List.replicate 13 0) (off:=0) h2 (by simp) (λk hk=>by rw[aV,aC,fp (by simpa using hk)]);rw[hz] at h1 h4;exact⟨w',h1,h4,h3⟩
 by_cases bC:256<=li
 ·have HF:Hid (¬sA (az B ps) r):=λh=>by have :=(jc.out.1 h).1;omega
  obtain⟨w2,af,oa,ac⟩:=uo.out w1 qD.out;have aU:=ar af;have nC:=ar oa;have fF:=ar (jl.out.trans ac (by simp));clear af oa ac Al jc Yx;go_enter func190,ntmps190;go_wp2_with fail;refine fU (l:=[_,_]) (o:=_) (S:=λz=>z=(((w.alloc (.cells Z 195)).alloc (.cells ZN 109)).alloc (.cells ZR 254)).drew) (by kernel_rfl) rfl (by kernel_rfl) (λd _ _ _ _ h=>by cases d<;>exact h) rfl (by kernel_rfl) (by kernel_rfl) ?_;repeat (refine aH.cons ?_ (aX.val rfl ?h) ?_;(case h=>(intro z J;go_simp;rfl));simp only[Act.put,ag,ah,ai])
  refine aH.done λz J=> ?_
  subst J;refine gW rfl (.tmp 13) (.tmp 14) 71 71 rfl _ _ rfl rfl (Ui.out _) ?_;go_wp2_with(with_reducible refine gS 109 aU.out ?_);refine aL (bB results190 rfl nC.out rfl rfl) rfl ⟨List.replicate 13 0,0,false,?_,λh=>(by cases h),λ_=>HF.out,by simp,fF.out⟩;rw[De.out];rfl
 ·have bE:wrap64 li=li:=by unfold wrap64;omega
  have bF:=jx;have bu:Hid (IntKind.i64.wrap li=li):=dV _ (by omega);by_cases aa:li=0
  ·have Yy:Hid (bf w1 (w.heap.size+1+1) (aO (cD (az B ps) r)).toArray 254):=by
    have e:=Al.out;rw[aB aa] at e;show bf _ _ _ _;rw[e];exact ax.out
   have Qx:Hid (li=0\/(cD (az B ps) r).drop 5≠List.replicate 8 0↔True):=⟨λ_=>trivial,λ_=> .inl aa⟩;have av:=qD;have aD:=jl;have e0:(li==0)=true:=beq_iff_eq.2 aa;have e1:(li != 0)=false:=by rw[bne,e0];rfl
   go_enter func190,ntmps190;go_wp2_with fail;refine fU (l:=[_,_]) (o:=_) (S:=λz=>z=(((w.alloc (.cells Z 195)).alloc (.cells ZN 109)).alloc (.cells ZR 254)).drew) (by kernel_rfl) rfl (by kernel_rfl) (λd _ _ _ _ h=>by cases d<;>exact h) rfl (by kernel_rfl) (by kernel_rfl) ?_;repeat (refine aH.cons ?_ (aX.val rfl ?h) ?_;(case h=>(intro z J;go_simp;rfl));simp only[Act.put,ag,ah,ai])
   refine aH.done λz J=> ?_
   subst J;refine gW rfl (.tmp 13) (.tmp 14) 71 71 rfl _ _ rfl rfl (Ui.out _) ?_;clear Al;generalize w1=wA at *;have RH:=ar (bf.new wA ZN 109);have RI:=ar (Ih (Yy.out.alloc (.cells ZN 109)) nt.out);have HU:Hid (∀k,k<13->(aO (cD (az B ps) r)).toArray[k]? =some (.int .u64 ((cD (az B ps) r).getD k 0))):=λk hk=>by rw[aC,cG (by rw[nt.out];exact hk)]
   have aF:Hid (w.heap.size+1+1<wA.heap.size):=Yy.out.lt;clear Yy;generalize ak:cD (az B ps) r=G at *;have Yz:=ar ak;clear ak;generalize (aO G).toArray=UA at *;go_wp2_with(with_reducible refine gL 254 RI.out ?_);clear Qz RI;go_loopg [32] 13 (λgh s32 z=>∃k:Nat,k+gh=13/\s32= .int .i64 (k:Int)/\Hid (bf z wA.heap.size (zs (dn 0 G k)).toArray 109/\bf z (w.heap.size+1) ZN 109/\(∀i,i<k->G.getD i 0<256)/\ay [] w z))
   case atStart=>
    refine⟨0,by omega,rfl,?_,av.out.alloc _,by simp,aD.out.alloc _⟩;rw[jA,nt.out,De.out];exact RH.out
   case round=>
    clear av aD RH;obtain⟨k,hk,rfl,HP⟩:=hrel;obtain⟨U,V,W,eW⟩:=HP.out;cases gk with
    |zero=>
     obtain rfl:k=13:=by omega
     rw[show dn 0 G 13=G by rw[<-nt.out];exact j5 0 G] at U;have ae:wA.heap.size∉[w.heap.size+1]:=by have :=aF.out;rw[au];omega
     have oO:=ar (λ(z:World) (hk:ay [w.heap.size+1] wr z)=>eN (off:=0) (U.keep hk ae) nt.out (λk hk=>by rw[aV,aC,fp (by rw[nt.out];exact hk)]));have AL:Hid (∀z,bf z (w.heap.size+1) ZN 109->∃w',(storeVar 109 ⟨w.heap.size+1,0,none⟩ (.agg (zs G).toArray)).run prog z= .ok () w'/\bf w' (w.heap.size+1) (zs G).toArray 109/\ay [w.heap.size+1] z w'):=λz hb=>by
      have hz:=De.out;exact bo (P:= prog) (ty:= 109) (cs:=zs G) (by rw[dG,nt.out];exact jC) hb (by rw[<-hz,dG,nt.out];simp[dG]) (kD _)
     have Vg:Hid (∀z,bf z (w.heap.size+1) (zs G).toArray 109->(loadVar 109 ⟨w.heap.size+1,0,none⟩).run prog z= .ok (.agg (zs G).toArray) z):=λz hb=>eN (off:=0) hb nt.out (λk hk=>by rw[aV,aC,fp (by rw[nt.out];exact hk)])
     have iA:=ar eW;have Am:=ar V;have bv:w.heap.size<=w.heap.size+1:=by omega
     have HF:Hid (sA (az B ps) r):=jc.out.2 ⟨by omega,W,.inl aa⟩;clear HP U V W eW hk jc ax nW qD jl ae;generalize aG:(zs G).toArray=ZA at *;have aN:=ar aG;clear aG;go_wp2_with fail;refine sk (l:=[_,_,_,_,_,_,_,_,_,_,_]) (f:=_) (mid:=[_]) (o:=_) (tl:=[]) (S:=λb z=>ay [w.heap.size+1] wr z/\bf z (w.heap.size+1) (cond b ZA ZN) 109) (by kernel_rfl) rfl (by kernel_rfl) (λd _ _ _ _ h=>by cases d<;>exact h) ⟨(ay.refl _ _).drew,Am.out.drew⟩ (by kernel_rfl) (by kernel_rfl) ?_;repeat (first
      |(refine gN.cons (.agg ZA) (λb=>aX.load rfl 109 (.tmp 10) rfl _ rfl λz J=>oO.out z J.1) ?_;simp only[Act.put,ag,ah,ai])
      |(refine gN.cons undef (λb=>aX.off rfl) ?_;simp only[Act.put,ag,ah,ai])
      |(refine gN.cons ?_ (λb=>aX.val rfl ?h) ?_;(case h=>(intro z J;clear J;go_simp;rfl));simp only[Act.put,ag,ah,ai]))
     refine gN.done ⟨undef,BH.store rfl 109 (.tmp 4) (.tmp 44) rfl _ rfl _ rfl (λz J=> ?_),?_⟩
     ·obtain⟨w',h1,h2,h3⟩:=AL.out z J.2
      exact⟨w',h1,J.1.trans' h3,h2⟩
     refine aH.cons ?_ (aX.val rfl ?h) ?_;case h=>intro z J;clear J;go_simp;rfl
     simp only[Act.put,ag,ah,ai];refine aH.done λz J=> ?_
     have YA:=ar (Vg.out z J.2);have nM:=ar (iA.out.trans J.1 (by intro x J;rw[au] at J;omega));clear J;go_wp2_with fail;refine aL (bB results190 rfl YA.out rfl rfl) rfl ⟨G,0,true,?_,λ_=>⟨HF.out,Yz.out.symm,by rw[Rx.out];exact aa.symm⟩,λh=>(by cases h),nt.out,nM.out⟩;rw[aN.out];rfl
    |succ gg=>
     have pW:k<13:=by omega
     have br:(k:Int)<13:=by omega
     have eo:(0:Int)<=(k:Int):=by omega
     have Ad:=Eu pW (HU.out k pW);have bn:=Yx.out k;by_cases Qy:256<=G.getD k 0
     ·have HF:Hid (¬sA (az B ps) r):=λh=>by have :=(jc.out.1 h).2.1 k pW;omega
      obtain⟨w5,xm,BZ,kr⟩:=uo.out wr V;have xo:=ar xm;have IG:=ar BZ;have pk:=ar (eW.trans kr (by simp));clear xm BZ kr HP U V W eW hk;generalize G.getD k 0=x at *;go_wp2_with(with_reducible refine gS 109 xo.out ?_);refine aL (bB results190 rfl IG.out rfl rfl) rfl ⟨List.replicate 13 0,0,false,?_,λh=>(by cases h),λ_=>HF.out,by simp,pk.out⟩;rw[De.out];rfl
     ·have bq:wrap64 (G.getD k 0)=G.getD k 0:=by unfold wrap64;omega
      have aS:wr.cell? ⟨wA.heap.size,k,none⟩=some (.int .i64 ((dn 0 G k).getD k 0)):=by
       rw[U.cell,aC,fp (by rw[jG _ _ _ (by rw[nt.out];omega),nt.out];exact pW)]
      have bp:wr.frozen? ⟨wA.heap.size,k,none⟩=false:=U.frozen k;have HR:Hid (bf (wr.setCell ⟨wA.heap.size,k,none⟩ (.int .i64 (G.getD k 0))) wA.heap.size (zs (dn 0 G (k+1))).toArray 109/\bf (wr.setCell ⟨wA.heap.size,k,none⟩ (.int .i64 (G.getD k 0))) (w.heap.size+1) ZN 109/\(∀i,i<k+1->G.getD i 0<256)/\ay [] w (wr.setCell ⟨wA.heap.size,k,none⟩ (.int .i64 (G.getD k 0)))):=by
       have bw:=aF.out;refine⟨?_,V.other (by show w.heap.size+1≠wA.heap.size;omega) _,λi hi=> ?_,eW.setCell (.inr (by show w.heap.size<=wA.heap.size;omega)) _⟩
       ·have :=U.set k (.int .i64 (G.getD k 0))
        rw[ag,KE,jB 0 G k (by rw[nt.out];exact pW) (G.getD k 0) (by simp[show k<G.length by rw[nt.out];exact pW])] at this;exact this
       ·by_cases e:i=k
        ·subst e;omega
        ·exact W i (by omega)
      clear HP U V W eW;generalize G.getD k 0=x at *;generalize (dn 0 G k).getD k 0=y at *;go_wp2_with fail;go_roundg gg;case measure=>omega
      case rel=>exact⟨k+1,by omega,by go_num,HR.out⟩
  ·have e0:(li==0)=false:=cj.2 aa
   have e1:(li != 0)=true:=bne_iff_ne.2 aa;obtain⟨q,hq⟩:∃q:Nat,li=(q:Int):=⟨li.toNat,by omega⟩;have RJ:=ar (jI li w1);have aM:jH li=((1080+8*q:Nat):Int):=by unfold jH;rw[aA (by omega)];omega
   rw[aM] at RJ;have kH:Hid (∀z,ay [] w z->Calls prog 141 #[.pointer (some ⟨b,0,none⟩),.int .i64 ((1080+8*q:Nat):Int)] z λe w'=>e= .returned (.agg (aO (dz (az B ps) (1080+8*q))).toArray)/\ay [] z w'):=λz hk=>mL (HS.out.keep hk (by simp) (by simp)) (1080+8*q) (by omega)
   have bA:Hid (cD (az B ps) r=(r.drop 2).take 5++dz (az B ps) (1080+8*q)):=by
    have e:=Al.out;rw[aA aa,hq,aJ] at e;exact e
   have U6:=ar (iB (az B ps) (1080+8*q));have bG:=F9 (w.heap.size+1+1);have bD:=rF;clear Al aM hq;generalize dz (az B ps) (1080+8*q)=row at *;generalize ((1080+8*q:Nat):Int)=p at *;generalize sP:(aO (List.replicate 8 0)).toArray=Z8 at *;go_enter func190,ntmps190;go_wp2_with fail;refine fU (l:=[_,_]) (o:=_) (S:=λz=>z=(((w.alloc (.cells Z 195)).alloc (.cells ZN 109)).alloc (.cells ZR 254)).drew) (by kernel_rfl) rfl (by kernel_rfl) (λd _ _ _ _ h=>by cases d<;>exact h) rfl (by kernel_rfl) (by kernel_rfl) ?_;repeat (refine aH.cons ?_ (aX.val rfl ?h) ?_;(case h=>(intro z J;go_simp;rfl));simp only[Act.put,ag,ah,ai])
   refine aH.done λz J=> ?_
   subst J;refine gW rfl (.tmp 13) (.tmp 14) 71 71 rfl _ _ rfl rfl (Ui.out _) ?_;go_wp2_with fail;refine RJ.out.mono ?_;rintro e w' ⟨rfl,rfl⟩;go_wp2_with fail;refine(kH.out _ jl.out).mono ?_;rintro e w2 ⟨rfl,ac⟩;obtain⟨w3,af,MK,aI⟩:=bo (P:= prog) (ty:= 195) (cs:=aO row) (by rw[aZ,U6.out];exact il) (bf.new w2 Z8 195) (by rw[<-sP];simp[aZ,U6.out]) (eF _);have N3:w.heap.size+1+1<w2.heap.size:=bt ax.out.lt ac.size;have bj:ay [] w (w3.drew):=((((jl.out.trans' ac).alloc (.cells Z8 195)).trans aI (by intro x J;rw[au] at J;have :=jl.out.size;have :=ac.size;omega))).drew;have bh:=((ax.out.keep ac (by simp)).alloc (.cells Z8 195)).keep aI (by rw[au];omega);have ba:=((qD.out.keep ac (by simp)).alloc (.cells Z8 195)).keep aI (by rw[au];omega);obtain⟨v4,wA,RL,YB,YC⟩:=BV (o:=5) (n:=8) (cap:=8) (so:=0) (m:=8) (mc:=8) bh.drew MK.drew (by omega) (by simp[hr]) (by have :=U6.out;omega);have ML:((r.drop 2).take 5++List.replicate 8 (0:Int)).take 5++(row.drop 0).take 8++((r.drop 2).take 5++List.replicate 8 (0:Int)).drop (5+8)=cD (az B ps) r:=by
    rw[bA.out];exact Ga _ _ (by simp[hr]) U6.out
   rw[ML] at YB;have Yy:=ar YB;have av:=ar (ba.drew.keep YC (by rw[au];omega));have aD:=ar (bj.trans YC (by intro x J;rw[au] at J;omega));have aU:=ar af;have bz:=ar RL;clear af MK aI N3 bj bh ba RL YB YC ML ac;go_wp2_with(with_reducible refine gS 195 aU.out ?_);refine fU (l:=[_,_]) (o:=_) (S:=λz=>z=w3.drew) (by kernel_rfl) rfl (by kernel_rfl) (λd _ _ _ _ h=>by cases d<;>exact h) rfl (by kernel_rfl) (by kernel_rfl) ?_;repeat (refine aH.cons ?_ (aX.val rfl ?h) ?_;(case h=>(intro z J;go_simp;rfl));simp only[Act.put,ag,ah,ai])
   refine aH.done λz J=> ?_
   subst J;refine gW rfl (.tmp 28) (.tmp 29) 71 71 rfl _ _ rfl rfl (bz.out _) ?_;have RH:=ar (bf.new wA ZN 109);have RI:=ar (Ih (Yy.out.alloc (.cells ZN 109)) nt.out);have HU:Hid (∀k,k<13->(aO (cD (az B ps) r)).toArray[k]? =some (.int .u64 ((cD (az B ps) r).getD k 0))):=λk hk=>by rw[aC,cG (by rw[nt.out];exact hk)]
   have aF:Hid (w.heap.size+1+1<wA.heap.size):=Yy.out.lt;clear Yy;generalize ak:cD (az B ps) r=G at *;have Yz:=ar ak;clear ak;generalize (aO G).toArray=UA at *;go_wp2_with(with_reducible refine gL 254 RI.out ?_);clear Qz RI;go_loopg [32] 13 (λgh s32 z=>∃k:Nat,k+gh=13/\s32= .int .i64 (k:Int)/\Hid (bf z wA.heap.size (zs (dn 0 G k)).toArray 109/\bf z (w.heap.size+1) ZN 109/\(∀i,i<k->G.getD i 0<256)/\ay [] w z))
   case atStart=>
    refine⟨0,by omega,rfl,?_,av.out.alloc _,by simp,aD.out.alloc _⟩;rw[jA,nt.out,De.out];exact RH.out
   case round=>
    clear av aD RH;obtain⟨k,hk,rfl,HP⟩:=hrel;obtain⟨U,V,W,eW⟩:=HP.out;cases gk with
    |zero=>
     obtain rfl:k=13:=by omega
     rw[show dn 0 G 13=G by rw[<-nt.out];exact j5 0 G] at U;have ae:wA.heap.size∉[w.heap.size+1]:=by have :=aF.out;rw[au];omega
     have oO:=ar (λ(z:World) (hk:ay [w.heap.size+1] wr z)=>eN (off:=0) (U.keep hk ae) nt.out (λk hk=>by rw[aV,aC,fp (by rw[nt.out];exact hk)]));have AL:Hid (∀z,bf z (w.heap.size+1) ZN 109->∃w',(storeVar 109 ⟨w.heap.size+1,0,none⟩ (.agg (zs G).toArray)).run prog z= .ok () w'/\bf w' (w.heap.size+1) (zs G).toArray 109/\ay [w.heap.size+1] z w'):=λz hb=>by
      have hz:=De.out;exact bo (P:= prog) (ty:= 109) (cs:=zs G) (by rw[dG,nt.out];exact jC) hb (by rw[<-hz,dG,nt.out];simp[dG]) (kD _)
     have Vg:Hid (∀z,bf z (w.heap.size+1) (zs G).toArray 109->(loadVar 109 ⟨w.heap.size+1,0,none⟩).run prog z= .ok (.agg (zs G).toArray) z):=λz hb=>eN (off:=0) hb nt.out (λk hk=>by rw[aV,aC,fp (by rw[nt.out];exact hk)])
     have iA:=ar eW;have Am:=ar V;have bv:w.heap.size<=w.heap.size+1:=by omega
     have bl:=ar (FZ G nt.out);have B0:=ar (λz=>WY (a:=G.drop 5) (b:=List.replicate 8 0) (by simp[nt.out]) rfl z);have Iv:=Ig;have YD:=FQ;obtain⟨t,ht⟩:∃t,decide (G.drop 5=List.replicate 8 0)=t:=⟨_,rfl⟩;have HF:Hid (sA (az B ps) r↔t=false):=by
      show _↔_;rw[jc.out,<-ht,decide_eq_false_iff_not];exact⟨λh=>h.2.2.resolve_left aa,λh=>⟨by omega,W,.inr h⟩⟩
     rw[ht] at B0;have YE:=B0.out;generalize (zs (G.drop 5)).toArray=ZD at *;generalize (zs (List.replicate 8 0)).toArray=ZE at *;clear ht B0;clear HP U V W eW hk jc ax nW qD jl ae;generalize aG:(zs G).toArray=ZA at *;have aN:=ar aG;clear aG;go_wp2_with fail;refine sk (l:=[_,_,_,_,_,_,_,_,_,_,_]) (f:=_) (mid:=[_]) (o:=_) (tl:=[]) (S:=λb z=>ay [w.heap.size+1] wr z/\bf z (w.heap.size+1) (cond b ZA ZN) 109) (by kernel_rfl) rfl (by kernel_rfl) (λd _ _ _ _ h=>by cases d<;>exact h) ⟨(ay.refl _ _).drew,Am.out.drew⟩ (by kernel_rfl) (by kernel_rfl) ?_;repeat (first
      |(refine gN.cons (.agg ZA) (λb=>aX.load rfl 109 (.tmp 10) rfl _ rfl λz J=>oO.out z J.1) ?_;simp only[Act.put,ag,ah,ai])
      |(refine gN.cons (.agg ZD) (λb=>aX.call rfl 209 #[.agg ZA] ?he ?h) ?_;(case he=>(intro wz;go_simp));(case h=>exact λz J=>(bl.out z).mono λe w' he=>⟨he.1,J.1.trans he.2 (by simp),J.2.keep he.2 (by simp)⟩);simp only[Act.put,ag,ah,ai])
      |(refine gN.cons undef (λb=>aX.off rfl) ?_;simp only[Act.put,ag,ah,ai])
      |(refine gN.cons ?_ (λb=>aX.val rfl ?h) ?_;(case h=>(intro z J;clear J;go_simp;rfl));simp only[Act.put,ag,ah,ai]))
     refine gN.done ⟨undef,BH.store rfl 109 (.tmp 4) (.tmp 44) rfl _ rfl _ rfl (λz J=> ?_),?_⟩
     ·obtain⟨w',h1,h2,h3⟩:=AL.out z J.2
      exact⟨w',h1,J.1.trans' h3,h2⟩
     refine aH.cons ?_ (aX.val rfl ?h) ?_;case h=>intro z J;clear J;go_simp;rfl
     simp only[Act.put,ag,ah,ai];refine aH.done λz J=> ?_
     have YA:=ar (Vg.out z J.2);have nM:=ar (iA.out.trans J.1 (by intro x J;rw[au] at J;omega));clear J;go_wp2_with fail;refine aL (bB results190 rfl YA.out rfl rfl) rfl ⟨G,li,!t,?_,λh=>⟨HF.out.2 (by simpa using h),Yz.out.symm,Rx.out.symm⟩,λh hn=> ?_,nt.out,nM.out⟩
     ·rw[aN.out]
      show Ending.returned (.tuple #[.agg ZA,.int .i64 (IntKind.i64.wrap li),.bool !t])=_;rw[bu.out]
     ·have :=HF.out.1 hn
      rw[this] at h;cases h
    |succ gg=>
     have pW:k<13:=by omega
     have br:(k:Int)<13:=by omega
     have eo:(0:Int)<=(k:Int):=by omega
     have Ad:=Eu pW (HU.out k pW);have bn:=Yx.out k;by_cases Qy:256<=G.getD k 0
     ·have HF:Hid (¬sA (az B ps) r):=λh=>by have :=(jc.out.1 h).2.1 k pW;omega
      obtain⟨w5,xm,BZ,kr⟩:=uo.out wr V;have xo:=ar xm;have IG:=ar BZ;have pk:=ar (eW.trans kr (by simp));clear xm BZ kr HP U V W eW hk;generalize G.getD k 0=x at *;go_wp2_with(with_reducible refine gS 109 xo.out ?_);refine aL (bB results190 rfl IG.out rfl rfl) rfl ⟨List.replicate 13 0,0,false,?_,λh=>(by cases h),λ_=>HF.out,by simp,pk.out⟩;rw[De.out];rfl
     ·have bq:wrap64 (G.getD k 0)=G.getD k 0:=by unfold wrap64;omega
      have aS:wr.cell? ⟨wA.heap.size,k,none⟩=some (.int .i64 ((dn 0 G k).getD k 0)):=by
       rw[U.cell,aC,fp (by rw[jG _ _ _ (by rw[nt.out];omega),nt.out];exact pW)]
      have bp:wr.frozen? ⟨wA.heap.size,k,none⟩=false:=U.frozen k;have HR:Hid (bf (wr.setCell ⟨wA.heap.size,k,none⟩ (.int .i64 (G.getD k 0))) wA.heap.size (zs (dn 0 G (k+1))).toArray 109/\bf (wr.setCell ⟨wA.heap.size,k,none⟩ (.int .i64 (G.getD k 0))) (w.heap.size+1) ZN 109/\(∀i,i<k+1->G.getD i 0<256)/\ay [] w (wr.setCell ⟨wA.heap.size,k,none⟩ (.int .i64 (G.getD k 0)))):=by
       have bw:=aF.out;refine⟨?_,V.other (by show w.heap.size+1≠wA.heap.size;omega) _,λi hi=> ?_,eW.setCell (.inr (by show w.heap.size<=wA.heap.size;omega)) _⟩
       ·have :=U.set k (.int .i64 (G.getD k 0))
        rw[ag,KE,jB 0 G k (by rw[nt.out];exact pW) (G.getD k 0) (by simp[show k<G.length by rw[nt.out];exact pW])] at this;exact this
       ·by_cases e:i=k
        ·subst e;omega
        ·exact W i (by omega)
      clear HP U V W eW;generalize G.getD k 0=x at *;generalize (dn 0 G k).getD k 0=y at *;go_wp2_with fail;go_roundg gg;case measure=>omega
      case rel=>exact⟨k+1,by omega,by go_num,HR.out⟩
end Go.Proofs.YtepbpdipenedhaaGreatDoor
