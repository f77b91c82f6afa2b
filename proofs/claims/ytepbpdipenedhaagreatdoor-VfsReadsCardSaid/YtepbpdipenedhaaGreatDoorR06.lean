/- Lemmas. -/
import Derived.Test.YtepbpdipenedhaaGreatDoorR05
set_option maxHeartbeats 8000000
set_option maxRecDepth 100000
namespace Go.Proofs.YtepbpdipenedhaaGreatDoor
open Go.Proofs.Tryz
open Go.RowKit
variable{w:World}{T b cap g gp n o:Nat}{v:Value}{B h z:List Int}{E:List (ByteArray×Int)}{ps:List (Int×Int)}
def mZ (n:bP):Nat->Nat
 |0=>if 6<(fu n.B).length then 1 else 0
 |k+1=>mZ n k+((ez n.E k).length+2)/3
def eP (n:bP):Nat:=mZ n 4
theorem BQ (n:bP)(h:n.E.length<=10000):∀k,mZ n k<=1+k*4000
 |0=>by unfold mZ;split<;>omega
 |k+1=>by
  unfold mZ;have :=BQ n h k;have :=j4 n.E k;omega
theorem zt (S:Nat->Value){k:Nat}(h:k<4)(w:World):(Instr.index 265 (.agg (nV S)) (.int .i64 (k:Int))).run prog w= .ok (S k) w:=by
 rcases (show k=0\/k=1\/k=2\/k=3 by omega) with rfl|rfl|rfl|rfl
 all_goals (show Sem.run _ _ _=_;kernel_rfl)
theorem Fa (n:bP)(v:Value)(g:Nat)(hB:n.B.length=13)(w:World)(hE:bC w v g n.E)(U:n.E.length<=10000)(ah:∀k,k<n.E.length->(eU n.E k).size<=9223372036854775807):
  Calls prog 199 #[.agg (aR n v)] w λe w'=>e= .returned (.int .i64 ((if bZ n then eP n else 0:Nat):Int))/\az [] w w':=by
 have HR:Hid (∀G,az [] w G->Calls prog 96 #[.agg (aR n v)] G λe w'=>e= .returned (.bool (decide (bZ n)))/\az [] G w'):=λG J=>nt n v g hB G (hE.keep J (by simp)) ah
 have EW:=au (λG=>JO n.B hB G);have KT:Hid (∀G,az [] w G->Calls prog 216 #[v] G (vg G n.E)):=λG J=>ID (hE.keep J (by simp)) U ah
 have af:=bh.new w (aR n v) 111;have fW:Hid (az [] w (w.alloc (.cells (aR n v) 111))):=(az.refl [] w).alloc _;have vY:=au (ct af hB);have pX:Hid (∀G,az [] (w.alloc (.cells (aR n v) 111)) G->(loadVar 109 ⟨w.heap.size,4,none⟩).run prog G= .ok (.agg (zs n.B).toArray) G):=λG J=>fc (off:=4) (af.keep J (by simp)) hB λk J=>BK _ (by omega)
 have JT:Hid (∀G,az [] (w.alloc (.cells (aR n v) 111)) G->G.cell? ⟨w.heap.size,17,none⟩=some v):=λG J=>by rw[(af.keep J (by simp)).cell];exact zk _ hB
 have aH:Hid ((fu n.B).length<=13):=lN n.B 13;have Vx:Hid (∀k,(ez n.E k).length<=10000):=λk=>cD (j4 _ _) U
 have ar:=au (λk=>BQ n U k);have av:Hid (∀k,mZ n (k+1)=mZ n k+((ez n.E k).length+2)/3):=λ_=>rfl
 have ak:Hid (mZ n 0=if 6<(fu n.B).length then 1 else 0):=rfl;clear af hE ah U;generalize aR n v=Z at *;generalize (zs n.B).toArray=ZB at *;by_cases hR:bZ n
 ·rw[bq hR] at HR
  rw[aC hR];clear hR;unfold eP;generalize fu n.B=R at *;go_enter func199,ntmps199;go_wp2_with(with_reducible refine gL 111 vY.out ?_);refine(HR.out _ fW.out).mono ?_;rintro e w1 ⟨rfl,V⟩;have iU:=au V;have yr:=au (pX.out w1 V);clear V;go_wp2_with(with_reducible refine gL 109 yr.out ?_);refine(EW.out _).mono ?_;rintro e w2 ⟨va,ga,rfl,KU,tv,ax⟩;obtain⟨aa,ca,rfl,-,-,-⟩:=iB KU;have fL:=au (iU.out.trans' ax);have ay:=JT.out w2 fL.out;clear KU tv ax;generalize aG:R.length=m at *;have HZ:=ak.out;clear aG;obtain⟨d,hd⟩:∃d,d=mZ n 0:=⟨_,rfl⟩;rw[<-hd] at HZ;have HD:=au hd;clear hd ak;by_cases h6:6<m
  ·rw[aC h6] at HZ
   have ag:(6:Int)<(m:Int):=by omega
   have ai:=au HZ;clear HZ;go_wp2_with fail;refine(KT.out _ (fW.out.trans' fL.out)).mono ?_;rintro e w3 ⟨S,rfl,ac,hS⟩;have mV:=au (fW.out.trans' (fL.out.trans' ac));have SM:Hid (∀k,k<4->∃a c,S k= .slice a (ez n.E k).length c):=λk J=>by
    obtain⟨g,⟨a,c,h,-⟩,-⟩:=hS k J;exact⟨a,c,h⟩
   have Bx:=λk (J:k<4) G=>zt S J G
   clear hS ac ay;generalize (Value.agg (nV S))=ZS at *;go_wp2_with fail;clear ag;go_loopg [3,19] 4 (λgh s3 s19 G=>∃k:Nat,k+gh=4/\s19= .int .i64 (k:Int)/\s3= .int .i64 ((mZ n k:Nat):Int)/\G=w3)
   case atStart=>exact⟨0,by omega,rfl,by rw[<-HD.out,ai.out];rfl,rfl⟩
   case round=>
    obtain⟨k,J,rfl,rfl,rfl⟩:=hrel;cases gk with
    |zero=>
     obtain rfl:k=4:=by omega
     clear J Bx;go_wp2_with fail;go_ret;exact⟨rfl,mV.out⟩
    |succ gg=>
     have ae:k<4:=by omega
     have aF:(k:Int)<4:=by omega
     have dt:(0:Int)<=(k:Int):=by omega
     have aj:=Bx k ae wr;obtain⟨a,c,W⟩:=SM.out k ae;rw[W] at aj;have hl:=Vx.out k;have aA:=ar.out k;have N6:=au (av.out k);have QM:=au (xg (ez n.E k).length 3 (by omega) (by omega) (by omega));generalize (ez n.E k).length=q at *;rw[show q+3-1=q+2 by omega] at QM;have aD:(q+2)/3<=4000:=by omega
     generalize (q+2)/3=z at *;generalize mZ n k=y at *;clear Bx W;go_wp2_with fail;refine(QM.out _).mono ?_;rintro e w' ⟨rfl,rfl⟩;go_wp2_with fail;go_roundg gg;case measure=>omega
     case rel=>exact⟨k+1,by omega,by go_num,by rw[N6.out];go_num,rfl⟩
  ·rw[aB h6] at HZ
   have ag:¬(6:Int)<(m:Int):=by omega
   have ai:=au HZ;clear HZ;go_wp2_with fail;refine(KT.out _ (fW.out.trans' fL.out)).mono ?_;rintro e w3 ⟨S,rfl,ac,hS⟩;have mV:=au (fW.out.trans' (fL.out.trans' ac));have SM:Hid (∀k,k<4->∃a c,S k= .slice a (ez n.E k).length c):=λk J=>by
    obtain⟨g,⟨a,c,h,-⟩,-⟩:=hS k J;exact⟨a,c,h⟩
   have Bx:=λk (J:k<4) G=>zt S J G
   clear hS ac ay;generalize (Value.agg (nV S))=ZS at *;go_wp2_with fail;clear ag;go_loopg [3,19] 4 (λgh s3 s19 G=>∃k:Nat,k+gh=4/\s19= .int .i64 (k:Int)/\s3= .int .i64 ((mZ n k:Nat):Int)/\G=w3)
   case atStart=>exact⟨0,by omega,rfl,by rw[<-HD.out,ai.out];rfl,rfl⟩
   case round=>
    obtain⟨k,J,rfl,rfl,rfl⟩:=hrel;cases gk with
    |zero=>
     obtain rfl:k=4:=by omega
     clear J Bx;go_wp2_with fail;go_ret;exact⟨rfl,mV.out⟩
    |succ gg=>
     have ae:k<4:=by omega
     have aF:(k:Int)<4:=by omega
     have dt:(0:Int)<=(k:Int):=by omega
     have aj:=Bx k ae wr;obtain⟨a,c,W⟩:=SM.out k ae;rw[W] at aj;have hl:=Vx.out k;have aA:=ar.out k;have N6:=au (av.out k);have QM:=au (xg (ez n.E k).length 3 (by omega) (by omega) (by omega));generalize (ez n.E k).length=q at *;rw[show q+3-1=q+2 by omega] at QM;have aD:(q+2)/3<=4000:=by omega
     generalize (q+2)/3=z at *;generalize mZ n k=y at *;clear Bx W;go_wp2_with fail;refine(QM.out _).mono ?_;rintro e w' ⟨rfl,rfl⟩;go_wp2_with fail;go_roundg gg;case measure=>omega
     case rel=>exact⟨k+1,by omega,by go_num,by rw[N6.out];go_num,rfl⟩
 ·rw[aS hR] at HR
  rw[aB hR];clear hR;go_enter func199,ntmps199;go_wp2_with(with_reducible refine gL 111 vY.out ?_);refine(HR.out _ fW.out).mono ?_;rintro e w1 ⟨rfl,V⟩;have iU:=au (fW.out.trans' V);clear V;go_wp2_with fail;go_ret;exact⟨rfl,iU.out⟩
def JU (E:List (ByteArray×Int)) (f i:Nat):Int:=if i%2=0 then ((kv (bl (eU E (f+i/2))):Nat):Int) else jl E (f+i/2)
def yN (E:List (ByteArray×Int)) (f j:Nat):List Int:=(List.range 8).map λi=>if i<2*j then JU E f i else 0
def iG (E:List (ByteArray×Int)) (k:Nat):List Int:=yN E (4*k) (min 4 (E.length-4*k))
theorem lC (E:List (ByteArray×Int))(f j:Nat):(yN E f j).length=8:=by simp[yN]
theorem pA (E:List (ByteArray×Int))(f j i:Nat)(h:i<8):(yN E f j).getD i 0=if i<2*j then JU E f i else 0:=by
 rw[yN,aj,bF,cA h];rfl
theorem Fb:(prog.info? 87).map (·.size)=some 2:=by kernel_rfl
theorem G0 (g off n cap f h:Nat)(W:f<cap)(J:f<=h)(V:h<=cap)(w:World):
  (Instr.sliceAt 32 (.slice (some ⟨g,off,none⟩) n cap) (some (.int .i64 (f:Int))) (some (.int .i64 (h:Int))) none).run prog w= .ok (.slice (some ⟨g,off+f*2,none⟩) (h-f) (cap-f)) w:=by
 have z: prog.underlying 32 =some (.slice (prog.elem 32)):=by kernel_rfl
 have G: prog.elem 32 = 87 :=by kernel_rfl
 have U:(sizeOf 87).run prog w= .ok 2 w:=by kernel_rfl
 rw[jh _ _ _ _ _ _ z,run_slice_lh _ _ _ _ _ z .i64 .i64 (f:Int) (h:Int) (by omega) (by omega) (by omega),G,U];simp only[cm,sliced,aH];rw[aB (by omega)];simp[add_plain]
theorem vh (b:Nat)(w:World):(Instr.sliceAt 195 (.pointer (some ⟨b,0,none⟩)) none none none).run prog w= .ok (.slice (some ⟨b,0,none⟩) 8 8) w:=by show Sem.run _ _ _=_;kernel_rfl
theorem pB{gs:Nat}(J:bh w b (aW z).toArray T)(hs:Reads w v gs (aW h))(hm:h.length<=n)(V:o+h.length<=z.length):
  ∃r w',(∀ty,(Builtin.copy_ #[71,71] ty #[.slice (some ⟨b,o,none⟩) n cap,v]).run prog w= .ok r w')/\bh w' b (aW (z.take o++h++z.drop (o+h.length))).toArray T/\az [b] w w':=by
 obtain⟨a,c,rfl,h1,h2,HC⟩:=iB hs;by_cases h0:h.length=0
 ·obtain rfl:=bg h0
  refine⟨_,w,λty=>run_copy_none (P:= prog) w 71 71 ty 56 _ a n cap 0 c underlying71 qa (by simp),?_,az.refl _ _⟩;rw[bu,b8,dR,eI];exact J
 ·obtain⟨hg,off,rfl,-⟩:=HC.out 0 (by omega)
  have hl:(aW h).length=min h.length n:=by rw[bp];omega
  refine⟨_,_,λty=>run_copy_row (P:= prog) w 71 71 ty 56 b o n cap ⟨gs,off,none⟩ h.length c (aW z).toArray T (aW h) underlying71 qa J hl ?_ ?_ ?_,?_,(az.refl _ _).setRow (by simp) _⟩
  ·intro j u G
   have W:j<h.length:=by
    have :=(List.getElem?_eq_some_iff.1 G).1;rwa[bp] at this
   obtain⟨-,aa,U,hc⟩:=HC.out j W;cases U;rw[dA W] at G;rw[add_plain,hc,<-G]
  ·rw[bN,bp,bp];omega
  ·exact λu G=>fh _ u G
  ·have e:((aW z).toArray.toList.take o++aW h++(aW z).toArray.toList.drop (o+(aW h).length)).toArray=(aW (z.take o++h++z.drop (o+h.length))).toArray:=by
    rw[bp];simp[aW,List.map_take,List.map_drop]
   rw[e];exact kr J
theorem bC.sub{off:Nat}(h:bC w (.slice (some ⟨g,off,none⟩) n cap) g E)(hn:n=E.length)(f c:Nat)(aa:f+c<=n):bC w (.slice (some ⟨g,off+f*2,none⟩) c (cap-f)) g ((E.drop f).take c):=by
 obtain⟨a,U,W,h1,h2,h3⟩:=h;cases W;have z:((E.drop f).take c).length=c:=by rw[aJ,bE];omega
 refine⟨_,cap-f,by rw[z],by omega,by omega,λh0=> ?_⟩;rw[z] at h0;obtain⟨hg,J,ho,hc⟩:=h3 (by omega);cases ho;refine⟨hg,_,rfl,λj G=> ?_⟩;rw[z] at G;obtain⟨c0,V⟩:=hc (f+j) (by omega);have e:((E.drop f).take c).getD j (ByteArray.empty,0)=E.getD (f+j) (ByteArray.empty,0):=by
  simp[G]
 rw[show off+f*2+j*2=off+(f+j)*2 by omega,eU,jl,e];exact⟨c0,V⟩
theorem Av (E:List (ByteArray×Int))(f c k:Nat)(h:k<c):eU ((E.drop f).take c) k=eU E (f+k)/\jl ((E.drop f).take c) k=jl E (f+k):=by
 have e:((E.drop f).take c).getD k (ByteArray.empty,0)=E.getD (f+k) (ByteArray.empty,0):=by
  simp[h]
 rw[eU,jl,e];exact⟨rfl,rfl⟩
theorem vZ.sub(h:vZ E)(f c:Nat)(J:f+c<=E.length):vZ ((E.drop f).take c):=by
 have G:((E.drop f).take c).length=c:=by rw[aJ,bE];omega
 refine⟨by rw[G];have :=h.len;omega,λk z=> ?_,λk z=> ?_⟩
 ·rw[G] at z
  rw[(Av E f c k z).1];exact h.size _ (by omega)
 ·rw[G] at z
  rw[(Av E f c k z).2];exact h.ino _ (by omega)
theorem L3 (E:List (ByteArray×Int))(f j:Nat)(hj:j<=4)(h:f+j<=E.length):yN E f j=eK ((E.drop f).take j)++List.replicate (8-2*j) 0:=by
 have z:((E.drop f).take j).length=j:=by rw[aJ,bE];omega
 refine CV (by rw[lC,aD,kx,z,bG];omega) λi G=> ?_
 rw[lC] at G;rw[pA _ _ _ _ G];by_cases J:i<2*j
 ·rw[aC J,aj,aY (by rw[kx,z];omega),<-aj]
  obtain⟨V,w1⟩:=uZ ((E.drop f).take j) (i/2) (by omega);obtain⟨W,e1⟩:=Av E f j (i/2) (by omega);unfold JU;by_cases U:i%2=0
  ·rw[aC U,<-W,<-V,show i/2*2=i by omega]
  ·rw[aB U,<-e1,<-w1,show i/2*2+1=i by omega]
 ·rw[aB J,aj,aQ (by rw[kx,z];omega),bo]
  split<;>rfl
theorem xh (hE:bC w v g E)(ho:vZ E)(k:Nat)(hk:4*k<E.length):
  Calls prog 196 #[v,.int .i64 (k:Int)] w λe w'=>e= .returned (.agg (aW (iG E k)).toArray)/\az [] w w':=by
 obtain⟨a,cap,rfl,aH,av,yu⟩:=hE.open;obtain⟨hg,off,rfl,-,-⟩:=yu.out _ hk;unfold maxLen at av;have aG:=ho.len;obtain⟨c,hc⟩:∃c,c=min 4 (E.length-4*k):=⟨_,rfl⟩;have aD:c<=4:=by omega
 unfold iG;rw[<-hc];obtain⟨f,hf⟩:∃f,f=4*k:=⟨_,rfl⟩;rw[<-hf] at hk hc ⊢;have aI:(k:Int)*4=(f:Int):=by omega
 have ah:=λJ=>G0 g off E.length cap f (f+c) (by omega) (by omega) (by omega) J
 rw[show f+c-f=c by omega] at ah;have ak:Hid (∀H:Int,H=(f:Int)+(c:Int)->∀J,(Instr.sliceAt 32 (.slice (some ⟨g,off,none⟩) E.length cap) (some (.int .i64 (f:Int))) (some (.int .i64 H)) none).run prog J= .ok (.slice (some ⟨g,off+f*2,none⟩) c (cap-f)) J):=λH hH J=>by
  have :=ah J;rw[show((f+c:Nat):Int)=H by omega] at this;exact this
 have aM:=kC;obtain⟨H,hH,aB⟩:∃H:Int,H=(f:Int)+(c:Int)/\((((f:Int)+4<=(E.length:Int))/\H=(f:Int)+4)\/((E.length:Int)<(f:Int)+4/\H=(E.length:Int))):=⟨_,rfl,by omega⟩;have aF:=ak.out H hH;have aa:f+c<=E.length:=by omega
 have ai:=au (hE.sub rfl f c aa);have ax:=au (ho.sub f c aa);have ar:=au (L3 E f c aD aa);have Zi:Hid ((eK ((E.drop f).take c)).length=2*c):=by
  show _=_;rw[kx,aJ,bE];omega
 have BP:=au (lC E f c);have Fe:Hid (∀J,az [] w J->Calls prog 212 #[.slice (some ⟨g,off+f*2,none⟩) c (cap-f)] J (jw J (eK ((E.drop f).take c)))):=λJ hk=>yL (ai.out.keep hk (by simp)) ax.out
 generalize eK ((E.drop f).take c)=WE at *;have aK:=vh (w.heap.size+1);obtain⟨W0,af⟩:∃W0,W0=(w.alloc (.cells (aW (List.replicate 8 0)).toArray 195)).alloc (.cells (aW (List.replicate 8 0)).toArray 195):=⟨_,rfl⟩;have tM:Hid (bh W0 (w.heap.size+1) (aW (List.replicate 8 0)).toArray 195):=by
  have :=bh.new (w.alloc (.cells (aW (List.replicate 8 0)).toArray 195)) (aW (List.replicate 8 0)).toArray 195;have e:(w.alloc (.cells (aW (List.replicate 8 0)).toArray 195)).heap.size=w.heap.size+1:=by simp
  rw[e,<-af] at this;exact this
 have o7:Hid (bh W0 w.heap.size (aW (List.replicate 8 0)).toArray 195):=by
  rw[af];exact(bh.new w _ _).alloc _
 have HK:Hid (az [] w W0):=by
  rw[af];exact((az.refl _ _).alloc _).alloc _
 have qC:=au af;clear hE ho ah ak hf hc af ai ax aF;generalize wK:(aW (List.replicate 8 0)).toArray=Z8 at *;have aj:Hid (∀J,az [] W0 J->bh J (w.heap.size+1) (aW (List.replicate 8 0)).toArray 195):=λJ hk=>by rw[wK];exact tM.out.keep hk (by simp)
 have xR:Hid (Z8.size=8):=by rw[<-wK];rfl
 clear wK tM;generalize E.length=n at *;rcases aB with ⟨aA,rfl⟩|⟨aA,rfl⟩
 ·obtain rfl:c=4:=by omega
  have aC:IntKind.i64.wrap ((f:Int)+4)=(f:Int)+4:=eW _ (by omega);have h1:(0:Int)<=(f:Int)+4:=by omega
  have h2:(f:Int)+4<=(cap:Int):=by omega
  have h3:((f:Int)+4).toNat=f+4:=by omega
  have h4:¬cap=f:=by omega
  clear hH aa;go_enter func196,ntmps196;go_wp2_with fail;rw[<-qC.out];go_region_with (go_at_call 212;refine(Fe.out _ HK.out.drew).mono ?_;rintro e w1 ⟨v1,g1,rfl,W,ag,h⟩;obtain⟨vc,w2,yO,U,V⟩:=pB (o:=0) (n:=8) (cap:=8) (aj.out _ ((az.refl _ _).drew.trans' h)) W (by have :=Zi.out;omega) (by rw[bG];have :=Zi.out;omega);(have JV:=yO 3);obtain⟨a1,c1,rfl,-,-,-⟩:=iB W)
  have G:(List.replicate 8 (0:Int)).take 0++WE++(List.replicate 8 (0:Int)).drop (0+WE.length)=yN E f 4:=by
   rw[ar.out,Zi.out,eV,bY,aX,jq]
  rw[G] at U;have HL:=au (eY U BP.out);have z:bh w2 w.heap.size Z8 195 :=(o7.out.drew.keep h (by simp)).keep V (by simp);obtain⟨w3,hS,ae,ac⟩:=bB (P:= prog) (ty:= 195) (cs:=aW (yN E f 4)) (by rw[bp,BP.out];exact ja) z (by rw[xR.out,bp,BP.out]) (fh _);have HS:=au hS;have qN:=au (eY ae BP.out);have iZ:Hid (az [] w w3):=(((HK.out.drew.trans' h).trans V (by intro x hx;rw[ay] at hx;omega))).trans ac (by intro x hx;rw[ay] at hx;omega);clear G U z hS ae ac yO JV h V ag W;go_wp2_with(first|(with_reducible refine gL 195 HL.out ?_)|(with_reducible refine gS 195 HS.out ?_));exact aL (b9 results196 rfl qN.out) rfl ⟨rfl,iZ.out⟩
 ·have aC:IntKind.i64.wrap ((f:Int)+4)=(f:Int)+4:=eW _ (by omega)
  have h2:n<=cap:=by omega
  have h3:f<=n:=by omega
  have h4:¬cap=f:=by omega
  have h5:n-f=c:=by omega
  clear hH aa;go_enter func196,ntmps196;go_wp2_with fail;rw[<-qC.out];go_region_with (go_at_call 212;refine(Fe.out _ HK.out.drew).mono ?_;rintro e w1 ⟨v1,g1,rfl,W,ag,h⟩;obtain⟨vc,w2,yO,U,V⟩:=pB (o:=0) (n:=8) (cap:=8) (aj.out _ ((az.refl _ _).drew.trans' h)) W (by have :=Zi.out;omega) (by rw[bG];have :=Zi.out;omega);(have JV:=yO 3);obtain⟨a1,c1,rfl,-,-,-⟩:=iB W)
  have G:(List.replicate 8 (0:Int)).take 0++WE++(List.replicate 8 (0:Int)).drop (0+WE.length)=yN E f c:=by
   rw[ar.out,Zi.out,eV,bY,aX,jq]
  rw[G] at U;have HL:=au (eY U BP.out);have z:bh w2 w.heap.size Z8 195 :=(o7.out.drew.keep h (by simp)).keep V (by simp);obtain⟨w3,hS,ae,ac⟩:=bB (P:= prog) (ty:= 195) (cs:=aW (yN E f c)) (by rw[bp,BP.out];exact ja) z (by rw[xR.out,bp,BP.out]) (fh _);have HS:=au hS;have qN:=au (eY ae BP.out);have iZ:Hid (az [] w w3):=(((HK.out.drew.trans' h).trans V (by intro x hx;rw[ay] at hx;omega))).trans ac (by intro x hx;rw[ay] at hx;omega);clear G U z hS ae ac yO JV h V ag W;go_wp2_with(first|(with_reducible refine gL 195 HL.out ?_)|(with_reducible refine gS 195 HS.out ?_));exact aL (b9 results196 rfl qN.out) rfl ⟨rfl,iZ.out⟩
def eu (X:List Int) (p:Nat):List Int:=(List.range 8).map λj=>X.getD (p+j) 0
theorem iD (X:List Int)(p:Nat):(eu X p).length=8:=by simp[eu]
theorem j5 (X:List Int)(p k:Nat)(h:k<8):(eu X p).getD k 0=X.getD (p+k) 0:=by
 rw[eu,aj,bF,cA h];rfl
def jD (p:Nat) (l:List Int) (k:Nat):List (Int×Int):=(List.range k).map λj=>(((p+j:Nat):Int),l.getD j 0)
theorem zu (p:Nat)(l:List Int)(k:Nat):jD p l (k+1)=jD p l k++[(((p+k:Nat):Int),l.getD k 0)]:=by
 unfold jD;rw[dS,eX];rfl
theorem nW (p:Nat)(l:List Int)(k:Nat):(jD p l k).length=k:=by simp[jD]
theorem oL (h:eO w b gp B ps)(p:Nat)(hp:p+8<=3128):
  Calls prog 141 #[.pointer (some ⟨b,0,none⟩),.int .i64 (p:Int)] w λe w'=>e= .returned (.agg (aW (eu (aA B ps) p)).toArray)/\az [] w w':=by
 have wC:=au h;have V:=iD (aA B ps) p;have DC:Hid (∀(k:Nat) J,k<8->az [] w J->Calls prog 127 #[.pointer (some ⟨b,0,none⟩),.int .i64 ((p:Int)+(k:Int))] J λe w'=>e= .returned (.int .u64 ((eu (aA B ps) p).getD k 0))/\J=w'):=λk J hk fK=>by
  have :=oC (wC.out.keep fK (by simp) (by simp)) ((p:Int)+(k:Int));unfold Ae at this;rw[aC (by omega),show((p:Int)+(k:Int)).toNat=p+k by omega,<-j5 _ p k hk] at this;exact this
 have xR:(aW (List.replicate 8 0)).toArray=(aW (dW 0 (eu (aA B ps) p) 0)).toArray:=by rw[kN,V]
 clear h;generalize eu (aA B ps) p=d at *;obtain⟨W,G⟩:∃W,W=(w.alloc (.cells (aW (List.replicate 8 0)).toArray 195)).alloc (.cells (aW (List.replicate 8 0)).toArray 195):=⟨_,rfl⟩;have o7:Hid (bh W w.heap.size (aW (List.replicate 8 0)).toArray 195):=by
  have :=(bh.new w (aW (List.replicate 8 0)).toArray 195).alloc (.cells (aW (List.replicate 8 0)).toArray 195);rw[<-G] at this;exact this
 have rb:Hid (bh W (w.heap.size+1) (aW (dW 0 d 0)).toArray 195):=by
  have :=bh.new (w.alloc (.cells (aW (List.replicate 8 0)).toArray 195)) (aW (List.replicate 8 0)).toArray 195;have e:(w.alloc (.cells (aW (List.replicate 8 0)).toArray 195)).heap.size=w.heap.size+1:=by simp
  rw[e,<-G,xR] at this;exact this
 have HK:Hid (az [] w W):=by
  show az _ _ _;rw[G];exact((az.refl [] w).alloc _).alloc _
 have ah:=kC;clear xR wC;generalize wK:(aW (List.replicate 8 0)).toArray=Z8 at *;go_enter func141,ntmps141;go_wp2_with fail;rw[<-G];go_loopg [7] 8 (λgh s7 J=>∃k:Nat,k+gh=8/\s7= .int .i64 (k:Int)/\Hid (bh J (w.heap.size+1) (aW (dW 0 d k)).toArray 195/\bh J w.heap.size Z8 195/\az [] w J))
 case atStart=>exact⟨0,by omega,rfl,rb.out,o7.out,HK.out⟩
 case round=>
  clear o7 rb HK ah G;obtain⟨k,hk,rfl,z⟩:=hrel;cases gk with
  |zero=>
   obtain rfl:k=8:=by omega
   have U:=z.out.1;rw[show dW 0 d 8=d by rw[<-V];exact lL 0 d] at U;have HL:=au (eY U V);obtain⟨w2,hS,aa,ac⟩:=bB (P:= prog) (ty:= 195) (cs:=aW d) (by rw[bp,V];exact ja) z.out.2.1 (by rw[<-wK];simp[bp,V]) (fh _);have HS:=au hS;have qN:=au (eY aa V);have iZ:=au (z.out.2.2.trans ac (by simp));clear hS U aa ac z hk;go_wp2_with(first|(with_reducible refine gL 195 HL.out ?_)|(with_reducible refine gS 195 HS.out ?_));exact aL (b9 results141 rfl qN.out) rfl ⟨rfl,iZ.out⟩
  |succ gg=>
   have uS:k<8:=by omega
   have ai:(k:Int)<8:=by omega
   have dt:(0:Int)<=(k:Int):=by omega
   have HC:=au (DC.out k wr uS z.out.2.2);have ae:wr.cell? ⟨w.heap.size+1,k,none⟩=some (.int .u64 ((dW 0 d k).getD k 0)):=by
    rw[z.out.1.cell,aF,dA (by rw[kT _ _ _ (by omega)];omega)]
   have hf:wr.frozen? ⟨w.heap.size+1,k,none⟩=false:=z.out.1.frozen k;have HB:Hid (bh (wr.setCell ⟨w.heap.size+1,k,none⟩ (.int .u64 (d.getD k 0))) (w.heap.size+1) (aW (dW 0 d (k+1))).toArray 195):=by
    have :=z.out.1.set k (.int .u64 (d.getD k 0));rw[ag,lT,kO 0 d k (by omega) (d.getD k 0) (by simp[show k<d.length by omega])] at this;exact this
   have af:Hid (bh (wr.setCell ⟨w.heap.size+1,k,none⟩ (.int .u64 (d.getD k 0))) w.heap.size Z8 195):=z.out.2.1.other (by simp) _;have iZ:=au z.out.2.2;clear z;generalize d.getD k 0=x at *;generalize (dW 0 d k).getD k 0=y at *;go_wp2_with fail;refine HC.out.mono ?_;rintro e w' ⟨rfl,rfl⟩;go_wp2_with fail;go_roundg gg;case measure=>omega
   case rel=>exact⟨k+1,by omega,by go_num,HB.out,af.out,iZ.out.setCell (by simp) _⟩
theorem rf{G:Nat}(h:eO w b G B ps)(hn:ps.length<=900000)(p:Nat)(hp:p+8<=3128)(l:List Int)(hl:l.length=8):
  Calls prog 195 #[.pointer (some ⟨b,0,none⟩),.int .i64 (p:Int),.agg (aW l).toArray] w (jE w b G B (ps++jD p l 8)):=by
 have HL:Hid ((loadVar 195 ⟨w.heap.size,0,none⟩).run prog (w.alloc (.cells (aW l).toArray 195))= .ok (.agg (aW l).toArray) (w.alloc (.cells (aW l).toArray 195))):=eY (bh.new w _ _) hl;have HX:Hid (∀k,k<8->(aW l).toArray[k]? =some (.int .u64 (l.getD k 0))):=λk hk=>by rw[aF,dA (by omega)]
 have fW:Hid (az [b,G] w (w.alloc (.cells (aW l).toArray 195))):=(az.refl _ w).alloc _;have wC:=au (h.keep ((az.refl [] w).alloc (.cells (aW l).toArray 195)) (by simp) (by simp));clear h;generalize (aW l).toArray=Z at *;go_enter func195,ntmps195;go_wp2_with(with_reducible refine gL 195 HL.out ?_);go_loopg [9] 8 (λgh s9 wx=>∃k:Nat,k+gh=8/\s9= .int .i64 (k:Int)/\Hid (∃z,(z=G\/(w.heap.size<=z/\z<wx.heap.size))/\eO wx b z B (ps++jD p l k)/\az [b,G] w wx))
 case atStart=>exact⟨0,by omega,rfl,G,.inl rfl,by rw[show jD p l 0=[] from rfl,bu];exact wC.out,fW.out⟩
 case round=>
  clear wC fW HL;obtain⟨k,hk,rfl,HP⟩:=hrel;obtain⟨z,Gz,J,fK⟩:=HP.out;cases gk with
  |zero=>
   obtain rfl:k=8:=by omega
   have HE:Hid (jE w b G B (ps++jD p l 8) (.returned (.tuple #[])) wr):=⟨rfl,z,Gz,J,fK⟩;clear HP Gz J fK hk;go_wp2_with fail;go_end0;exact HE.out
  |succ gg=>
   have uS:k<8:=by omega
   have ae:(k:Int)<8:=by omega
   have dt:(0:Int)<=(k:Int):=by omega
   have Bx:=Wb uS (HX.out k uS);have U:zj (ps++jD p l k) ((p:Int)+(k:Int)) (l.getD k 0)=ps++jD p l (k+1):=by
    rw[zj,aC (by rw[sB];omega),zu,ba,Int.natCast_add]
   have HC:=oD J (by rw[aD,nW];omega) ((p:Int)+(k:Int)) (l.getD k 0);rw[U] at HC;have HC:=au HC;have HG:=au Gz;have iZ:=au fK;clear HP Gz J fK U;generalize l.getD k 0=x at *;go_wp2_with fail;refine HC.out.mono ?_;rintro e w2 ⟨rfl,pq,W,aa,V⟩;have HR:Hid (∃z,(z=G\/(w.heap.size<=z/\z<w2.heap.size))/\eO w2 b z B (ps++jD p l (k+1))/\az [b,G] w w2):=by
    have ac:=iZ.out.size;have Wq:=V.size;refine⟨pq,?_,aa,iZ.out.trans V λx hx=> ?_⟩
    ·rcases HG.out with h|h<;>rcases W with h2|h2<;>omega
    ·simp only[aP,aM,bz] at hx ⊢
     rcases HG.out with h|h<;>omega
   clear W aa V;go_wp2_with fail;go_roundg gg;case measure=>omega
   case rel=>exact⟨k+1,by omega,by go_num,HR.out⟩
def wj (l:List Int) (e:Nat):Nat:=1080+8*(l.getD (e/4) 0).toNat+2*(e%4)
def zw (X l:List Int) (e:Nat):Nat:=(X.getD (wj l e) 0).toNat
def vk (X l:List Int) (e:Nat):Int:=X.getD (wj l e+1) 0
def rH (X l:List Int) (m:Nat):List (ByteArray×Int):=(List.range m).map λe=>(wu ((kf (zw X l e)).getD []),vk X l e)
theorem pC (X l:List Int)(m:Nat):(rH X l m).length=m:=by simp[rH]
theorem BR (X l:List Int)(m e:Nat)(h:e<m):eU (rH X l m) e=wu ((kf (zw X l e)).getD [])/\jl (rH X l m) e=vk X l e:=by
 have :(rH X l m).getD e (ByteArray.empty,0)=(wu ((kf (zw X l e)).getD []),vk X l e):=by
  rw[rH,aj,bF,cA h];rfl
 rw[eU,jl,this];exact⟨rfl,rfl⟩
theorem xj (E:List (ByteArray×Int))(n e:Nat)(h:e<n):eU (E.take n) e=eU E e/\jl (E.take n) e=jl E e:=by
 have :(E.take n).getD e (ByteArray.empty,0)=E.getD e (ByteArray.empty,0):=by simp[h]
 rw[eU,jl,this];exact⟨rfl,rfl⟩
theorem C2 (E:List (ByteArray×Int))(k c:Nat)(U:c=min 4 (E.length-4*k))(V:4*k<E.length):iG (E.take (4*k+c)) k=iG E k:=by
 unfold iG;rw[aJ,show min 4 (min (4*k+c) E.length-4*k)=c by omega,<-U];refine CV (by rw[lC,lC]) λi z=> ?_
 rw[lC] at z;rw[pA _ _ _ _ z,pA _ _ _ _ z];by_cases h:i<2*c
 ·rw[aC h,aC h]
  obtain⟨G,J⟩:=xj E (4*k+c) (4*k+i/2) (by omega);rw[JU,JU,G,J]
 ·rw[aB h,aB h]
def C3 (X l:List Int) (m k:Nat):Prop:=
 l.getD k 0≠0/\(∀j,j<min 4 (m-4*k)->(kf (zw X l (4*k+j))).isSome=true/\vk X l (4*k+j)<32)/\iG (rH X l m) k=eu X (1080+8*(l.getD k 0).toNat)
def na (X l:List Int) (m:Nat):Prop:=m<=24/\l=mj l (bj m)/\∀k,k<bj m->C3 X l m k
theorem SN (l:List Int)(k j:Nat)(h:j<4):wj l (4*k+j)=1080+8*(l.getD k 0).toNat+2*j:=by
 rw[wj,show(4*k+j)/4=k by omega,show(4*k+j)%4=j by omega]
theorem OX{W:Nat}{l:List Nat}(h:kf W=some l):l.length<=7/\(∀c∈l,c<256)/\iC l=true/\qK l=W:=by
 unfold kf at h;split at h
 ·rename_i hc
  cases h;exact⟨by rw[aJ];omega,λc z=>QF W c (bM z),hc.2.1,hc.2.2⟩
 ·cases h
theorem xS (W:Nat):(wu ((kf W).getD [])).size<=7:=by
 rw[Iv];cases h:kf W with
 |none=>simp
 |some l=>exact(OX h).1
theorem Ff{U Ts so m mc:Nat}(W:bh w b (aW h).toArray T)(hs:bh w U (aW z).toArray Ts)(hm:m<=n)(V:o+m<=h.length)(aa:so+m<=z.length):
  ∃v w',(∀ty,(Builtin.copy_ #[71,71] ty #[.slice (some ⟨b,o,none⟩) n cap,.slice (some ⟨U,so,none⟩) m mc]).run prog w= .ok v w')/\bh w' b (aW (h.take o++(z.drop so).take m++h.drop (o+m))).toArray T/\az [b] w w':=by
 have J:(aW ((z.drop so).take m)).length=min m n:=by rw[bp,aJ,bE];omega
 refine⟨_,_,λty=>run_copy_row (P:= prog) w 71 71 ty 56 b o n cap ⟨U,so,none⟩ m mc (aW h).toArray T (aW ((z.drop so).take m)) underlying71 qa W J ?_ ?_ ?_,?_,(az.refl _ _).setRow (by simp) _⟩
 ·intro j u G
  have hj:j<m:=by
   have :=(List.getElem?_eq_some_iff.1 G).1;rw[J] at this;omega
  rw[dA (by rw[aJ,bE];omega)] at G;rw[add_plain,hs.cell,aF,dA (by omega),<-G];simp[hj]
 ·rw[J,bN,bp];omega
 ·exact λu G=>fh _ u G
 ·have e:((aW h).toArray.toList.take o++aW ((z.drop so).take m)++(aW h).toArray.toList.drop (o+(aW ((z.drop so).take m)).length)).toArray=(aW (h.take o++(z.drop so).take m++h.drop (o+m))).toArray:=by
   rw[J,cC hm];simp[aW,List.map_take,List.map_drop]
  rw[e];exact kr W
theorem L4 (b:Nat)(w:World):(Instr.sliceAt 254 (.pointer (some ⟨b,0,none⟩)) none none none).run prog w= .ok (.slice (some ⟨b,0,none⟩) 13 13) w:=by show Sem.run _ _ _=_;kernel_rfl
theorem JW (b:Nat)(w:World):(Instr.sliceAt 254 (.pointer (some ⟨b,0,none⟩)) (some (.int .i64 5)) none none).run prog w= .ok (.slice (some ⟨b,5,none⟩) 8 8) w:=by show Sem.run _ _ _=_;kernel_rfl
theorem Fg (b:Nat)(w:World):(Instr.sliceAt 195 (.pointer (some ⟨b,0,none⟩)) (some (.int .i64 2)) (some (.int .i64 7)) none).run prog w= .ok (.slice (some ⟨b,2,none⟩) 5 6) w:=by show Sem.run _ _ _=_;kernel_rfl
def dv (X r:List Int):List Int:=(r.drop 2).take 5++(if r.getD 7 0=0 then List.replicate 8 0 else eu X (1080+8*(r.getD 7 0).toNat))
def wm (X r:List Int):Prop:=r.getD 7 0<256/\(∀k,k<13->(dv X r).getD k 0<256)/\(r.getD 7 0=0\/(dv X r).drop 5≠List.replicate 8 0)
instance (X r:List Int):Decidable (wm X r):=by unfold wm;infer_instance
theorem vt{X r:List Int}(h:r.length=8):(dv X r).length=13:=by
 unfold dv;split
 ·simp[h]
 ·simp[h,iD]
theorem JX (f row:List Int)(h:f.length=5)(z:row.length=8):(f++List.replicate 8 (0:Int)).take 5++(row.drop 0).take 8++(f++List.replicate 8 (0:Int)).drop (5+8)=f++row:=by
 rw[List.take_left' h,List.drop_zero,aV (by omega),dF (by simp[h]),bu]
def aaz (w:World) (X r:List Int) (e:Ending) (w':World):Prop:=
 ∃h z ok,e= .returned (.tuple #[.agg (zs h).toArray,.int .i64 z,.bool ok])/\(ok=true->wm X r/\h=dv X r/\z=r.getD 7 0)/\(ok=false->¬wm X r)/\h.length=13/\az [] w w'
theorem JY (h:eO w b gp B ps)(aZ:In64 (aA B ps))(r:List Int)(hr:r.length=8)(wD:In64 r):
  Calls prog 190 #[.pointer (some ⟨b,0,none⟩),.agg (aW r).toArray] w (aaz w (aA B ps) r):=by
 have HS:=au h;have tu:=au aZ;have yw:=au wD;have OY:=oH;have IE:=V9
 -- the world behind the three variables
 have bb:=((bh.new w (aW r).toArray 195).alloc (.cells (zs (List.replicate 13 0)).toArray 109)).alloc (.cells (aW (List.replicate 13 0)).toArray 254);have U:=(bh.new (w.alloc (.cells (aW r).toArray 195)) (zs (List.replicate 13 0)).toArray 109).alloc (.cells (aW (List.replicate 13 0)).toArray 254);have V:=bh.new ((w.alloc (.cells (aW r).toArray 195)).alloc (.cells (zs (List.replicate 13 0)).toArray 109)) (aW (List.replicate 13 0)).toArray 254;rw[show(w.alloc (.cells (aW r).toArray 195)).heap.size=w.heap.size+1 by simp] at U;rw[show((w.alloc (.cells (aW r).toArray 195)).alloc (.cells (zs (List.replicate 13 0)).toArray 109)).heap.size=w.heap.size+1+1 by simp] at V;obtain⟨v1,w1,yO,aS,aI⟩:=Ff (o:=0) (n:=13) (cap:=13) (so:=2) (m:=5) (mc:=6) V.drew bb.drew (by omega) (by simp) (by omega);have bq:az [] w w1:=(((((az.refl [] w).alloc _).alloc _).alloc _).drew).trans aI (by intro x J;rw[ay] at J;omega);have bf:=bb.drew.keep aI (by rw[ay];omega);have Ws:=U.drew.keep aI (by rw[ay];omega);have xk:(List.replicate 13 (0:Int)).take 0++(r.drop 2).take 5++(List.replicate 13 (0:Int)).drop (0+5)=(r.drop 2).take 5++List.replicate 8 0:=by simp
 rw[xk] at aS;have Zj:=au yO;have af:=au aS;have oK:=au bf;have tM:=au Ws;have iU:=au bq;have bP:=L4 (w.heap.size+1+1);have Wt:=Fg w.heap.size;have c7:w1.cell? ⟨w.heap.size,7,none⟩=some (.int .u64 (r.getD 7 0)):=by rw[bf.cell,aF,dA (by omega)]
 have DA:Hid (dv (aA B ps) r=(r.drop 2).take 5++(if r.getD 7 0=0 then List.replicate 8 0 else eu (aA B ps) (1080+8*(r.getD 7 0).toNat))):=rfl;have oo:=au (vt (X:=aA B ps) hr);have jC:Hid (wm (aA B ps) r↔r.getD 7 0<256/\(∀k,k<13->(dv (aA B ps) r).getD k 0<256)/\(r.getD 7 0=0\/(dv (aA B ps) r).drop 5≠List.replicate 8 0)):=Iff.rfl;have aV:Hid (In64 (dv (aA B ps) r)):=by
  intro i;have e:dv (aA B ps) r=(r.drop 2).take 5++(if r.getD 7 0=0 then List.replicate 8 0 else eu (aA B ps) (1080+8*(r.getD 7 0).toNat)):=rfl;by_cases hi:i<5
  ·have :(dv (aA B ps) r).getD i 0=r.getD (2+i) 0:=by
    rw[e];simp only[aj];rw[aY (by simp[hr];omega),bO,aC hi,bT]
   rw[this];exact wD _
  ·have h2:(dv (aA B ps) r).getD i 0=(if r.getD 7 0=0 then List.replicate 8 0 else eu (aA B ps) (1080+8*(r.getD 7 0).toNat)).getD (i-5) 0:=by
    rw[e];simp only[aj];rw[aQ (by simp[hr];omega)];simp[hr]
   rw[h2];split
   ·rw[aj,bo]
    split<;>simp
   ·by_cases h8:i-5<8
    ·rw[j5 _ _ _ h8]
     exact aZ _
    ·rw[aj,aT (by rw[iD];omega)]
     simp
 have tO:=wD 7;clear bb U V yO aS aI bq bf Ws h aZ wD xk;generalize bt:r.getD 7 0=li at *;have QY:=au bt;clear bt;generalize (aW r).toArray=Z at *;generalize bu:(zs (List.replicate 13 0)).toArray=ZN at *;have GA:=au bu;clear bu;generalize (aW (List.replicate 13 0)).toArray=ZR at *;have ot:Hid (∀z,bh z (w.heap.size+1) ZN 109->∃w',(storeVar 109 ⟨w.heap.size+1,0,none⟩ (.agg ZN)).run prog z= .ok () w'/\(loadVar 109 ⟨w.heap.size+1,0,none⟩).run prog w'= .ok (.agg ZN) w'/\az [w.heap.size+1] z w'):=λz hb=>by
  have hz:=GA.out;obtain⟨w',h1,h2,h3⟩:=bB (P:= prog) (ty:= 109) (cs:=zs (List.replicate 13 0)) (by rw[eF];exact kP) hb (by rw[<-hz];simp) (l9 _);have h4:=fc (l:=List.replicate 13 0) (off:=0) h2 (by simp) (λk hk=>by rw[aX,aF,fR (by simpa using hk)]);rw[hz] at h1 h4;exact⟨w',h1,h4,h3⟩
 by_cases bI:256<=li
 ·have HF:Hid (¬wm (aA B ps) r):=λh=>by have :=(jC.out.1 h).1;omega
  obtain⟨w2,ak,qF,ac⟩:=ot.out w1 tM.out;have aO:=au ak;have p9:=au qF;have fL:=au (iU.out.trans ac (by simp));clear ak qF ac DA jC aV;go_enter func190,ntmps190;go_wp2_with fail;refine fw (l:=[_,_]) (o:=_) (S:=λz=>z=(((w.alloc (.cells Z 195)).alloc (.cells ZN 109)).alloc (.cells ZR 254)).drew) (by kernel_rfl) rfl (by kernel_rfl) (λd _ _ _ _ h=>by cases d<;>exact h) rfl (by kernel_rfl) (by kernel_rfl) ?_;repeat (refine aK.cons ?_ (bc.val rfl ?h) ?_;(case h=>(intro z J;go_simp;rfl));simp only[Act.put,ag,ah,ai])
  refine aK.done λz J=> ?_
  subst J;refine iQ rfl (.tmp 13) (.tmp 14) 71 71 rfl _ _ rfl rfl (Zj.out _) ?_;go_wp2_with(with_reducible refine gS 109 aO.out ?_);refine aL (bU results190 rfl p9.out rfl rfl) rfl ⟨List.replicate 13 0,0,false,?_,λh=>(by cases h),λ_=>HF.out,by simp,fL.out⟩;rw[GA.out];rfl
 ·have bQ:wrap64 li=li:=by unfold wrap64;omega
  have bN:=kC;have bz:Hid (IntKind.i64.wrap li=li):=eW _ (by omega);by_cases aa:li=0
  ·have ae:Hid (bh w1 (w.heap.size+1+1) (aW (dv (aA B ps) r)).toArray 254):=by
    have e:=DA.out;rw[aC aa] at e;show bh _ _ _ _;rw[e];exact af.out
   have Vx:Hid (li=0\/(dv (aA B ps) r).drop 5≠List.replicate 8 0↔True):=⟨λ_=>trivial,λ_=> .inl aa⟩;have ax:=tM;have av:=iU;have e0:(li==0)=true:=beq_iff_eq.2 aa;have e1:(li != 0)=false:=by rw[bne,e0];rfl
   go_enter func190,ntmps190;go_wp2_with fail;refine fw (l:=[_,_]) (o:=_) (S:=λz=>z=(((w.alloc (.cells Z 195)).alloc (.cells ZN 109)).alloc (.cells ZR 254)).drew) (by kernel_rfl) rfl (by kernel_rfl) (λd _ _ _ _ h=>by cases d<;>exact h) rfl (by kernel_rfl) (by kernel_rfl) ?_;repeat (refine aK.cons ?_ (bc.val rfl ?h) ?_;(case h=>(intro z J;go_simp;rfl));simp only[Act.put,ag,ah,ai])
   refine aK.done λz J=> ?_
   subst J;refine iQ rfl (.tmp 13) (.tmp 14) 71 71 rfl _ _ rfl rfl (Zj.out _) ?_;clear DA;generalize w1=wA at *;have Wu:=au (bh.new wA ZN 109);have Wv:=au (LD (ae.out.alloc (.cells ZN 109)) oo.out);have HU:Hid (∀k,k<13->(aW (dv (aA B ps) r)).toArray[k]? =some (.int .u64 ((dv (aA B ps) r).getD k 0))):=λk hk=>by rw[aF,dA (by rw[oo.out];exact hk)]
   have IG:Hid (w.heap.size+1+1<wA.heap.size):=ae.out.lt;clear ae;generalize ar:dv (aA B ps) r=G at *;have ba:=au ar;clear ar;generalize (aW G).toArray=UA at *;go_wp2_with(with_reducible refine gL 254 Wv.out ?_);clear IE Wv;go_loopg [32] 13 (λgh s32 z=>∃k:Nat,k+gh=13/\s32= .int .i64 (k:Int)/\Hid (bh z wA.heap.size (zs (dW 0 G k)).toArray 109/\bh z (w.heap.size+1) ZN 109/\(∀i,i<k->G.getD i 0<256)/\az [] w z))
   case atStart=>
    refine⟨0,by omega,rfl,?_,ax.out.alloc _,by simp,av.out.alloc _⟩;rw[kN,oo.out,GA.out];exact Wu.out
   case round=>
    clear ax av Wu;obtain⟨k,hk,rfl,HP⟩:=hrel;obtain⟨U,V,W,fK⟩:=HP.out;cases gk with
    |zero=>
     obtain rfl:k=13:=by omega
     rw[show dW 0 G 13=G by rw[<-oo.out];exact lL 0 G] at U;have aD:wA.heap.size∉[w.heap.size+1]:=by have :=IG.out;rw[ay];omega
     have pX:=au (λ(z:World) (hk:az [w.heap.size+1] wr z)=>fc (off:=0) (U.keep hk aD) oo.out (λk hk=>by rw[aX,aF,fR (by rw[oo.out];exact hk)]));have D7:Hid (∀z,bh z (w.heap.size+1) ZN 109->∃w',(storeVar 109 ⟨w.heap.size+1,0,none⟩ (.agg (zs G).toArray)).run prog z= .ok () w'/\bh w' (w.heap.size+1) (zs G).toArray 109/\az [w.heap.size+1] z w'):=λz hb=>by
      have hz:=GA.out;exact bB (P:= prog) (ty:= 109) (cs:=zs G) (by rw[eF,oo.out];exact kP) hb (by rw[<-hz,eF,oo.out];simp[eF]) (l9 _)
     have aR:Hid (∀z,bh z (w.heap.size+1) (zs G).toArray 109->(loadVar 109 ⟨w.heap.size+1,0,none⟩).run prog z= .ok (.agg (zs G).toArray) z):=λz hb=>fc (off:=0) hb oo.out (λk hk=>by rw[aX,aF,fR (by rw[oo.out];exact hk)])
     have iZ:=au fK;have zx:=au V;have bF:w.heap.size<=w.heap.size+1:=by omega
     have HF:Hid (wm (aA B ps) r):=jC.out.2 ⟨by omega,W,.inl aa⟩;clear HP U V W fK hk jC af oK tM iU aD;generalize aG:(zs G).toArray=ZA at *;have bj:=au aG;clear aG;go_wp2_with fail;refine vX (l:=[_,_,_,_,_,_,_,_,_,_,_]) (f:=_) (mid:=[_]) (o:=_) (tl:=[]) (S:=λb z=>az [w.heap.size+1] wr z/\bh z (w.heap.size+1) (cond b ZA ZN) 109) (by kernel_rfl) rfl (by kernel_rfl) (λd _ _ _ _ h=>by cases d<;>exact h) ⟨(az.refl _ _).drew,zx.out.drew⟩ (by kernel_rfl) (by kernel_rfl) ?_;repeat (first
      |(refine fG.cons (.agg ZA) (λb=>bc.load rfl 109 (.tmp 10) rfl _ rfl λz J=>pX.out z J.1) ?_;simp only[Act.put,ag,ah,ai])
      |(refine fG.cons undef (λb=>bc.off rfl) ?_;simp only[Act.put,ag,ah,ai])
      |(refine fG.cons ?_ (λb=>bc.val rfl ?h) ?_;(case h=>(intro z J;clear J;go_simp;rfl));simp only[Act.put,ag,ah,ai]))
     refine fG.done ⟨undef,Ap.store rfl 109 (.tmp 4) (.tmp 44) rfl _ rfl _ rfl (λz J=> ?_),?_⟩
     ·obtain⟨w',h1,h2,h3⟩:=D7.out z J.2
      exact⟨w',h1,J.1.trans' h3,h2⟩
     refine aK.cons ?_ (bc.val rfl ?h) ?_;case h=>intro z J;clear J;go_simp;rfl
     simp only[Act.put,ag,ah,ai];refine aK.done λz J=> ?_
     have aU:=au (aR.out z J.2);have o8:=au (iZ.out.trans J.1 (by intro x J;rw[ay] at J;omega));clear J;go_wp2_with fail;refine aL (bU results190 rfl aU.out rfl rfl) rfl ⟨G,0,true,?_,λ_=>⟨HF.out,ba.out.symm,by rw[QY.out];exact aa.symm⟩,λh=>(by cases h),oo.out,o8.out⟩;rw[bj.out];rfl
    |succ gg=>
     have mC:k<13:=by omega
     have bD:(k:Int)<13:=by omega
     have dt:(0:Int)<=(k:Int):=by omega
     have Bx:=Ir mC (HU.out k mC);have bG:=aV.out k;by_cases LS:256<=G.getD k 0
     ·have HF:Hid (¬wm (aA B ps) r):=λh=>by have :=(jC.out.1 h).2.1 k mC;omega
      obtain⟨w5,Aw,Fh,j6⟩:=ot.out wr V;have Ay:=au Aw;have L5:=au Fh;have qG:=au (fK.trans j6 (by simp));clear Aw Fh j6 HP U V W fK hk;generalize G.getD k 0=x at *;go_wp2_with(with_reducible refine gS 109 Ay.out ?_);refine aL (bU results190 rfl L5.out rfl rfl) rfl ⟨List.replicate 13 0,0,false,?_,λh=>(by cases h),λ_=>HF.out,by simp,qG.out⟩;rw[GA.out];rfl
     ·have bA:wrap64 (G.getD k 0)=G.getD k 0:=by unfold wrap64;omega
      have bg:wr.cell? ⟨wA.heap.size,k,none⟩=some (.int .i64 ((dW 0 G k).getD k 0)):=by
       rw[U.cell,aF,fR (by rw[kT _ _ _ (by rw[oo.out];omega),oo.out];exact mC)]
      have bw:wr.frozen? ⟨wA.heap.size,k,none⟩=false:=U.frozen k;have HR:Hid (bh (wr.setCell ⟨wA.heap.size,k,none⟩ (.int .i64 (G.getD k 0))) wA.heap.size (zs (dW 0 G (k+1))).toArray 109/\bh (wr.setCell ⟨wA.heap.size,k,none⟩ (.int .i64 (G.getD k 0))) (w.heap.size+1) ZN 109/\(∀i,i<k+1->G.getD i 0<256)/\az [] w (wr.setCell ⟨wA.heap.size,k,none⟩ (.int .i64 (G.getD k 0)))):=by
       have bE:=IG.out;refine⟨?_,V.other (by show w.heap.size+1≠wA.heap.size;omega) _,λi hi=> ?_,fK.setCell (.inr (by show w.heap.size<=wA.heap.size;omega)) _⟩
       ·have :=U.set k (.int .i64 (G.getD k 0))
        rw[ag,OE,kO 0 G k (by rw[oo.out];exact mC) (G.getD k 0) (by simp[show k<G.length by rw[oo.out];exact mC])] at this;exact this
       ·by_cases e:i=k
        ·subst e;omega
        ·exact W i (by omega)
      clear HP U V W fK;generalize G.getD k 0=x at *;generalize (dW 0 G k).getD k 0=y at *;go_wp2_with fail;go_roundg gg;case measure=>omega
      case rel=>exact⟨k+1,by omega,by go_num,HR.out⟩
  ·have e0:(li==0)=false:=cQ.2 aa
   have e1:(li != 0)=true:=bne_iff_ne.2 aa;obtain⟨q,hq⟩:∃q:Nat,li=(q:Int):=⟨li.toNat,by omega⟩;have Ww:=au (jU li w1);have aN:iL li=((1080+8*q:Nat):Int):=by unfold iL;rw[aB (by omega)];omega
   rw[aN] at Ww;have ma:Hid (∀z,az [] w z->Calls prog 141 #[.pointer (some ⟨b,0,none⟩),.int .i64 ((1080+8*q:Nat):Int)] z λe w'=>e= .returned (.agg (aW (eu (aA B ps) (1080+8*q))).toArray)/\az [] z w'):=λz hk=>oL (HS.out.keep hk (by simp) (by simp)) (1080+8*q) (by omega)
   have bC:Hid (dv (aA B ps) r=(r.drop 2).take 5++eu (aA B ps) (1080+8*q)):=by
    have e:=DA.out;rw[aB aa,hq,aH] at e;exact e
   have aJ:=au (iD (aA B ps) (1080+8*q));have bK:=JW (w.heap.size+1+1);have bJ:=vh;clear DA aN hq;generalize eu (aA B ps) (1080+8*q)=row at *;generalize ((1080+8*q:Nat):Int)=p at *;generalize wK:(aW (List.replicate 8 0)).toArray=Z8 at *;go_enter func190,ntmps190;go_wp2_with fail;refine fw (l:=[_,_]) (o:=_) (S:=λz=>z=(((w.alloc (.cells Z 195)).alloc (.cells ZN 109)).alloc (.cells ZR 254)).drew) (by kernel_rfl) rfl (by kernel_rfl) (λd _ _ _ _ h=>by cases d<;>exact h) rfl (by kernel_rfl) (by kernel_rfl) ?_;repeat (refine aK.cons ?_ (bc.val rfl ?h) ?_;(case h=>(intro z J;go_simp;rfl));simp only[Act.put,ag,ah,ai])
   refine aK.done λz J=> ?_
   subst J;refine iQ rfl (.tmp 13) (.tmp 14) 71 71 rfl _ _ rfl rfl (Zj.out _) ?_;go_wp2_with fail;refine Ww.out.mono ?_;rintro e w' ⟨rfl,rfl⟩;go_wp2_with fail;refine(ma.out _ iU.out).mono ?_;rintro e w2 ⟨rfl,ac⟩;obtain⟨w3,ak,DD,aM⟩:=bB (P:= prog) (ty:= 195) (cs:=aW row) (by rw[bp,aJ.out];exact ja) (bh.new w2 Z8 195) (by rw[<-wK];simp[bp,aJ.out]) (fh _);have OV:w.heap.size+1+1<w2.heap.size:=bL af.out.lt ac.size;have bn:az [] w (w3.drew):=((((iU.out.trans' ac).alloc (.cells Z8 195)).trans aM (by intro x J;rw[ay] at J;have :=iU.out.size;have :=ac.size;omega))).drew;have bl:=((af.out.keep ac (by simp)).alloc (.cells Z8 195)).keep aM (by rw[ay];omega);have br:=((tM.out.keep ac (by simp)).alloc (.cells Z8 195)).keep aM (by rw[ay];omega);obtain⟨v4,wA,Wx,bk,aP⟩:=Ff (o:=5) (n:=8) (cap:=8) (so:=0) (m:=8) (mc:=8) bl.drew DD.drew (by omega) (by simp[hr]) (by have :=aJ.out;omega);have Q0:((r.drop 2).take 5++List.replicate 8 (0:Int)).take 5++(row.drop 0).take 8++((r.drop 2).take 5++List.replicate 8 (0:Int)).drop (5+8)=dv (aA B ps) r:=by
    rw[bC.out];exact JX _ _ (by simp[hr]) aJ.out
   rw[Q0] at bk;have ae:=au bk;have ax:=au (br.drew.keep aP (by rw[ay];omega));have av:=au (bn.trans aP (by intro x J;rw[ay] at J;omega));have aO:=au ak;have bH:=au Wx;clear ak DD aM OV bn bl br Wx bk aP Q0 ac;go_wp2_with(with_reducible refine gS 195 aO.out ?_);refine fw (l:=[_,_]) (o:=_) (S:=λz=>z=w3.drew) (by kernel_rfl) rfl (by kernel_rfl) (λd _ _ _ _ h=>by cases d<;>exact h) rfl (by kernel_rfl) (by kernel_rfl) ?_;repeat (refine aK.cons ?_ (bc.val rfl ?h) ?_;(case h=>(intro z J;go_simp;rfl));simp only[Act.put,ag,ah,ai])
   refine aK.done λz J=> ?_
   subst J;refine iQ rfl (.tmp 28) (.tmp 29) 71 71 rfl _ _ rfl rfl (bH.out _) ?_;have Wu:=au (bh.new wA ZN 109);have Wv:=au (LD (ae.out.alloc (.cells ZN 109)) oo.out);have HU:Hid (∀k,k<13->(aW (dv (aA B ps) r)).toArray[k]? =some (.int .u64 ((dv (aA B ps) r).getD k 0))):=λk hk=>by rw[aF,dA (by rw[oo.out];exact hk)]
   have IG:Hid (w.heap.size+1+1<wA.heap.size):=ae.out.lt;clear ae;generalize ar:dv (aA B ps) r=G at *;have ba:=au ar;clear ar;generalize (aW G).toArray=UA at *;go_wp2_with(with_reducible refine gL 254 Wv.out ?_);clear IE Wv;go_loopg [32] 13 (λgh s32 z=>∃k:Nat,k+gh=13/\s32= .int .i64 (k:Int)/\Hid (bh z wA.heap.size (zs (dW 0 G k)).toArray 109/\bh z (w.heap.size+1) ZN 109/\(∀i,i<k->G.getD i 0<256)/\az [] w z))
   case atStart=>
    refine⟨0,by omega,rfl,?_,ax.out.alloc _,by simp,av.out.alloc _⟩;rw[kN,oo.out,GA.out];exact Wu.out
   case round=>
    clear ax av Wu;obtain⟨k,hk,rfl,HP⟩:=hrel;obtain⟨U,V,W,fK⟩:=HP.out;cases gk with
    |zero=>
     obtain rfl:k=13:=by omega
     rw[show dW 0 G 13=G by rw[<-oo.out];exact lL 0 G] at U;have aD:wA.heap.size∉[w.heap.size+1]:=by have :=IG.out;rw[ay];omega
     have pX:=au (λ(z:World) (hk:az [w.heap.size+1] wr z)=>fc (off:=0) (U.keep hk aD) oo.out (λk hk=>by rw[aX,aF,fR (by rw[oo.out];exact hk)]));have D7:Hid (∀z,bh z (w.heap.size+1) ZN 109->∃w',(storeVar 109 ⟨w.heap.size+1,0,none⟩ (.agg (zs G).toArray)).run prog z= .ok () w'/\bh w' (w.heap.size+1) (zs G).toArray 109/\az [w.heap.size+1] z w'):=λz hb=>by
      have hz:=GA.out;exact bB (P:= prog) (ty:= 109) (cs:=zs G) (by rw[eF,oo.out];exact kP) hb (by rw[<-hz,eF,oo.out];simp[eF]) (l9 _)
     have aR:Hid (∀z,bh z (w.heap.size+1) (zs G).toArray 109->(loadVar 109 ⟨w.heap.size+1,0,none⟩).run prog z= .ok (.agg (zs G).toArray) z):=λz hb=>fc (off:=0) hb oo.out (λk hk=>by rw[aX,aF,fR (by rw[oo.out];exact hk)])
     have iZ:=au fK;have zx:=au V;have bF:w.heap.size<=w.heap.size+1:=by omega
     have bv:=au (JQ G oo.out);have Fj:=au (λz=>ab3 (a:=G.drop 5) (b:=List.replicate 8 0) (by simp[oo.out]) rfl z);have LO:=LC;have bR:=JI;obtain⟨t,ht⟩:∃t,decide (G.drop 5=List.replicate 8 0)=t:=⟨_,rfl⟩;have HF:Hid (wm (aA B ps) r↔t=false):=by
      show _↔_;rw[jC.out,<-ht,decide_eq_false_iff_not];exact⟨λh=>h.2.2.resolve_left aa,λh=>⟨by omega,W,.inr h⟩⟩
     rw[ht] at Fj;have bM:=Fj.out;generalize (zs (G.drop 5)).toArray=ZD at *;generalize (zs (List.replicate 8 0)).toArray=ZE at *;clear ht Fj;clear HP U V W fK hk jC af oK tM iU aD;generalize aG:(zs G).toArray=ZA at *;have bj:=au aG;clear aG;go_wp2_with fail;refine vX (l:=[_,_,_,_,_,_,_,_,_,_,_]) (f:=_) (mid:=[_]) (o:=_) (tl:=[]) (S:=λb z=>az [w.heap.size+1] wr z/\bh z (w.heap.size+1) (cond b ZA ZN) 109) (by kernel_rfl) rfl (by kernel_rfl) (λd _ _ _ _ h=>by cases d<;>exact h) ⟨(az.refl _ _).drew,zx.out.drew⟩ (by kernel_rfl) (by kernel_rfl) ?_;repeat (first
      |(refine fG.cons (.agg ZA) (λb=>bc.load rfl 109 (.tmp 10) rfl _ rfl λz J=>pX.out z J.1) ?_;simp only[Act.put,ag,ah,ai])
      |(refine fG.cons (.agg ZD) (λb=>bc.call rfl 209 #[.agg ZA] ?he ?h) ?_;(case he=>(intro wz;go_simp));(case h=>exact λz J=>(bv.out z).mono λe w' he=>⟨he.1,J.1.trans he.2 (by simp),J.2.keep he.2 (by simp)⟩);simp only[Act.put,ag,ah,ai])
      |(refine fG.cons undef (λb=>bc.off rfl) ?_;simp only[Act.put,ag,ah,ai])
      |(refine fG.cons ?_ (λb=>bc.val rfl ?h) ?_;(case h=>(intro z J;clear J;go_simp;rfl));simp only[Act.put,ag,ah,ai]))
     refine fG.done ⟨undef,Ap.store rfl 109 (.tmp 4) (.tmp 44) rfl _ rfl _ rfl (λz J=> ?_),?_⟩
     ·obtain⟨w',h1,h2,h3⟩:=D7.out z J.2
      exact⟨w',h1,J.1.trans' h3,h2⟩
     refine aK.cons ?_ (bc.val rfl ?h) ?_;case h=>intro z J;clear J;go_simp;rfl
     simp only[Act.put,ag,ah,ai];refine aK.done λz J=> ?_
     have aU:=au (aR.out z J.2);have o8:=au (iZ.out.trans J.1 (by intro x J;rw[ay] at J;omega));clear J;go_wp2_with fail;refine aL (bU results190 rfl aU.out rfl rfl) rfl ⟨G,li,!t,?_,λh=>⟨HF.out.2 (by simpa using h),ba.out.symm,QY.out.symm⟩,λh hn=> ?_,oo.out,o8.out⟩
     ·rw[bj.out]
      show Ending.returned (.tuple #[.agg ZA,.int .i64 (IntKind.i64.wrap li),.bool !t])=_;rw[bz.out]
     ·have :=HF.out.1 hn
      rw[this] at h;cases h
    |succ gg=>
     have mC:k<13:=by omega
     have bD:(k:Int)<13:=by omega
     have dt:(0:Int)<=(k:Int):=by omega
     have Bx:=Ir mC (HU.out k mC);have bG:=aV.out k;by_cases LS:256<=G.getD k 0
     ·have HF:Hid (¬wm (aA B ps) r):=λh=>by have :=(jC.out.1 h).2.1 k mC;omega
      obtain⟨w5,Aw,Fh,j6⟩:=ot.out wr V;have Ay:=au Aw;have L5:=au Fh;have qG:=au (fK.trans j6 (by simp));clear Aw Fh j6 HP U V W fK hk;generalize G.getD k 0=x at *;go_wp2_with(with_reducible refine gS 109 Ay.out ?_);refine aL (bU results190 rfl L5.out rfl rfl) rfl ⟨List.replicate 13 0,0,false,?_,λh=>(by cases h),λ_=>HF.out,by simp,qG.out⟩;rw[GA.out];rfl
     ·have bA:wrap64 (G.getD k 0)=G.getD k 0:=by unfold wrap64;omega
      have bg:wr.cell? ⟨wA.heap.size,k,none⟩=some (.int .i64 ((dW 0 G k).getD k 0)):=by
       rw[U.cell,aF,fR (by rw[kT _ _ _ (by rw[oo.out];omega),oo.out];exact mC)]
      have bw:wr.frozen? ⟨wA.heap.size,k,none⟩=false:=U.frozen k;have HR:Hid (bh (wr.setCell ⟨wA.heap.size,k,none⟩ (.int .i64 (G.getD k 0))) wA.heap.size (zs (dW 0 G (k+1))).toArray 109/\bh (wr.setCell ⟨wA.heap.size,k,none⟩ (.int .i64 (G.getD k 0))) (w.heap.size+1) ZN 109/\(∀i,i<k+1->G.getD i 0<256)/\az [] w (wr.setCell ⟨wA.heap.size,k,none⟩ (.int .i64 (G.getD k 0)))):=by
       have bE:=IG.out;refine⟨?_,V.other (by show w.heap.size+1≠wA.heap.size;omega) _,λi hi=> ?_,fK.setCell (.inr (by show w.heap.size<=wA.heap.size;omega)) _⟩
       ·have :=U.set k (.int .i64 (G.getD k 0))
        rw[ag,OE,kO 0 G k (by rw[oo.out];exact mC) (G.getD k 0) (by simp[show k<G.length by rw[oo.out];exact mC])] at this;exact this
       ·by_cases e:i=k
        ·subst e;omega
        ·exact W i (by omega)
      clear HP U V W fK;generalize G.getD k 0=x at *;generalize (dW 0 G k).getD k 0=y at *;go_wp2_with fail;go_roundg gg;case measure=>omega
      case rel=>exact⟨k+1,by omega,by go_num,HR.out⟩
end Go.Proofs.YtepbpdipenedhaaGreatDoor
