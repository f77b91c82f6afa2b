/- Lemmas. -/
import Derived.Test.YtepbpdipenedhaaGreatDoorM05
import Derived.Deep.DeepCutAuto
set_option maxHeartbeats 8000000
set_option maxRecDepth 100000
namespace Go.Proofs.YtepbpdipenedhaaGreatDoor
open Go.Proofs.Tryz
open Go.RowKit
variable{w:World}{T W b cap g gp n o:Nat}{v:Value}{B h z:List Int}{E:List (ByteArray×Int)}{ps:List (Int×Int)}
def pH (n:bT):Nat->Nat
 |0=>if 6<(fu n.B).length then 1 else 0
 |k+1=>pH n k+((eB n.E k).length+2)/3
def eW (n:bT):Nat:=pH n 4
theorem CF (n:bT)(h:n.E.length<=10000):∀k,pH n k<=1+k*4000
 |0=>by unfold pH;split<;>omega
 |k+1=>by
  unfold pH;have :=CF n h k;have :=kG n.E k;omega
theorem Gc (S:Nat->Value){k:Nat}(h:k<4)(w:World):(Instr.index 265 (.agg (pG S)) (.int .i64 (k:Int))).run prog w= .ok (S k) w:=by
 rcases (show k=0\/k=1\/k=2\/k=3 by omega) with rfl|rfl|rfl|rfl
 all_goals (show Sem.run _ _ _=_;kernel_rfl)
theorem Gd (n:bT)(v:Value)(g:Nat)(hB:n.B.length=13)(w:World)(hE:bD w v g n.E)(U:n.E.length<=10000)(ac:∀k,k<n.E.length->(eX n.E k).size<=9223372036854775807):
  Calls prog 199 #[aM n v] w λe w'=>e=((if cm n then eW n else 0:Nat):Int)/\ay [] w w':=by
 have HR:Hid (∀G,ay [] w G->Calls prog 96 #[aM n v] G λe w'=>e=(decide (cm n))/\ay [] G w'):=λG J=>oz n v g hB G (hE.keep J (by simp)) ac
 have xA:=ar (λG=>K4 n.B hB G);have xB:Hid (∀G,ay [] w G->Calls prog 216 #[v] G (wF G n.E)):=λG J=>JS (hE.keep J (by simp)) U ac
 have W:=bh.new w (aM n v) 111;have fI:Hid (ay [] w (w.alloc (.cells (aM n v) 111))):=(ay.refl [] w).alloc _;have uY:=ar (b9 W hB);have sf:Hid (∀G,ay [] (w.alloc (.cells (aM n v) 111)) G->(loadVar 109 ⟨w.heap.size,4,none⟩).run prog G= .ok (.agg (zs n.B).toArray) G):=λG J=>fA (off:=4) (W.keep J (by simp)) hB λk J=>Cx _ (by omega)
 have K8:Hid (∀G,ay [] (w.alloc (.cells (aM n v) 111)) G->G.cell? ⟨w.heap.size,17,none⟩=some v):=λG J=>by rw[(W.keep J (by simp)).cell];exact Ak _ hB
 have aI:Hid ((fu n.B).length<=13):=mB n.B 13;have aD:Hid (∀k,(eB n.E k).length<=10000):=λk=>cE (kG _ _) U
 have aC:=ar (λk=>CF n U k);have ak:Hid (∀k,pH n (k+1)=pH n k+((eB n.E k).length+2)/3):=λ_=>rfl
 have aj:Hid (pH n 0=if 6<(fu n.B).length then 1 else 0):=rfl;clear W hE ac U;generalize aM n v=Z,(zs n.B).toArray=ZB at *;by_cases hR:cm n
 ·rw[bu hR] at HR
  rw[aB hR];clear hR;unfold eW;generalize fu n.B=R at *;go_in;go_wp2_with(with_reducible refine gL 111 uY.out ?_);refine Rr (HR.out _ fI.out) λw1 V=> ?_;obtain⟨jK,xw⟩:=hh2 V (sf.out w1 V);clear V;go_wp2_with(with_reducible refine gL 109 xw.out ?_);refine(xA.out _).mono ?_;rintro e w2 ⟨va,ga,rfl,JT,xp,ae⟩;obtain⟨aa,ca,rfl,-,-,-⟩:=fV JT;have fx:=ar (jK.out.trans' ae);have aF:=K8.out w2 fx.out;clear JT xp ae;generalize ax:R.length=m at *;have HZ:=aj.out;clear ax;obtain⟨d,hd⟩:∃d,d=pH n 0:=⟨_,rfl⟩;rw[<-hd] at HZ;have HD:=ar hd;clear hd aj;by_cases h6:6<m;rw[aB h6] at HZ;have ag:(6:Int)<(m:Int):=by omega
  rotate_left
  rw[aA h6] at HZ;have ag:¬(6:Int)<(m:Int):=by omega
  rotate_left
  all_goals
   have av:=ar HZ;clear HZ;go_wp2_with fail;refine(xB.out _ (fI.out.trans' fx.out)).mono ?_;rintro e w3 ⟨S,rfl,af,hS⟩;have oI:=ar (fI.out.trans' (fx.out.trans' af));have au:Hid (∀k,k<4->∃a c,S k= .slice a (eB n.E k).length c):=λk J=>by
    obtain⟨g,⟨a,c,h,-⟩,-⟩:=hS k J;exact⟨a,c,h⟩
   have Iv:=λk (J:k<4) G=>Gc S J G
   clear hS af aF;generalize (Value.agg (pG S))=ZS at *;go_wp2_with fail;clear ag;go_loopg [3,19] 4 (λgh s3 s19 G=>∃k:Nat,k+gh=4/\s19= .int .i64 (k:Int)/\s3= .int .i64 ((pH n k:Nat):Int)/\G=w3)
   case atStart=>exact⟨0,by omega,rfl,by rw[<-HD.out,av.out];rfl,rfl⟩
   case round=>
    obtain⟨k,J,rfl,rfl,rfl⟩:=hrel;cases gk with
    |zero=>
     obtain rfl:k=4:=by omega
     clear J Iv;go_wp2_with fail;go_ret;exact⟨rfl,oI.out⟩
    |succ gg=>
     have ai:k<4:=by omega
     have aJ:(k:Int)<4:=by omega
     have cJ:(0:Int)<=(k:Int):=by omega
     have az:=Iv k ai wr;obtain⟨a,c,ah⟩:=au.out k ai;rw[ah] at az;have hl:=aD.out k;have aH:=aC.out k;obtain⟨Sy,Mf⟩:=hh2 (ak.out k) (Bi (eB n.E k).length 3 (by omega) (by omega) (by omega));generalize (eB n.E k).length=q at *;rw[show q+3-1=q+2 by omega] at Mf;have aG:(q+2)/3<=4000:=by omega
     generalize (q+2)/3=z,pH n k=y at *;clear Iv ah;go_wp2_with fail;refine C' (Mf.out _) ?_;go_wp2_with fail;go_roundg gg;case measure=>omega
     case rel=>exact⟨k+1,by omega,by go_num,by rw[Sy.out];go_num,rfl⟩
 ·rw[aQ hR] at HR
  rw[aA hR];clear hR;go_in;go_wp2_with(with_reducible refine gL 111 uY.out ?_);refine Rr (HR.out _ fI.out) λw1 V=> ?_;have jK:=ar (fI.out.trans' V);clear V;go_wp2_with fail;go_ret;exact⟨rfl,jK.out⟩
def K9 (E:List (ByteArray×Int)) (f i:Nat):Int:=if i%2=0 then ((kZ (bl (eX E (f+i/2))):Nat):Int) else jq E (f+i/2)
def zR (E:List (ByteArray×Int)) (f j:Nat):List Int:=(List.range 8).map λi=>if i<2*j then K9 E f i else 0
def jn (E:List (ByteArray×Int)) (k:Nat):List Int:=zR E (4*k) (min 4 (E.length-4*k))
theorem mW (E:List (ByteArray×Int))(f j:Nat):(zR E f j).length=8:=by simp[zR]
theorem qq (E:List (ByteArray×Int))(f j i:Nat)(h:i<8):(zR E f j).getD i 0=if i<2*j then K9 E f i else 0:=by
 rw[zR,aj,bJ,cB h];rfl
theorem Ge:(prog.info? 87).map (·.size)=some 2:=by kernel_rfl
theorem IU (g off n cap f h:Nat)(W:f<cap)(J:f<=h)(V:h<=cap)(w:World):
  (Instr.sliceAt 32 (.slice (some ⟨g,off,none⟩) n cap) (some (.int .i64 (f:Int))) (some (.int .i64 (h:Int))) none).run prog w= .ok (.slice (some ⟨g,off+f*2,none⟩) (h-f) (cap-f)) w:=by
 have z: prog.underlying 32 =some (.slice (prog.elem 32)):=by kernel_rfl
 have G: prog.elem 32 = 87 :=by kernel_rfl
 have U:(sizeOf 87).run prog w= .ok 2 w:=by kernel_rfl
 rw[run_sliceAt_slice _ _ _ _ _ _ z,run_slice_lh _ _ _ _ _ z .i64 .i64 (f:Int) (h:Int) (by omega) (by omega) (by omega),G,U];simp only[cL,sliced,aG];rw[aA];simp[add_plain]
theorem wG (b:Nat)(w:World):(Instr.sliceAt 195 (.pointer (some ⟨b,0,none⟩)) none none none).run prog w= .ok (.slice b 8 8) w:=by show Sem.run _ _ _=_;kernel_rfl
theorem qu (U:bh w b (aY z).toArray T)(hs:Reads w v W (aY h))(hm:h.length<=n)(aa:o+h.length<=z.length):
  ∃r w',(∀ty,(Builtin.copy_ #[71,71] ty #[.slice (some ⟨b,o,none⟩) n cap,v]).run prog w= .ok r w')/\bh w' b (aY (z.take o++h++z.drop (o+h.length))).toArray T/\ay [b] w w':=by
 obtain⟨a,c,rfl,h1,h2,HC⟩:=fV hs;by_cases h0:h.length=0
 ·obtain rfl:=bo h0
  refine⟨_,w,λty=>run_copy_none (P:= prog) w 71 71 ty 56 _ a n cap 0 c underlying71 qL (by simp),?_,ay.refl _ _⟩;rw[br,cC,dB,dn];exact U
 ·obtain⟨hg,off,rfl,-⟩:=HC.out 0 (by omega)
  have hl:(aY h).length=min h.length n:=by rw[bB];omega
  refine⟨_,_,λty=>run_copy_row (P:= prog) w 71 71 ty 56 b o n cap ⟨W,off,none⟩ h.length c (aY z).toArray T (aY h) underlying71 qL U hl ?_ ?_ ?_,?_,(ay.refl _ _).setRow (by simp) _⟩
  ·intro j u G
   have hj:j<h.length:=by
    have :=(List.getElem?_eq_some_iff.1 G).1;rwa[bB] at this
   obtain⟨-,V,J,hc⟩:=HC.out j hj;cases J;rw[dO hj] at G;rw[add_plain,hc,<-G]
  ·rw[bN,bB,bB];omega
  ·exact λu G=>fh _ u G
  ·have e:((aY z).toArray.toList.take o++aY h++(aY z).toArray.toList.drop (o+(aY h).length)).toArray=(aY (z.take o++h++z.drop (o+h.length))).toArray:=by
    rw[bB];simp[aY,List.map_drop]
   rw[e];exact kv U
theorem bD.sub{off:Nat}(h:bD w (.slice (some ⟨g,off,none⟩) n cap) g E)(hn:n=E.length)(f c:Nat)(aa:f+c<=n):bD w (.slice (some ⟨g,off+f*2,none⟩) c (cap-f)) g ((E.drop f).take c):=by
 obtain⟨a,J,hv,h1,h2,W⟩:=h;cases hv;have z:((E.drop f).take c).length=c:=by rw[aJ,bM];omega
 refine⟨_,cap-f,by rw[z],by omega,by omega,λV=> ?_⟩;rw[z] at V;obtain⟨hg,G,ho,hc⟩:=W (by omega);cases ho;refine⟨hg,_,rfl,λj U=> ?_⟩;rw[z] at U;obtain⟨c0,c1⟩:=hc (f+j) (by omega);have e:((E.drop f).take c).getD j (ByteArray.empty,0)=E.getD (f+j) (ByteArray.empty,0):=by
  simp[U]
 rw[show off+f*2+j*2=off+(f+j)*2 by omega,eX,jq,e];exact⟨c0,c1⟩
theorem Bj (E:List (ByteArray×Int))(f c k:Nat)(h:k<c):eX ((E.drop f).take c) k=eX E (f+k)/\jq ((E.drop f).take c) k=jq E (f+k):=by
 have e:((E.drop f).take c).getD k (ByteArray.empty,0)=E.getD (f+k) (ByteArray.empty,0):=by
  simp[h]
 rw[eX,jq,e];exact⟨rfl,rfl⟩
theorem x8.sub(h:x8 E)(f c:Nat)(J:f+c<=E.length):x8 ((E.drop f).take c):=by
 have G:((E.drop f).take c).length=c:=by rw[aJ,bM];omega
 refine⟨by rw[G];have :=h.len;omega,λk z=> ?_,λk z=> ?_⟩
 ·rw[G] at z
  rw[(Bj E f c k z).1];exact h.size _ (by omega)
 ·rw[G] at z
  rw[(Bj E f c k z).2];exact h.ino _ (by omega)
theorem Ng (E:List (ByteArray×Int))(f j:Nat)(hj:j<=4)(h:f+j<=E.length):zR E f j=eQ ((E.drop f).take j)++List.replicate (8-2*j) 0:=by
 have z:((E.drop f).take j).length=j:=by rw[aJ,bM];omega
 refine DK (by rw[mW,aC,lf,z,bE];omega) λi U=> ?_
 rw[mW] at U;rw[qq _ _ _ _ U];by_cases J:i<2*j
 ·rw[aB J,aj,ba (by rw[lf,z];omega),<-aj]
  obtain⟨w0,V⟩:=wE ((E.drop f).take j) (i/2) (by omega);obtain⟨e0,W⟩:=Bj E f j (i/2) (by omega);unfold K9;by_cases G:i%2=0
  ·rw[aB G,<-e0,<-w0,show i/2*2=i by omega]
  ·rw[aA G,<-W,<-V,show i/2*2+1=i by omega]
 ·rw[aA J,aj,aR (by rw[lf,z];omega),bj]
  split<;>rfl
theorem DW (hE:bD w v g E)(ho:x8 E)(k:Nat)(hk:4*k<E.length):
  Calls prog 196 #[v,(k:Int)] w λe w'=>e=(aY (jn E k)).toArray/\ay [] w w':=by
 obtain⟨a,cap,rfl,aH,ax,zA⟩:=hE.open;obtain⟨hg,off,rfl,-,-⟩:=zA.out _ hk;unfold maxLen at ax;have aK:=ho.len;obtain⟨c,hc⟩:∃c,c=min 4 (E.length-4*k):=⟨_,rfl⟩;have aG:c<=4:=by omega
 unfold jn;rw[<-hc];obtain⟨f,hf⟩:∃f,f=4*k:=⟨_,rfl⟩;rw[<-hf] at hk hc ⊢;have aL:(k:Int)*4=(f:Int):=by omega
 have ai:=λV=>IU g off E.length cap f (f+c) (by omega) (by omega) (by omega) V
 rw[show f+c-f=c by omega] at ai;have aA:Hid (∀H:Int,H=(f:Int)+(c:Int)->∀V,(Instr.sliceAt 32 (.slice (some ⟨g,off,none⟩) E.length cap) (some (.int .i64 (f:Int))) (some (.int .i64 H)) none).run prog V= .ok (.slice (some ⟨g,off+f*2,none⟩) c (cap-f)) V):=λH hH V=>by
  have :=ai V;rw[show((f+c:Nat):Int)=H by omega] at this;exact this
 have aM:=lj;obtain⟨H,hH,aC⟩:∃H:Int,H=(f:Int)+(c:Int)/\((((f:Int)+4<=(E.length:Int))/\H=(f:Int)+4)\/((E.length:Int)<(f:Int)+4/\H=(E.length:Int))):=⟨_,rfl,by omega⟩;have aB:=aA.out H hH;have af:f+c<=E.length:=by omega
 obtain⟨av,ak,az⟩:=hh3 (hE.sub rfl f c af) (ho.sub f c af) (Ng E f c aG af);have aa:Hid ((eQ ((E.drop f).take c)).length=2*c):=by
  show _=_;rw[lf,aJ,bM];omega
 have CE:=ar (mW E f c);have Gf:Hid (∀V,ay [] w V->Calls prog 212 #[.slice (some ⟨g,off+f*2,none⟩) c (cap-f)] V (jN V (eQ ((E.drop f).take c)))):=λV hk=>zP (av.out.keep hk (by simp)) ak.out
 generalize eQ ((E.drop f).take c)=WE at *;have aN:=wG (w.heap.size+1);obtain⟨W0,ae⟩:∃W0,W0=(w.alloc (.cells (aY (List.replicate 8 0)).toArray 195)).alloc (.cells (aY (List.replicate 8 0)).toArray 195):=⟨_,rfl⟩;have zN:Hid (bh W0 (w.heap.size+1) (aY (List.replicate 8 0)).toArray 195):=by
  have :=bh.new (w.alloc (.cells (aY (List.replicate 8 0)).toArray 195)) (aY (List.replicate 8 0)).toArray 195;have e:(w.alloc (.cells (aY (List.replicate 8 0)).toArray 195)).heap.size=w.heap.size+1:=by simp
  rw[e,<-ae] at this;exact this
 have oQ:Hid (bh W0 w.heap.size (aY (List.replicate 8 0)).toArray 195):=by
  rw[ae];exact(bh.new w _ _).alloc _
 have HK:Hid (ay [] w W0):=by
  rw[ae];exact((ay.refl _ _).alloc _).alloc _
 have ru:=ar ae;clear hE ho ai aA hf hc ae av ak aB;generalize wC:(aY (List.replicate 8 0)).toArray=Z8 at *;have aj:Hid (∀V,ay [] W0 V->bh V (w.heap.size+1) (aY (List.replicate 8 0)).toArray 195):=λV hk=>by rw[wC];exact zN.out.keep hk (by simp)
 have xJ:Hid (Z8.size=8):=by rw[<-wC];rfl
 clear wC zN;generalize E.length=n at *;rcases aC with ⟨aF,rfl⟩|⟨aF,rfl⟩
 ·obtain rfl:c=4:=by omega
  have aD:IntKind.i64.wrap ((f:Int)+4)=(f:Int)+4:=fR _ (by omega);have h1:(0:Int)<=(f:Int)+4:=by omega
  have h2:(f:Int)+4<=(cap:Int):=by omega
  have h3:((f:Int)+4).toNat=f+4:=by omega
  have h4:¬cap=f:=by omega
  clear hH af;go_in;go_wp2_with fail;rw[<-ru.out];go_region_with (go_at_call 212;refine(Gf.out _ HK.out.drew).mono ?_;rintro e w1 ⟨v1,g1,rfl,U,ah,h⟩;obtain⟨vc,w2,zS,W,J⟩:=qu (o:=0) (n:=8) (cap:=8) (aj.out _ ((ay.refl _ _).drew.trans' h)) U (by have :=aa.out;omega) (by rw[bE];have :=aa.out;omega);(have Nh:=zS 3);obtain⟨a1,c1,rfl,-,-,-⟩:=fV U)
  have z:(List.replicate 8 (0:Int)).take 0++WE++(List.replicate 8 (0:Int)).drop (0+WE.length)=zR E f 4:=by
   rw[az.out,aa.out,ez,bQ,bc,jD]
  rw[z] at W;have HL:=ar (fM W CE.out);have G:bh w2 w.heap.size Z8 195 :=(oQ.out.drew.keep h (by simp)).keep J (by simp);obtain⟨w3,hS,ag,ac⟩:=bH (P:= prog) (ty:= 195) (cs:=aY (zR E f 4)) (by rw[bB,CE.out];exact jc) G (by rw[xJ.out,bB,CE.out]) (fh _);obtain⟨HS,rN⟩:=hh2 hS (fM ag CE.out);have jA:Hid (ay [] w w3):=(((HK.out.drew.trans' h).trans J (by intro x hx;rw[au] at hx;omega))).trans ac (by intro x hx;rw[au] at hx;omega);clear z W G hS ag ac zS Nh h J ah U;go_wp2_with(with_reducible first|refine gL 195 HL.out ?_|refine gS 195 HS.out ?_);exact aI (bA results196 rfl rN.out) rfl ⟨rfl,jA.out⟩
 ·have aD:IntKind.i64.wrap ((f:Int)+4)=(f:Int)+4:=fR _ (by omega)
  have h2:n<=cap:=by omega
  have h3:f<=n:=by omega
  have h4:¬cap=f:=by omega
  have h5:n-f=c:=by omega
  clear hH af;go_in;go_wp2_with fail;rw[<-ru.out];go_region_with (go_at_call 212;refine(Gf.out _ HK.out.drew).mono ?_;rintro e w1 ⟨v1,g1,rfl,U,ah,h⟩;obtain⟨vc,w2,zS,W,J⟩:=qu (o:=0) (n:=8) (cap:=8) (aj.out _ ((ay.refl _ _).drew.trans' h)) U (by have :=aa.out;omega) (by rw[bE];have :=aa.out;omega);(have Nh:=zS 3);obtain⟨a1,c1,rfl,-,-,-⟩:=fV U)
  have z:(List.replicate 8 (0:Int)).take 0++WE++(List.replicate 8 (0:Int)).drop (0+WE.length)=zR E f c:=by
   rw[az.out,aa.out,ez,bQ,bc,jD]
  rw[z] at W;have HL:=ar (fM W CE.out);have G:bh w2 w.heap.size Z8 195 :=(oQ.out.drew.keep h (by simp)).keep J (by simp);obtain⟨w3,hS,ag,ac⟩:=bH (P:= prog) (ty:= 195) (cs:=aY (zR E f c)) (by rw[bB,CE.out];exact jc) G (by rw[xJ.out,bB,CE.out]) (fh _);obtain⟨HS,rN⟩:=hh2 hS (fM ag CE.out);have jA:Hid (ay [] w w3):=(((HK.out.drew.trans' h).trans J (by intro x hx;rw[au] at hx;omega))).trans ac (by intro x hx;rw[au] at hx;omega);clear z W G hS ag ac zS Nh h J ah U;go_wp2_with(with_reducible first|refine gL 195 HL.out ?_|refine gS 195 HS.out ?_);exact aI (bA results196 rfl rN.out) rfl ⟨rfl,jA.out⟩
def dZ (X:List Int) (p:Nat):List Int:=(List.range 8).map λj=>X.getD (p+j) 0
theorem iG (X:List Int)(p:Nat):(dZ X p).length=8:=by simp[dZ]
theorem kH (X:List Int)(p k:Nat)(h:k<8):(dZ X p).getD k 0=X.getD (p+k) 0:=by
 rw[dZ,aj,bJ,cB h];rfl
def jT (p:Nat) (l:List Int) (k:Nat):List (Int×Int):=(List.range k).map λj=>(((p+j:Nat):Int),l.getD j 0)
theorem Ao (p:Nat)(l:List Int)(k:Nat):jT p l (k+1)=jT p l k++[(((p+k:Nat):Int),l.getD k 0)]:=by
 unfold jT;rw[dU,eu];rfl
theorem oY (p:Nat)(l:List Int)(k:Nat):(jT p l k).length=k:=by simp[jT]
theorem pI (h:eK w b gp B ps)(p:Nat)(hp:p+8<=3128):
  Calls prog 141 #[b,(p:Int)] w λe w'=>e=(aY (dZ (az B ps) p)).toArray/\ay [] w w':=by
 have vZ:=ar h;have V:=iG (az B ps) p;have ED:Hid (∀(k:Nat) J,k<8->ay [] w J->Calls prog 127 #[b,.int .i64 ((p:Int)+(k:Int))] J λe w'=>e= .returned (.int .u64 ((dZ (az B ps) p).getD k 0))/\J=w'):=λk J hk fW=>by
  have :=pz (vZ.out.keep fW (by simp) (by simp)) ((p:Int)+(k:Int));unfold A5 at this;rw[aB,show((p:Int)+(k:Int)).toNat=p+k by omega,<-kH _ p k hk] at this;exact this
 have xJ:(aY (List.replicate 8 0)).toArray=(aY (dS 0 (dZ (az B ps) p) 0)).toArray:=by rw[lJ,V]
 clear h;generalize dZ (az B ps) p=d at *;obtain⟨W,z⟩:∃W,W=(w.alloc (.cells (aY (List.replicate 8 0)).toArray 195)).alloc (.cells (aY (List.replicate 8 0)).toArray 195):=⟨_,rfl⟩;have oQ:Hid (bh W w.heap.size (aY (List.replicate 8 0)).toArray 195):=by
  have :=(bh.new w (aY (List.replicate 8 0)).toArray 195).alloc (.cells (aY (List.replicate 8 0)).toArray 195);rw[<-z] at this;exact this
 have qI:Hid (bh W (w.heap.size+1) (aY (dS 0 d 0)).toArray 195):=by
  have :=bh.new (w.alloc (.cells (aY (List.replicate 8 0)).toArray 195)) (aY (List.replicate 8 0)).toArray 195;have e:(w.alloc (.cells (aY (List.replicate 8 0)).toArray 195)).heap.size=w.heap.size+1:=by simp
  rw[e,<-z,xJ] at this;exact this
 have HK:Hid (ay [] w W):=by
  show ay _ _ _;rw[z];exact((ay.refl [] w).alloc _).alloc _
 have af:=lj;clear xJ vZ;generalize wC:(aY (List.replicate 8 0)).toArray=Z8 at *;go_in;go_wp2_with fail;rw[<-z];go_loopg [7] 8 (λgh s7 J=>∃k:Nat,k+gh=8/\s7= .int .i64 (k:Int)/\Hid (bh J (w.heap.size+1) (aY (dS 0 d k)).toArray 195/\bh J w.heap.size Z8 195/\ay [] w J))
 case atStart=>exact⟨0,by omega,rfl,qI.out,oQ.out,HK.out⟩
 case round=>
  clear oQ qI HK af z;obtain⟨k,hk,rfl,G⟩:=hrel;cases gk with
  |zero=>
   obtain rfl:k=8:=by omega
   have U:=G.out.1;rw[show dS 0 d 8=d by rw[<-V];exact mz 0 d] at U;have HL:=ar (fM U V);obtain⟨w2,hS,ac,aa⟩:=bH (P:= prog) (ty:= 195) (cs:=aY d) (by rw[bB,V];exact jc) G.out.2.1 (by rw[<-wC];simp[bB,V]) (fh _);obtain⟨HS,rN,jA⟩:=hh3 hS (fM ac V) (G.out.2.2.trans aa (by simp));clear hS U ac aa G hk;go_wp2_with(with_reducible first|refine gL 195 HL.out ?_|refine gS 195 HS.out ?_);exact aI (bA results141 rfl rN.out) rfl ⟨rfl,jA.out⟩
  |succ gg=>
   have uR:k<8:=by omega
   have ai:(k:Int)<8:=by omega
   have cJ:(0:Int)<=(k:Int):=by omega
   have HC:=ar (ED.out k wr uR G.out.2.2);have ae:wr.cell? ⟨w.heap.size+1,k,none⟩=some (.int .u64 ((dS 0 d k).getD k 0)):=by
    rw[G.out.1.cell,aF,dO (by rw[lR _ _ _ (by omega)];omega)]
   have hf:wr.frozen? ⟨w.heap.size+1,k,none⟩=false:=G.out.1.frozen k;have HB:Hid (bh (wr.setCell ⟨w.heap.size+1,k,none⟩ (.int .u64 (d.getD k 0))) (w.heap.size+1) (aY (dS 0 d (k+1))).toArray 195):=by
    have :=G.out.1.set k (.int .u64 (d.getD k 0));rw[ag,mI,lK 0 d k (by omega) (d.getD k 0) (by simp[show k<d.length by omega])] at this;exact this
   have ah:Hid (bh (wr.setCell ⟨w.heap.size+1,k,none⟩ (.int .u64 (d.getD k 0))) w.heap.size Z8 195):=G.out.2.1.other (by simp) _;have jA:=ar G.out.2.2;clear G;generalize d.getD k 0=x,(dS 0 d k).getD k 0=y at *;go_wp2_with fail;refine C' HC.out ?_;go_wp2_with fail;go_roundg gg;case measure=>omega
   case rel=>exact⟨k+1,by omega,by go_num,HB.out,ah.out,jA.out.setCell (by simp) _⟩
theorem sk{J:Nat}(h:eK w b J B ps)(hn:ps.length<=900000)(p:Nat)(hp:p+8<=3128)(l:List Int)(hl:l.length=8):
  Calls prog 195 #[b,(p:Int),(aY l).toArray] w (jU w b J B (ps++jT p l 8)):=by
 have HL:Hid ((loadVar 195 w.heap.size).run prog (w.alloc (.cells (aY l).toArray 195))= .ok (.agg (aY l).toArray) (w.alloc (.cells (aY l).toArray 195))):=fM (bh.new w _ _) hl;have HX:Hid (∀k,k<8->(aY l).toArray[k]? =some (.int .u64 (l.getD k 0))):=λk hk=>by rw[aF,dO (by omega)]
 have fI:Hid (ay [b,J] w (w.alloc (.cells (aY l).toArray 195))):=(ay.refl _ w).alloc _;have vZ:=ar (h.keep ((ay.refl [] w).alloc (.cells (aY l).toArray 195)) (by simp) (by simp));clear h;generalize (aY l).toArray=Z at *;go_in;go_wp2_with(with_reducible refine gL 195 HL.out ?_);go_loopg [9] 8 (λgh s9 wx=>∃k:Nat,k+gh=8/\s9= .int .i64 (k:Int)/\Hid (∃z,(z=J\/(w.heap.size<=z/\z<wx.heap.size))/\eK wx b z B (ps++jT p l k)/\ay [b,J] w wx))
 case atStart=>exact⟨0,by omega,rfl,J,.inl rfl,by rw[show jT p l 0=[] from rfl,br];exact vZ.out,fI.out⟩
 case round=>
  clear vZ fI HL;obtain⟨k,hk,rfl,HP⟩:=hrel;obtain⟨z,Ew,G,fW⟩:=HP.out;cases gk with
  |zero=>
   obtain rfl:k=8:=by omega
   have HE:Hid (jU w b J B (ps++jT p l 8) (.returned (.tuple #[])) wr):=⟨rfl,z,Ew,G,fW⟩;clear HP Ew G fW hk;go_wp2_with fail;go_end0;exact HE.out
  |succ gg=>
   have uR:k<8:=by omega
   have ae:(k:Int)<8:=by omega
   have cJ:(0:Int)<=(k:Int):=by omega
   have Iv:=XA uR (HX.out k uR);have U:Ai (ps++jT p l k) ((p:Int)+(k:Int)) (l.getD k 0)=ps++jT p l (k+1):=by
    rw[Ai,aB (by rw[uh];omega),Ao,aV,Int.natCast_add]
   have HC:=pA G (by rw[aC,oY];omega) ((p:Int)+(k:Int)) (l.getD k 0);rw[U] at HC;obtain⟨HC,HG,jA⟩:=hh3 HC Ew fW;clear HP Ew G fW U;generalize l.getD k 0=x at *;go_wp2_with fail;refine Rr HC.out ?_;rintro w2 ⟨lS,aa,W,V⟩;have HR:Hid (∃z,(z=J\/(w.heap.size<=z/\z<w2.heap.size))/\eK w2 b z B (ps++jT p l (k+1))/\ay [b,J] w w2):=by
    have ac:=jA.out.size;have Um:=V.size;refine⟨lS,?_,W,jA.out.trans V λx hx=> ?_⟩
    ·rcases HG.out with h|h<;>rcases aa with h2|h2<;>omega
    ·simp only[aL,aK,bC] at hx ⊢
     rcases HG.out with h|h<;>omega
   clear aa W V;go_wp2_with fail;go_roundg gg;case measure=>omega
   case rel=>exact⟨k+1,by omega,by go_num,HR.out⟩
def x9 (l:List Int) (e:Nat):Nat:=1080+8*(l.getD (e/4) 0).toNat+2*(e%4)
def Bk (X l:List Int) (e:Nat):Nat:=(X.getD (x9 l e) 0).toNat
def zB (X l:List Int) (e:Nat):Int:=X.getD (x9 l e+1) 0
def sV (X l:List Int) (m:Nat):List (ByteArray×Int):=(List.range m).map λe=>(xz ((kN (Bk X l e)).getD []),zB X l e)
theorem qw (X l:List Int)(m:Nat):(sV X l m).length=m:=by simp[sV]
theorem CG (X l:List Int)(m e:Nat)(h:e<m):eX (sV X l m) e=xz ((kN (Bk X l e)).getD [])/\jq (sV X l m) e=zB X l e:=by
 have :(sV X l m).getD e (ByteArray.empty,0)=(xz ((kN (Bk X l e)).getD []),zB X l e):=by
  rw[sV,aj,bJ,cB h];rfl
 rw[eX,jq,this];exact⟨rfl,rfl⟩
theorem Gg (E:List (ByteArray×Int))(n e:Nat)(h:e<n):eX (E.take n) e=eX E e/\jq (E.take n) e=jq E e:=by
 have :(E.take n).getD e (ByteArray.empty,0)=E.getD e (ByteArray.empty,0):=by simp[h]
 rw[eX,jq,this];exact⟨rfl,rfl⟩
theorem Ni (E:List (ByteArray×Int))(k c:Nat)(J:c=min 4 (E.length-4*k))(V:4*k<E.length):jn (E.take (4*k+c)) k=jn E k:=by
 unfold jn;rw[aJ,show min 4 (min (4*k+c) E.length-4*k)=c by omega,<-J];refine DK (by rw[mW,mW]) λi z=> ?_
 rw[mW] at z;rw[qq _ _ _ _ z,qq _ _ _ _ z];by_cases h:i<2*c
 ·rw[aB h,aB h]
  obtain⟨U,G⟩:=Gg E (4*k+c) (4*k+i/2) (by omega);rw[K9,K9,U,G]
 ·rw[aA h,aA h]
def JU (X l:List Int) (m k:Nat):Prop:=
 l.getD k 0≠0/\(∀j,j<min 4 (m-4*k)->(kN (Bk X l (4*k+j))).isSome=true/\zB X l (4*k+j)<32)/\jn (sV X l m) k=dZ X (1080+8*(l.getD k 0).toNat)
def pJ (X l:List Int) (m:Nat):Prop:=m<=24/\l=jm l (bp m)/\∀k,k<bp m->JU X l m k
theorem Un (l:List Int)(k j:Nat)(h:j<4):x9 l (4*k+j)=1080+8*(l.getD k 0).toNat+2*j:=by
 rw[x9,show(4*k+j)/4=k by omega,show(4*k+j)%4=j by omega]
theorem Qp{l:List Nat}(h:kN W=some l):l.length<=7/\(∀c∈l,c<256)/\iy l=true/\rK l=W:=by
 unfold kN at h;split at h
 ·rename_i hc
  cases h;exact⟨by rw[aJ];omega,λc z=>Sc W c (bO z),hc.2.1,hc.2.2⟩
 ·cases h
theorem CH (W:Nat):(xz ((kN W).getD [])).size<=7:=by
 rw[JG];cases h:kN W with
 |none=>simp
 |some l=>exact(Qp h).1
theorem Gh{U Ts so m mc:Nat}(W:bh w b (aY h).toArray T)(hs:bh w U (aY z).toArray Ts)(hm:m<=n)(V:o+m<=h.length)(aa:so+m<=z.length):
  ∃v w',(∀ty,(Builtin.copy_ #[71,71] ty #[.slice (some ⟨b,o,none⟩) n cap,.slice (some ⟨U,so,none⟩) m mc]).run prog w= .ok v w')/\bh w' b (aY (h.take o++(z.drop so).take m++h.drop (o+m))).toArray T/\ay [b] w w':=by
 have J:(aY ((z.drop so).take m)).length=min m n:=by rw[bB,aJ,bM];omega
 refine⟨_,_,λty=>run_copy_row (P:= prog) w 71 71 ty 56 b o n cap ⟨U,so,none⟩ m mc (aY h).toArray T (aY ((z.drop so).take m)) underlying71 qL W J ?_ ?_ ?_,?_,(ay.refl _ _).setRow (by simp) _⟩
 ·intro j u G
  have hj:j<m:=by
   have :=(List.getElem?_eq_some_iff.1 G).1;rw[J] at this;omega
  rw[dO (by rw[aJ,bM];omega)] at G;rw[add_plain,hs.cell,aF,dO (by omega),<-G];simp[hj]
 ·rw[J,bN,bB];omega
 ·exact λu G=>fh _ u G
 ·have e:((aY h).toArray.toList.take o++aY ((z.drop so).take m)++(aY h).toArray.toList.drop (o+(aY ((z.drop so).take m)).length)).toArray=(aY (h.take o++(z.drop so).take m++h.drop (o+m))).toArray:=by
   rw[J,cQ hm];simp[aY,List.map_drop]
  rw[e];exact kv W
theorem Nj (b:Nat)(w:World):(Instr.sliceAt 254 (.pointer (some ⟨b,0,none⟩)) none none none).run prog w= .ok (.slice b 13 13) w:=by show Sem.run _ _ _=_;kernel_rfl
theorem La (b:Nat)(w:World):(Instr.sliceAt 254 (.pointer (some ⟨b,0,none⟩)) (some (.int .i64 5)) none none).run prog w= .ok (.slice (some ⟨b,5,none⟩) 8 8) w:=by show Sem.run _ _ _=_;kernel_rfl
theorem Gi (b:Nat)(w:World):(Instr.sliceAt 195 (.pointer (some ⟨b,0,none⟩)) (some (.int .i64 2)) (some (.int .i64 7)) none).run prog w= .ok (.slice (some ⟨b,2,none⟩) 5 6) w:=by show Sem.run _ _ _=_;kernel_rfl
def dJ (X r:List Int):List Int:=(r.drop 2).take 5++(if r.getD 7 0=0 then List.replicate 8 0 else dZ X (1080+8*(r.getD 7 0).toNat))
def zT (X r:List Int):Prop:=r.getD 7 0<256/\(∀k,k<13->(dJ X r).getD k 0<256)/\(r.getD 7 0=0\/(dJ X r).drop 5≠List.replicate 8 0)
instance (X r:List Int):Decidable (zT X r):=by unfold zT;infer_instance
theorem wH{X r:List Int}(h:r.length=8):(dJ X r).length=13:=by
 unfold dJ;split
 ·simp[h]
 ·simp[h,iG]
theorem Lb (f row:List Int)(h:f.length=5)(z:row.length=8):(f++List.replicate 8 (0:Int)).take 5++(row.drop 0).take 8++(f++List.replicate 8 (0:Int)).drop (5+8)=f++row:=by
 rw[List.take_left' h,jM,aW (by omega),dx (by simp[h]),br]
def abf (w:World) (X r:List Int) (e:Ending) (w':World):Prop:=
 ∃h z ok,e= .returned (.tuple #[(zs h).toArray,(z:Int),.bool ok])/\(ok=true->zT X r/\h=dJ X r/\z=r.getD 7 0)/\(ok=false->¬zT X r)/\h.length=13/\ay [] w w'
theorem Lc (h:eK w b gp B ps)(aO:In64 (az B ps))(r:List Int)(hr:r.length=8)(xC:In64 r):
  Calls prog 190 #[(b:Nat),(aY r).toArray] w (abf w (az B ps) r):=by
 obtain⟨HS,uV,zC⟩:=hh3 h aO xC;have WR:=pD;have Gj:=Xy
 -- the world behind the three variables
 have aN:=((bh.new w (aY r).toArray 195).alloc (.cells (zs (List.replicate 13 0)).toArray 109)).alloc (.cells (aY (List.replicate 13 0)).toArray 254);have U:=(bh.new (w.alloc (.cells (aY r).toArray 195)) (zs (List.replicate 13 0)).toArray 109).alloc (.cells (aY (List.replicate 13 0)).toArray 254);have W:=bh.new ((w.alloc (.cells (aY r).toArray 195)).alloc (.cells (zs (List.replicate 13 0)).toArray 109)) (aY (List.replicate 13 0)).toArray 254;rw[show(w.alloc (.cells (aY r).toArray 195)).heap.size=w.heap.size+1 by simp] at U;rw[show((w.alloc (.cells (aY r).toArray 195)).alloc (.cells (zs (List.replicate 13 0)).toArray 109)).heap.size=w.heap.size+1+1 by simp] at W;obtain⟨v1,w1,zS,aM,ax⟩:=Gh (o:=0) (n:=13) (cap:=13) (so:=2) (m:=5) (mc:=6) W.drew aN.drew (by omega) (by simp) (by omega);have bo:ay [] w w1:=(((((ay.refl [] w).alloc _).alloc _).alloc _).drew).trans ax (by intro x J;rw[au] at J;omega);have aL:=aN.drew.keep ax (by rw[au];omega);have XQ:=U.drew.keep ax (by rw[au];omega);have ya:(List.replicate 13 (0:Int)).take 0++(r.drop 2).take 5++(List.replicate 13 (0:Int)).drop (0+5)=(r.drop 2).take 5++List.replicate 8 0:=by simp
 rw[ya] at aM;obtain⟨br,aD,qa,zN,jK⟩:=hh5 zS aM aL XQ bo;have bP:=Nj (w.heap.size+1+1);have Mj:=Gi w.heap.size;have c7:w1.cell? ⟨w.heap.size,7,none⟩=some (.int .u64 (r.getD 7 0)):=by rw[aL.cell,aF,dO (by omega)]
 have EB:Hid (dJ (az B ps) r=(r.drop 2).take 5++(if r.getD 7 0=0 then List.replicate 8 0 else dZ (az B ps) (1080+8*(r.getD 7 0).toNat))):=rfl;have uo:=ar (wH (X:=az B ps) hr);have j6:Hid (zT (az B ps) r↔r.getD 7 0<256/\(∀k,k<13->(dJ (az B ps) r).getD k 0<256)/\(r.getD 7 0=0\/(dJ (az B ps) r).drop 5≠List.replicate 8 0)):=Iff.rfl;have bk:Hid (In64 (dJ (az B ps) r)):=by
  intro i;have e:dJ (az B ps) r=(r.drop 2).take 5++(if r.getD 7 0=0 then List.replicate 8 0 else dZ (az B ps) (1080+8*(r.getD 7 0).toNat)):=rfl;by_cases hi:i<5
  ·have :(dJ (az B ps) r).getD i 0=r.getD (2+i) 0:=by
    rw[e];simp only[aj];rw[ba (by simp[hr];omega),bU,aB hi,b8]
   rw[this];exact xC _
  ·have h2:(dJ (az B ps) r).getD i 0=(if r.getD 7 0=0 then List.replicate 8 0 else dZ (az B ps) (1080+8*(r.getD 7 0).toNat)).getD (i-5) 0:=by
    rw[e];simp only[aj];rw[aR (by simp[hr];omega)];simp[hr]
   rw[h2];split
   ·rw[aj,bj]
    split<;>simp
   ·by_cases h8:i-5<8
    ·rw[kH _ _ _ h8]
     exact aO _
    ·rw[aj,aP (by rw[iG];omega)]
     simp
 have su:=xC 7;clear aN U W zS aM ax bo aL XQ h aO xC ya;generalize aZ:r.getD 7 0=li at *;have Sw:=ar aZ;clear aZ;generalize (aY r).toArray=Z,bl:(zs (List.replicate 13 0)).toArray=ZN at *;have Ld:=ar bl;clear bl;generalize (aY (List.replicate 13 0)).toArray=ZR at *;have lU:Hid (∀z,bh z (w.heap.size+1) ZN 109->∃w',(storeVar 109 (w.heap.size+1:Nat) (.agg ZN)).run prog z= .ok () w'/\(loadVar 109 (w.heap.size+1:Nat)).run prog w'= .ok (.agg ZN) w'/\ay [w.heap.size+1] z w'):=λz hb=>by
  have hz:=Ld.out;obtain⟨w',h1,h2,h3⟩:=bH (P:= prog) (ty:= 109) (cs:=zs (List.replicate 13 0)) (by rw[eO];exact mb) hb (by rw[<-hz];simp) (nC _);have h4:=fA (l:=List.replicate 13 0) (off:=0) h2 (by simp) (λk hk=>by rw[bc,aF,gK (by simpa using hk)]);rw[hz] at h1 h4;exact⟨w',h1,h4,h3⟩
 by_cases bD:256<=li
 ·have HF:Hid (¬zT (az B ps) r):=λh=>by have :=(j6.out.1 h).1;omega
  obtain⟨w2,af,ot,aa⟩:=lU.out w1 zN.out;obtain⟨aS,mY,fx⟩:=hh3 af ot (jK.out.trans aa (by simp));clear af ot aa EB j6 bk;go_in;go_wp2_with fail;refine j4 (l:=[_,_]) (S:=λz=>z=(((w.alloc (.cells Z 195)).alloc (.cells ZN 109)).alloc (.cells ZR 254)).drew) rfl rfl ?_;repeat (refine aU.cons ?_ (bR.val rfl ?h) ?_;(case h=>(intro z J;go_simp;rfl));simp only[Act.put,ag,ah,ai])
  refine aU.done λz J=> ?_
  subst J;refine jw rfl (.tmp 13) (.tmp 14) 71 71 rfl _ _ rfl rfl (br.out _) ?_;go_wp2_with(with_reducible refine gS 109 aS.out ?_);refine aI (cH results190 rfl mY.out rfl rfl) rfl ⟨List.replicate 13 0,0,false,?_,λh=>(by cases h),λ_=>HF.out,by simp,fx.out⟩;rw[Ld.out];rfl
 ·have bN:wrap64 li=li:=by unfold wrap64;omega
  have bT:=lj;have bz:Hid (IntKind.i64.wrap li=li):=fR _ (by omega);go_in;go_wp2_with fail;refine j4 (l:=[_,_]) (S:=λz=>z=(((w.alloc (.cells Z 195)).alloc (.cells ZN 109)).alloc (.cells ZR 254)).drew) rfl rfl ?_;repeat (refine aU.cons ?_ (bR.val rfl ?h) ?_;(case h=>(intro z J;go_simp;rfl));simp only[Act.put,ag,ah,ai])
  refine aU.done λz J=> ?_
  subst J;refine jw rfl (.tmp 13) (.tmp 14) 71 71 rfl _ _ rfl rfl (br.out _) ?_
  go_upto_if 22 with fail
  go_cut [] (λz=>Hid (bh z (w.heap.size+1+1) (aY (dJ (az B ps) r)).toArray 254/\bh z (w.heap.size+1) ZN 109/\ay [] w z))
  case first=>
   by_cases V:li=0
   ·have ae:Hid (bh w1 (w.heap.size+1+1) (aY (dJ (az B ps) r)).toArray 254):=by
     have e:=EB.out;rw[aB V] at e;show bh _ _ _ _;rw[e];exact aD.out
    have e1:(li != 0)=false:=by rw[bne,beq_iff_eq.2 V];rfl
    have HR:Hid (bh w1 (w.heap.size+1+1) (aY (dJ (az B ps) r)).toArray 254/\bh w1 (w.heap.size+1) ZN 109/\ay [] w w1):=⟨ae.out,zN.out,jK.out⟩;go_wp2_with fail;go_meet;case rel=>exact HR.out
   ·have e1:(li != 0)=true:=bne_iff_ne.2 V
    obtain⟨q,hq⟩:∃q:Nat,li=(q:Int):=⟨li.toNat,by omega⟩;have XR:=ar (ky li w1);have aJ:iO li=((1080+8*q:Nat):Int):=by unfold iO;rw[aA];omega
    rw[aJ] at XR;have nu:Hid (∀z,ay [] w z->Calls prog 141 #[(b:Nat),((1080+8*q:Nat):Int)] z λe w'=>e=(aY (dZ (az B ps) (1080+8*q))).toArray/\ay [] z w'):=λz hk=>pI (HS.out.keep hk (by simp) (by simp)) (1080+8*q) (by omega)
    have bw:Hid (dJ (az B ps) r=(r.drop 2).take 5++dZ (az B ps) (1080+8*q)):=by
     have e:=EB.out;rw[aA V,hq,aG] at e;exact e
    have ak:=ar (iG (az B ps) (1080+8*q));have bI:=La (w.heap.size+1+1);have bK:=wG;clear EB aJ hq;generalize dZ (az B ps) (1080+8*q)=row,((1080+8*q:Nat):Int)=p,wC:(aY (List.replicate 8 0)).toArray=Z8 at *;go_wp2_with fail;refine C' XR.out ?_;go_wp2_with fail;refine Rr (nu.out _ jK.out) λw2 aa=> ?_;obtain⟨w3,af,EE,aH⟩:=bH (P:= prog) (ty:= 195) (cs:=aY row) (by rw[bB,ak.out];exact jc) (bh.new w2 Z8 195) (by rw[<-wC];simp[bB,ak.out]) (fh _);have Qn:w.heap.size+1+1<w2.heap.size:=bS aD.out.lt aa.size;have bt:ay [] w (w3.drew):=((((jK.out.trans' aa).alloc (.cells Z8 195)).trans aH (by intro x J;rw[au] at J;have :=jK.out.size;have :=aa.size;omega))).drew;have bq:=((aD.out.keep aa (by simp)).alloc (.cells Z8 195)).keep aH (by rw[au];omega);have aW:=((zN.out.keep aa (by simp)).alloc (.cells Z8 195)).keep aH (by rw[au];omega);obtain⟨v4,wA,XS,aQ,aK⟩:=Gh (o:=5) (n:=8) (cap:=8) (so:=0) (m:=8) (mc:=8) bq.drew EE.drew (by omega) (by simp[hr]) (by have :=ak.out;omega);have SA:((r.drop 2).take 5++List.replicate 8 (0:Int)).take 5++(row.drop 0).take 8++((r.drop 2).take 5++List.replicate 8 (0:Int)).drop (5+8)=dJ (az B ps) r:=by
     rw[bw.out];exact Lb _ _ (by simp[hr]) ak.out
    rw[SA] at aQ;obtain⟨ae,av,aC,aS,bu⟩:=hh5 aQ (aW.drew.keep aK (by rw[au];omega)) (bt.trans aK (by intro x J;rw[au] at J;omega)) af XS;clear af EE aH Qn bt bq aW XS aQ aK SA aa;go_wp2_with(with_reducible refine gS 195 aS.out ?_);refine j4 (l:=[_,_]) (S:=λz=>z=w3.drew) rfl rfl ?_;repeat (refine aU.cons ?_ (bR.val rfl ?h) ?_;(case h=>(intro z J;go_simp;rfl));simp only[Act.put,ag,ah,ai])
    refine aU.done λz J=> ?_
    subst J;refine jw rfl (.tmp 28) (.tmp 29) 71 71 rfl _ _ rfl rfl (bu.out _) ?_;have HR:Hid (bh wA (w.heap.size+1+1) (aY (dJ (az B ps) r)).toArray 254/\bh wA (w.heap.size+1) ZN 109/\ay [] w wA):=⟨ae.out,av.out,aC.out⟩;go_wp2_with fail;go_meet;case rel=>exact HR.out
  case rest=>
   generalize wc=wA at *;obtain⟨ae,av,aC⟩:=hh3 hcut.out.1 hcut.out.2.1 hcut.out.2.2;clear hcut EB;obtain⟨aV,bn⟩:=hh2 (bh.new wA ZN 109) (XB (ae.out.alloc (.cells ZN 109)) uo.out);have HU:Hid (∀k,k<13->(aY (dJ (az B ps) r)).toArray[k]? =some (.int .u64 ((dJ (az B ps) r).getD k 0))):=λk hk=>by rw[aF,dO (by rw[uo.out];exact hk)]
   have Gk:Hid (w.heap.size+1+1<wA.heap.size):=ae.out.lt;clear ae;generalize bb:dJ (az B ps) r=G at *;have bp:=ar bb;clear bb;generalize (aY G).toArray=UA at *;go_wp2_with(with_reducible refine gL 254 bn.out ?_);clear Gj bn;go_loopg [32] 13 (λgh s32 z=>∃k:Nat,k+gh=13/\s32= .int .i64 (k:Int)/\Hid (bh z wA.heap.size (zs (dS 0 G k)).toArray 109/\bh z (w.heap.size+1) ZN 109/\(∀i,i<k->G.getD i 0<256)/\ay [] w z))
   case atStart=>
    refine⟨0,by omega,rfl,?_,av.out.alloc _,by simp,aC.out.alloc _⟩;rw[lJ,uo.out,Ld.out];exact aV.out
   case round=>
    clear av aC aV;obtain⟨k,hk,rfl,HP⟩:=hrel;obtain⟨U,W,ac,fW⟩:=HP.out;cases gk with
    |zero=>
     obtain rfl:k=13:=by omega
     rw[show dS 0 G 13=G by rw[<-uo.out];exact mz 0 G] at U;have bf:wA.heap.size∉[w.heap.size+1]:=by have :=Gk.out;rw[au];omega
     have sf:=ar (λ(z:World) (hk:ay [w.heap.size+1] wr z)=>fA (off:=0) (U.keep hk bf) uo.out (λk hk=>by rw[bc,aF,gK (by rw[uo.out];exact hk)]));have Iw:Hid (∀z,bh z (w.heap.size+1) ZN 109->∃w',(storeVar 109 (w.heap.size+1:Nat) (.agg (zs G).toArray)).run prog z= .ok () w'/\bh w' (w.heap.size+1) (zs G).toArray 109/\ay [w.heap.size+1] z w'):=λz hb=>by
      have hz:=Ld.out;exact bH (P:= prog) (ty:= 109) (cs:=zs G) (by rw[eO,uo.out];exact mb) hb (by rw[<-hz,eO,uo.out];simp[eO]) (nC _)
     have bA:Hid (∀z,bh z (w.heap.size+1) (zs G).toArray 109->(loadVar 109 (w.heap.size+1:Nat)).run prog z= .ok (.agg (zs G).toArray) z):=λz hb=>fA (off:=0) hb uo.out (λk hk=>by rw[bc,aF,gK (by rw[uo.out];exact hk)])
     obtain⟨jA,Bl⟩:=hh2 fW W;have bF:w.heap.size<=w.heap.size+1:=by omega
     obtain⟨bv,Qq⟩:=hh2 (K5 G uo.out) (λz=>acM (a:=G.drop 5) (b:=List.replicate 8 0) (by simp[uo.out]) rfl z);have Sv:=MS;have bL:=KX;obtain⟨t,ht⟩:∃t,decide (G.drop 5=List.replicate 8 0)=t:=⟨_,rfl⟩;have HF:Hid (zT (az B ps) r↔li=0\/t=false):=by
      show _↔_;rw[j6.out,<-ht,decide_eq_false_iff_not];exact⟨λh=>h.2.2,λh=>⟨by omega,ac,h⟩⟩
     rw[ht] at Qq;have bO:=Qq.out;generalize (zs (G.drop 5)).toArray=ZD,(zs (List.replicate 8 0)).toArray=ZE at *;clear ht Qq;clear HP U W ac fW hk j6 aD qa zN jK bf;generalize aX:(zs G).toArray=ZA at *;have bg:=ar aX;clear aX;by_cases V:li=0;have e0:(li==0)=true:=beq_iff_eq.2 V
     rotate_left
     have e0:(li==0)=false:=cP.2 V
     rotate_left
     all_goals
      go_wp2_with fail;refine Ez (l:=[_,_,_,_,_,_,_,_,_,_,_]) (f:=_) (mid:=[_]) (o:=_) (tl:=[]) (S:=λb z=>ay [w.heap.size+1] wr z/\bh z (w.heap.size+1) (cond b ZA ZN) 109) (by kernel_rfl) rfl (by kernel_rfl) (λd _ _ _ _ h=>by cases d<;>exact h) ⟨(ay.refl _ _).drew,Bl.out.drew⟩ (by kernel_rfl) (by kernel_rfl) ?_;repeat (
       (first
       |(refine km.cons (.agg ZA) (λb=>bR.load rfl 109 (.tmp 10) rfl _ rfl λz J=>sf.out z J.1) ?_)
       |(refine km.cons (.agg ZD) (λb=>bR.call rfl 209 #[ZA] ?he ?h) ?_;(case he=>(intro wz;go_simp));(case h=>exact λz J=>(bv.out z).mono λe w' he=>⟨he.1,J.1.trans he.2 (by simp),J.2.keep he.2 (by simp)⟩))
       |(refine km.cons undef (λb=>bR.off rfl) ?_)
       |(refine km.cons ?_ (λb=>bR.val rfl ?h) ?_;(case h=>(intro z J;clear J;go_simp;rfl))));simp only[Act.put,ag,ah,ai])
      refine km.done ⟨undef,JH.store rfl 109 (.tmp 4) (.tmp 44) rfl _ rfl _ rfl (λz J=> ?_),?_⟩
      ·obtain⟨w',h1,h2,h3⟩:=Iw.out z J.2
       exact⟨w',h1,J.1.trans' h3,h2⟩
      refine aU.cons ?_ (bR.val rfl ?h) ?_;case h=>intro z J;clear J;go_simp;rfl
      simp only[Act.put,ag,ah,ai];refine aU.done λz J=> ?_
      obtain⟨aT,tX⟩:=hh2 (bA.out z J.2) (jA.out.trans J.1 (by intro x J;rw[au] at J;omega));clear J;go_wp2_with fail
     ·refine aI (cH results190 rfl aT.out rfl rfl) rfl ⟨G,0,true,?_,λ_=>⟨HF.out.2 (.inl V),bp.out.symm,by rw[Sw.out];exact V.symm⟩,λh=>(by cases h),uo.out,tX.out⟩
      rw[bg.out];rfl
     ·refine aI (cH results190 rfl aT.out rfl rfl) rfl ⟨G,li,!t,?_,λh=>⟨HF.out.2 (.inr (by simpa using h)),bp.out.symm,Sw.out.symm⟩,λh hn=> ?_,uo.out,tX.out⟩
      ·rw[bg.out]
       show Ending.returned (.tuple #[ZA,(IntKind.i64.wrap li:Int),.bool !t])=_;rw[bz.out]
      ·have :=(HF.out.1 hn).resolve_left V
       rw[this] at h;cases h
    |succ gg=>
     have mn:k<13:=by omega
     have bM:(k:Int)<13:=by omega
     have cJ:(0:Int)<=(k:Int):=by omega
     have Iv:=TX mn (HU.out k mn);have bE:=bk.out k;by_cases Qk:256<=G.getD k 0
     ·have HF:Hid (¬zT (az B ps) r):=λh=>by have :=(j6.out.1 h).2.1 k mn;omega
      obtain⟨w5,Gl,Nk,kR⟩:=lU.out wr W;obtain⟨EF,Uo,qR⟩:=hh3 Gl Nk (fW.trans kR (by simp));clear Gl Nk kR HP U W ac fW hk;generalize G.getD k 0=x at *;go_wp2_with(with_reducible refine gS 109 EF.out ?_);refine aI (cH results190 rfl Uo.out rfl rfl) rfl ⟨List.replicate 13 0,0,false,?_,λh=>(by cases h),λ_=>HF.out,by simp,qR.out⟩;rw[Ld.out];rfl
     ·have bJ:wrap64 (G.getD k 0)=G.getD k 0:=by unfold wrap64;omega
      have bC:wr.cell? ⟨wA.heap.size,k,none⟩=some (.int .i64 ((dS 0 G k).getD k 0)):=by
       rw[U.cell,aF,gK (by rw[lR _ _ _ (by rw[uo.out];omega),uo.out];exact mn)]
      have bQ:wr.frozen? ⟨wA.heap.size,k,none⟩=false:=U.frozen k;have HR:Hid (bh (wr.setCell ⟨wA.heap.size,k,none⟩ (.int .i64 (G.getD k 0))) wA.heap.size (zs (dS 0 G (k+1))).toArray 109/\bh (wr.setCell ⟨wA.heap.size,k,none⟩ (.int .i64 (G.getD k 0))) (w.heap.size+1) ZN 109/\(∀i,i<k+1->G.getD i 0<256)/\ay [] w (wr.setCell ⟨wA.heap.size,k,none⟩ (.int .i64 (G.getD k 0)))):=by
       have bG:=Gk.out;refine⟨?_,W.other (by show w.heap.size+1≠wA.heap.size;omega) _,λi hi=> ?_,fW.setCell (.inr (by show w.heap.size<=wA.heap.size;omega)) _⟩
       ·have :=U.set k (.int .i64 (G.getD k 0))
        rw[ag,Xu,lK 0 G k (by rw[uo.out];exact mn) (G.getD k 0) (by simp[show k<G.length by rw[uo.out];exact mn])] at this;exact this
       ·by_cases e:i=k
        ·subst e;omega
        ·exact ac i (by omega)
      clear HP U W ac fW;generalize G.getD k 0=x,(dS 0 G k).getD k 0=y at *;go_wp2_with fail;go_roundg gg;case measure=>omega
      case rel=>exact⟨k+1,by omega,by go_num,HR.out⟩
end Go.Proofs.YtepbpdipenedhaaGreatDoor
