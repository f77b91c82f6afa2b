/- Lemmas. -/
import Derived.Test.YtimcfdnbpkiniaaGreatDoorM05
import Derived.Deep.DeepCutAuto
set_option maxHeartbeats 8000000
set_option maxRecDepth 100000
namespace Go.Proofs.YtimcfdnbpkiniaaGreatDoor
open Go.Proofs.Tryz
open Go.RowKit
variable{w:World}{T W b cap g gp n o:Nat}{v:Value}{B h z:List Int}{E:List (ByteArray×Int)}{ps:List (Int×Int)}
def pG (n:bT):Nat->Nat
 |0=>if 6<(fw n.B).length then 1 else 0
 |k+1=>pG n k+((eB n.E k).length+2)/3
def eW (n:bT):Nat:=pG n 4
theorem CM (n:bT)(h:n.E.length<=10000):∀k,pG n k<=1+k*4000
 |0=>by unfold pG;split<;>omega
 |k+1=>by
  unfold pG;have :=CM n h k;have :=kC n.E k;omega
theorem Gf (S:Nat->Value){k:Nat}(h:k<4)(w:World):(Instr.index 259 (.agg (pF S)) (.int .i64 (k:Int))).run prog w= .ok (S k) w:=by
 rcases (show k=0\/k=1\/k=2\/k=3 by omega) with rfl|rfl|rfl|rfl
 all_goals (show Sem.run _ _ _=_;kernel_rfl)
theorem Gg (n:bT)(v:Value)(g:Nat)(hB:n.B.length=13)(w:World)(hE:bD w v g n.E)(U:n.E.length<=10000)(ac:∀k,k<n.E.length->(eX n.E k).size<=9223372036854775807):
  Calls prog 186 #[aM n v] w λe w'=>e=((if ct n then eW n else 0:Nat):Int)/\ay [] w w':=by
 have HR:Hid (∀G,ay [] w G->Calls prog 101 #[aM n v] G λe w'=>e=(decide (ct n))/\ay [] G w'):=λG J=>oz n v g hB G (hE.keep J (by simp)) ac
 have xq:=ar (λG=>K0 n.B hB G);have xt:Hid (∀G,ay [] w G->Calls prog 211 #[v] G (wm G n.E)):=λG J=>JP (hE.keep J (by simp)) U ac
 have W:=bh.new w (aM n v) 75;have fJ:Hid (ay [] w (w.alloc (.cells (aM n v) 75))):=(ay.refl [] w).alloc _;have uT:=ar (cg W hB);have rZ:Hid (∀G,ay [] (w.alloc (.cells (aM n v) 75)) G->(loadVar 73 ⟨w.heap.size,4,none⟩).run prog G= .ok (.agg (zs n.B).toArray) G):=λG J=>fA (off:=4) (W.keep J (by simp)) hB λk J=>CE _ (by omega)
 have K6:Hid (∀G,ay [] (w.alloc (.cells (aM n v) 75)) G->G.cell? ⟨w.heap.size,17,none⟩=some v):=λG J=>by rw[(W.keep J (by simp)).cell];exact Al _ hB
 have aH:Hid ((fw n.B).length<=13):=mC n.B 13;have aD:Hid (∀k,(eB n.E k).length<=10000):=λk=>cG (kC _ _) U
 have az:=ar (λk=>CM n U k);have ak:Hid (∀k,pG n (k+1)=pG n k+((eB n.E k).length+2)/3):=λ_=>rfl
 have ai:Hid (pG n 0=if 6<(fw n.B).length then 1 else 0):=rfl;clear W hE ac U;generalize aM n v=Z,(zs n.B).toArray=ZB at *;by_cases hR:ct n
 ·rw[bu hR] at HR
  rw[aB hR];clear hR;unfold eW;generalize fw n.B=R at *;go_in;go_wp2_with(with_reducible refine gL 75 uT.out ?_);refine Rr (HR.out _ fJ.out) λw1 V=> ?_;obtain⟨jH,xC⟩:=hh2 V (rZ.out w1 V);clear V;go_wp2_with(with_reducible refine gL 73 xC.out ?_);refine(xq.out _).mono ?_;rintro e w2 ⟨va,ga,rfl,JQ,xh,aj⟩;obtain⟨aa,ca,rfl,-,-,-⟩:=fW JQ;have fo:=ar (jH.out.trans' aj);have au:=K6.out w2 fo.out;clear JQ xh aj;generalize aC:R.length=m at *;have HZ:=ai.out;clear aC;obtain⟨d,hd⟩:∃d,d=pG n 0:=⟨_,rfl⟩;rw[<-hd] at HZ;have HD:=ar hd;clear hd ai;by_cases h6:6<m;rw[aB h6] at HZ;have ag:(6:Int)<(m:Int):=by omega
  rotate_left
  rw[aA h6] at HZ;have ag:¬(6:Int)<(m:Int):=by omega
  rotate_left
  all_goals
   have ax:=ar HZ;clear HZ;go_wp2_with fail;refine(xt.out _ (fJ.out.trans' fo.out)).mono ?_;rintro e w3 ⟨S,rfl,ae,hS⟩;have oI:=ar (fJ.out.trans' (fo.out.trans' ae));have av:Hid (∀k,k<4->∃a c,S k= .slice a (eB n.E k).length c):=λk J=>by
    obtain⟨g,⟨a,c,h,-⟩,-⟩:=hS k J;exact⟨a,c,h⟩
   have Iu:=λk (J:k<4) G=>Gf S J G
   clear hS ae au;generalize (Value.agg (pF S))=ZS at *;go_wp2_with fail;clear ag;go_loopg [3,19] 4 (λgh s3 s19 G=>∃k:Nat,k+gh=4/\s19= .int .i64 (k:Int)/\s3= .int .i64 ((pG n k:Nat):Int)/\G=w3)
   case atStart=>exact⟨0,by omega,rfl,by rw[<-HD.out,ax.out];rfl,rfl⟩
   case round=>
    obtain⟨k,J,rfl,rfl,rfl⟩:=hrel;cases gk with
    |zero=>
     obtain rfl:k=4:=by omega
     clear J Iu;go_wp2_with fail;go_ret;exact⟨rfl,oI.out⟩
    |succ gg=>
     have af:k<4:=by omega
     have aI:(k:Int)<4:=by omega
     have cM:(0:Int)<=(k:Int):=by omega
     have aF:=Iu k af wr;obtain⟨a,c,ah⟩:=av.out k af;rw[ah] at aF;have hl:=aD.out k;have aG:=az.out k;obtain⟨Sz,Md⟩:=hh2 (ak.out k) (Bo (eB n.E k).length 3 (by omega) (by omega) (by omega));generalize (eB n.E k).length=q at *;rw[show q+3-1=q+2 by omega] at Md;have aJ:(q+2)/3<=4000:=by omega
     generalize (q+2)/3=z,pG n k=y at *;clear Iu ah;go_wp2_with fail;refine C' (Md.out _) ?_;go_wp2_with fail;go_roundg gg;case measure=>omega
     case rel=>exact⟨k+1,by omega,by go_num,by rw[Sz.out];go_num,rfl⟩
 ·rw[aQ hR] at HR
  rw[aA hR];clear hR;go_in;go_wp2_with(with_reducible refine gL 75 uT.out ?_);refine Rr (HR.out _ fJ.out) λw1 V=> ?_;have jH:=ar (fJ.out.trans' V);clear V;go_wp2_with fail;go_ret;exact⟨rfl,jH.out⟩
def K7 (E:List (ByteArray×Int)) (f i:Nat):Int:=if i%2=0 then ((kZ (bl (eX E (f+i/2))):Nat):Int) else jm E (f+i/2)
def zS (E:List (ByteArray×Int)) (f j:Nat):List Int:=(List.range 8).map λi=>if i<2*j then K7 E f i else 0
def jk (E:List (ByteArray×Int)) (k:Nat):List Int:=zS E (4*k) (min 4 (E.length-4*k))
theorem mW (E:List (ByteArray×Int))(f j:Nat):(zS E f j).length=8:=by simp[zS]
theorem qq (E:List (ByteArray×Int))(f j i:Nat)(h:i<8):(zS E f j).getD i 0=if i<2*j then K7 E f i else 0:=by
 rw[zS,aj,bJ,cC h];rfl
theorem Gh:(prog.info? 99).map (·.size)=some 2:=by kernel_rfl
theorem IP (g off n cap f h:Nat)(V:f<cap)(G:f<=h)(W:h<=cap)(w:World):
  (Instr.sliceAt 30 (.slice (some ⟨g,off,none⟩) n cap) (some (.int .i64 (f:Int))) (some (.int .i64 (h:Int))) none).run prog w= .ok (.slice (some ⟨g,off+f*2,none⟩) (h-f) (cap-f)) w:=by
 have z: prog.underlying 30 =some (.slice (prog.elem 30)):=by kernel_rfl
 have U: prog.elem 30 = 99 :=by kernel_rfl
 have J:(sizeOf 99).run prog w= .ok 2 w:=by kernel_rfl
 rw[run_sliceAt_slice _ _ _ _ _ _ z,run_slice_lh _ _ _ _ _ z .i64 .i64 (f:Int) (h:Int) (by omega) (by omega) (by omega),U,J];simp only[cO,sliced,aG];rw[aA];simp[add_plain]
theorem wq (b:Nat)(w:World):(Instr.sliceAt 132 (.pointer (some ⟨b,0,none⟩)) none none none).run prog w= .ok (.slice b 8 8) w:=by show Sem.run _ _ _=_;kernel_rfl
theorem qu (U:bh w b (aY z).toArray T)(hs:Reads w v W (aY h))(hm:h.length<=n)(ac:o+h.length<=z.length):
  ∃r w',(∀ty,(Builtin.copy_ #[65,65] ty #[.slice (some ⟨b,o,none⟩) n cap,v]).run prog w= .ok r w')/\bh w' b (aY (z.take o++h++z.drop (o+h.length))).toArray T/\ay [b] w w':=by
 obtain⟨a,c,rfl,h1,h2,V⟩:=fW hs;by_cases h0:h.length=0
 ·obtain rfl:=bo h0
  refine⟨_,w,λty=>run_copy_none (P:= prog) w 65 65 ty 70 _ a n cap 0 c underlying65 qN (by simp),?_,ay.refl _ _⟩;rw[br,cD,dC,dt];exact U
 ·obtain⟨hg,off,rfl,-⟩:=V.out 0 (by omega)
  have hl:(aY h).length=min h.length n:=by rw[bB];omega
  refine⟨_,_,λty=>run_copy_row (P:= prog) w 65 65 ty 70 b o n cap ⟨W,off,none⟩ h.length c (aY z).toArray T (aY h) underlying65 qN U hl ?_ ?_ ?_,?_,(ay.refl _ _).setRow (by simp) _⟩
  ·intro j u G
   have hj:j<h.length:=by
    have :=(List.getElem?_eq_some_iff.1 G).1;rwa[bB] at this
   obtain⟨-,aa,J,hc⟩:=V.out j hj;cases J;rw[dF hj] at G;rw[add_plain,hc,<-G]
  ·rw[bN,bB,bB];omega
  ·exact λu G=>fk _ u G
  ·have e:((aY z).toArray.toList.take o++aY h++(aY z).toArray.toList.drop (o+(aY h).length)).toArray=(aY (z.take o++h++z.drop (o+h.length))).toArray:=by
    rw[bB];simp[aY,List.map_drop]
   rw[e];exact kr U
theorem bD.sub{off:Nat}(h:bD w (.slice (some ⟨g,off,none⟩) n cap) g E)(hn:n=E.length)(f c:Nat)(W:f+c<=n):bD w (.slice (some ⟨g,off+f*2,none⟩) c (cap-f)) g ((E.drop f).take c):=by
 obtain⟨a,U,hv,h1,h2,h3⟩:=h;cases hv;have z:((E.drop f).take c).length=c:=by rw[aJ,bM];omega
 refine⟨_,cap-f,by rw[z],by omega,by omega,λh0=> ?_⟩;rw[z] at h0;obtain⟨hg,G,ho,hc⟩:=h3 (by omega);cases ho;refine⟨hg,_,rfl,λj J=> ?_⟩;rw[z] at J;obtain⟨c0,V⟩:=hc (f+j) (by omega);have e:((E.drop f).take c).getD j (ByteArray.empty,0)=E.getD (f+j) (ByteArray.empty,0):=by
  simp[J]
 rw[show off+f*2+j*2=off+(f+j)*2 by omega,eX,jm,e];exact⟨c0,V⟩
theorem Bp (E:List (ByteArray×Int))(f c k:Nat)(h:k<c):eX ((E.drop f).take c) k=eX E (f+k)/\jm ((E.drop f).take c) k=jm E (f+k):=by
 have e:((E.drop f).take c).getD k (ByteArray.empty,0)=E.getD (f+k) (ByteArray.empty,0):=by
  simp[h]
 rw[eX,jm,e];exact⟨rfl,rfl⟩
theorem xZ.sub(h:xZ E)(f c:Nat)(J:f+c<=E.length):xZ ((E.drop f).take c):=by
 have G:((E.drop f).take c).length=c:=by rw[aJ,bM];omega
 refine⟨by rw[G];have :=h.len;omega,λk z=> ?_,λk z=> ?_⟩
 ·rw[G] at z
  rw[(Bp E f c k z).1];exact h.size _ (by omega)
 ·rw[G] at z
  rw[(Bp E f c k z).2];exact h.ino _ (by omega)
theorem Ng (E:List (ByteArray×Int))(f j:Nat)(hj:j<=4)(h:f+j<=E.length):zS E f j=eT ((E.drop f).take j)++List.replicate (8-2*j) 0:=by
 have z:((E.drop f).take j).length=j:=by rw[aJ,bM];omega
 refine DW (by rw[mW,aC,lf,z,bE];omega) λi G=> ?_
 rw[mW] at G;rw[qq _ _ _ _ G];by_cases J:i<2*j
 ·rw[aB J,aj,ba (by rw[lf,z];omega),<-aj]
  obtain⟨w0,V⟩:=wj ((E.drop f).take j) (i/2) (by omega);obtain⟨W,e1⟩:=Bp E f j (i/2) (by omega);unfold K7;by_cases U:i%2=0
  ·rw[aB U,<-W,<-w0,show i/2*2=i by omega]
  ·rw[aA U,<-e1,<-V,show i/2*2+1=i by omega]
 ·rw[aA J,aj,aR (by rw[lf,z];omega),bj]
  split<;>rfl
theorem D7 (hE:bD w v g E)(ho:xZ E)(k:Nat)(hk:4*k<E.length):
  Calls prog 183 #[v,(k:Int)] w λe w'=>e=(aY (jk E k)).toArray/\ay [] w w':=by
 obtain⟨a,cap,rfl,aH,ax,zB⟩:=hE.open;obtain⟨hg,off,rfl,-,-⟩:=zB.out _ hk;unfold maxLen at ax;have aK:=ho.len;obtain⟨c,hc⟩:∃c,c=min 4 (E.length-4*k):=⟨_,rfl⟩;have aD:c<=4:=by omega
 unfold jk;rw[<-hc];obtain⟨f,hf⟩:∃f,f=4*k:=⟨_,rfl⟩;rw[<-hf] at hk hc ⊢;have aN:(k:Int)*4=(f:Int):=by omega
 have ai:=λU=>IP g off E.length cap f (f+c) (by omega) (by omega) (by omega) U
 rw[show f+c-f=c by omega] at ai;have av:Hid (∀H:Int,H=(f:Int)+(c:Int)->∀U,(Instr.sliceAt 30 (.slice (some ⟨g,off,none⟩) E.length cap) (some (.int .i64 (f:Int))) (some (.int .i64 H)) none).run prog U= .ok (.slice (some ⟨g,off+f*2,none⟩) c (cap-f)) U):=λH hH U=>by
  have :=ai U;rw[show((f+c:Nat):Int)=H by omega] at this;exact this
 have aL:=lq;obtain⟨H,hH,aG⟩:∃H:Int,H=(f:Int)+(c:Int)/\((((f:Int)+4<=(E.length:Int))/\H=(f:Int)+4)\/((E.length:Int)<(f:Int)+4/\H=(E.length:Int))):=⟨_,rfl,by omega⟩;have aF:=av.out H hH;have af:f+c<=E.length:=by omega
 obtain⟨aA,ak,az⟩:=hh3 (hE.sub rfl f c af) (ho.sub f c af) (Ng E f c aD af);have aa:Hid ((eT ((E.drop f).take c)).length=2*c):=by
  show _=_;rw[lf,aJ,bM];omega
 have CK:=ar (mW E f c);have Gi:Hid (∀U,ay [] w U->Calls prog 207 #[.slice (some ⟨g,off+f*2,none⟩) c (cap-f)] U (jJ U (eT ((E.drop f).take c)))):=λU hk=>zQ (aA.out.keep hk (by simp)) ak.out
 generalize eT ((E.drop f).take c)=WE at *;have aM:=wq (w.heap.size+1);obtain⟨W0,ac⟩:∃W0,W0=(w.alloc (.cells (aY (List.replicate 8 0)).toArray 132)).alloc (.cells (aY (List.replicate 8 0)).toArray 132):=⟨_,rfl⟩;have zO:Hid (bh W0 (w.heap.size+1) (aY (List.replicate 8 0)).toArray 132):=by
  have :=bh.new (w.alloc (.cells (aY (List.replicate 8 0)).toArray 132)) (aY (List.replicate 8 0)).toArray 132;have e:(w.alloc (.cells (aY (List.replicate 8 0)).toArray 132)).heap.size=w.heap.size+1:=by simp
  rw[e,<-ac] at this;exact this
 have oP:Hid (bh W0 w.heap.size (aY (List.replicate 8 0)).toArray 132):=by
  rw[ac];exact(bh.new w _ _).alloc _
 have HK:Hid (ay [] w W0):=by
  rw[ac];exact((ay.refl _ _).alloc _).alloc _
 have ry:=ar ac;clear hE ho ai av hf hc ac aA ak aF;generalize vZ:(aY (List.replicate 8 0)).toArray=Z8 at *;have aj:Hid (∀U,ay [] W0 U->bh U (w.heap.size+1) (aY (List.replicate 8 0)).toArray 132):=λU hk=>by rw[vZ];exact zO.out.keep hk (by simp)
 have xE:Hid (Z8.size=8):=by rw[<-vZ];rfl
 clear vZ zO;generalize E.length=n at *;rcases aG with ⟨aB,rfl⟩|⟨aB,rfl⟩
 ·obtain rfl:c=4:=by omega
  have aC:IntKind.i64.wrap ((f:Int)+4)=(f:Int)+4:=fS _ (by omega);have h1:(0:Int)<=(f:Int)+4:=by omega
  have h2:(f:Int)+4<=(cap:Int):=by omega
  have h3:((f:Int)+4).toNat=f+4:=by omega
  have h4:¬cap=f:=by omega
  clear hH af;go_in;go_wp2_with fail;rw[<-ry.out];go_region_with (go_at_call 207;refine(Gi.out _ HK.out.drew).mono ?_;rintro e w1 ⟨v1,g1,rfl,W,ah,h⟩;obtain⟨vc,w2,zT,V,J⟩:=qu (o:=0) (n:=8) (cap:=8) (aj.out _ ((ay.refl _ _).drew.trans' h)) W (by have :=aa.out;omega) (by rw[bE];have :=aa.out;omega);(have Nh:=zT 3);obtain⟨a1,c1,rfl,-,-,-⟩:=fW W)
  have z:(List.replicate 8 (0:Int)).take 0++WE++(List.replicate 8 (0:Int)).drop (0+WE.length)=zS E f 4:=by
   rw[az.out,aa.out,eP,bQ,bc,jB]
  rw[z] at V;have HL:=ar (fN V CK.out);have G:bh w2 w.heap.size Z8 132 :=(oP.out.drew.keep h (by simp)).keep J (by simp);obtain⟨w3,hS,ag,ae⟩:=bG (P:= prog) (ty:= 132) (cs:=aY (zS E f 4)) (by rw[bB,CK.out];exact ja) G (by rw[xE.out,bB,CK.out]) (fk _);obtain⟨HS,rN⟩:=hh2 hS (fN ag CK.out);have jr:Hid (ay [] w w3):=(((HK.out.drew.trans' h).trans J (by intro x hx;rw[au] at hx;omega))).trans ae (by intro x hx;rw[au] at hx;omega);clear z V G hS ag ae zT Nh h J ah W;go_wp2_with(with_reducible first|refine gL 132 HL.out ?_|refine gS 132 HS.out ?_);exact aI (bA results183 rfl rN.out) rfl ⟨rfl,jr.out⟩
 ·have aC:IntKind.i64.wrap ((f:Int)+4)=(f:Int)+4:=fS _ (by omega)
  have h2:n<=cap:=by omega
  have h3:f<=n:=by omega
  have h4:¬cap=f:=by omega
  have h5:n-f=c:=by omega
  clear hH af;go_in;go_wp2_with fail;rw[<-ry.out];go_region_with (go_at_call 207;refine(Gi.out _ HK.out.drew).mono ?_;rintro e w1 ⟨v1,g1,rfl,W,ah,h⟩;obtain⟨vc,w2,zT,V,J⟩:=qu (o:=0) (n:=8) (cap:=8) (aj.out _ ((ay.refl _ _).drew.trans' h)) W (by have :=aa.out;omega) (by rw[bE];have :=aa.out;omega);(have Nh:=zT 3);obtain⟨a1,c1,rfl,-,-,-⟩:=fW W)
  have z:(List.replicate 8 (0:Int)).take 0++WE++(List.replicate 8 (0:Int)).drop (0+WE.length)=zS E f c:=by
   rw[az.out,aa.out,eP,bQ,bc,jB]
  rw[z] at V;have HL:=ar (fN V CK.out);have G:bh w2 w.heap.size Z8 132 :=(oP.out.drew.keep h (by simp)).keep J (by simp);obtain⟨w3,hS,ag,ae⟩:=bG (P:= prog) (ty:= 132) (cs:=aY (zS E f c)) (by rw[bB,CK.out];exact ja) G (by rw[xE.out,bB,CK.out]) (fk _);obtain⟨HS,rN⟩:=hh2 hS (fN ag CK.out);have jr:Hid (ay [] w w3):=(((HK.out.drew.trans' h).trans J (by intro x hx;rw[au] at hx;omega))).trans ae (by intro x hx;rw[au] at hx;omega);clear z V G hS ag ae zT Nh h J ah W;go_wp2_with(with_reducible first|refine gL 132 HL.out ?_|refine gS 132 HS.out ?_);exact aI (bA results183 rfl rN.out) rfl ⟨rfl,jr.out⟩
def eo (X:List Int) (p:Nat):List Int:=(List.range 8).map λj=>X.getD (p+j) 0
theorem iF (X:List Int)(p:Nat):(eo X p).length=8:=by simp[eo]
theorem kD (X:List Int)(p k:Nat)(h:k<8):(eo X p).getD k 0=X.getD (p+k) 0:=by
 rw[eo,aj,bJ,cC h];rfl
def jP (p:Nat) (l:List Int) (k:Nat):List (Int×Int):=(List.range k).map λj=>(((p+j:Nat):Int),l.getD j 0)
theorem Ap (p:Nat)(l:List Int)(k:Nat):jP p l (k+1)=jP p l k++[(((p+k:Nat):Int),l.getD k 0)]:=by
 unfold jP;rw[dV,ey];rfl
theorem oX (p:Nat)(l:List Int)(k:Nat):(jP p l k).length=k:=by simp[jP]
theorem pH (h:eK w b gp B ps)(p:Nat)(hp:p+8<=3128):
  Calls prog 62 #[b,(p:Int)] w λe w'=>e=(aY (eo (az B ps) p)).toArray/\ay [] w w':=by
 have vT:=ar h;have V:=iF (az B ps) p;have EI:Hid (∀(k:Nat) J,k<8->ay [] w J->Calls prog 57 #[b,.int .i64 ((p:Int)+(k:Int))] J λe w'=>e= .returned (.int .u64 ((eo (az B ps) p).getD k 0))/\J=w'):=λk J hk fV=>by
  have :=py (vT.out.keep fV (by simp) (by simp)) ((p:Int)+(k:Int));unfold Bb at this;rw[aB,show((p:Int)+(k:Int)).toNat=p+k by omega,<-kD _ p k hk] at this;exact this
 have xE:(aY (List.replicate 8 0)).toArray=(aY (dM 0 (eo (az B ps) p) 0)).toArray:=by rw[kJ,V]
 clear h;generalize eo (az B ps) p=d at *;obtain⟨w0,z⟩:∃w0,w0=(w.alloc (.cells (aY (List.replicate 8 0)).toArray 132)).alloc (.cells (aY (List.replicate 8 0)).toArray 132):=⟨_,rfl⟩;have oP:Hid (bh w0 w.heap.size (aY (List.replicate 8 0)).toArray 132):=by
  have :=(bh.new w (aY (List.replicate 8 0)).toArray 132).alloc (.cells (aY (List.replicate 8 0)).toArray 132);rw[<-z] at this;exact this
 have qK:Hid (bh w0 (w.heap.size+1) (aY (dM 0 d 0)).toArray 132):=by
  have :=bh.new (w.alloc (.cells (aY (List.replicate 8 0)).toArray 132)) (aY (List.replicate 8 0)).toArray 132;have e:(w.alloc (.cells (aY (List.replicate 8 0)).toArray 132)).heap.size=w.heap.size+1:=by simp
  rw[e,<-z,xE] at this;exact this
 have HK:Hid (ay [] w w0):=by
  show ay _ _ _;rw[z];exact((ay.refl [] w).alloc _).alloc _
 have ac:=lq;clear xE vT;generalize vZ:(aY (List.replicate 8 0)).toArray=Z8 at *;go_in;go_wp2_with fail;rw[<-z];go_loopg [7] 8 (λgh s7 J=>∃k:Nat,k+gh=8/\s7= .int .i64 (k:Int)/\Hid (bh J (w.heap.size+1) (aY (dM 0 d k)).toArray 132/\bh J w.heap.size Z8 132/\ay [] w J))
 case atStart=>exact⟨0,by omega,rfl,qK.out,oP.out,HK.out⟩
 case round=>
  clear oP qK HK ac z;obtain⟨k,hk,rfl,G⟩:=hrel;cases gk with
  |zero=>
   obtain rfl:k=8:=by omega
   have U:=G.out.1;rw[show dM 0 d 8=d by rw[<-V];exact lR 0 d] at U;have HL:=ar (fN U V);obtain⟨w2,hS,aa,W⟩:=bG (P:= prog) (ty:= 132) (cs:=aY d) (by rw[bB,V];exact ja) G.out.2.1 (by rw[<-vZ];simp[bB,V]) (fk _);obtain⟨HS,rN,jr⟩:=hh3 hS (fN aa V) (G.out.2.2.trans W (by simp));clear hS U aa W G hk;go_wp2_with(with_reducible first|refine gL 132 HL.out ?_|refine gS 132 HS.out ?_);exact aI (bA results62 rfl rN.out) rfl ⟨rfl,jr.out⟩
  |succ gg=>
   have uA:k<8:=by omega
   have ah:(k:Int)<8:=by omega
   have cM:(0:Int)<=(k:Int):=by omega
   have HC:=ar (EI.out k wr uA G.out.2.2);have ae:wr.cell? ⟨w.heap.size+1,k,none⟩=some (.int .u64 ((dM 0 d k).getD k 0)):=by
    rw[G.out.1.cell,aF,dF (by rw[kT _ _ _ (by omega)];omega)]
   have hf:wr.frozen? ⟨w.heap.size+1,k,none⟩=false:=G.out.1.frozen k;have HB:Hid (bh (wr.setCell ⟨w.heap.size+1,k,none⟩ (.int .u64 (d.getD k 0))) (w.heap.size+1) (aY (dM 0 d (k+1))).toArray 132):=by
    have :=G.out.1.set k (.int .u64 (d.getD k 0));rw[ag,lI,kM 0 d k (by omega) (d.getD k 0) (by simp[show k<d.length by omega])] at this;exact this
   have af:Hid (bh (wr.setCell ⟨w.heap.size+1,k,none⟩ (.int .u64 (d.getD k 0))) w.heap.size Z8 132):=G.out.2.1.other (by simp) _;have jr:=ar G.out.2.2;clear G;generalize d.getD k 0=x,(dM 0 d k).getD k 0=y at *;go_wp2_with fail;refine C' HC.out ?_;go_wp2_with fail;go_roundg gg;case measure=>omega
   case rel=>exact⟨k+1,by omega,by go_num,HB.out,af.out,jr.out.setCell (by simp) _⟩
theorem se{J:Nat}(h:eK w b J B ps)(hn:ps.length<=900000)(p:Nat)(hp:p+8<=3128)(l:List Int)(hl:l.length=8):
  Calls prog 182 #[b,(p:Int),(aY l).toArray] w (jQ w b J B (ps++jP p l 8)):=by
 have HL:Hid ((loadVar 132 w.heap.size).run prog (w.alloc (.cells (aY l).toArray 132))= .ok (.agg (aY l).toArray) (w.alloc (.cells (aY l).toArray 132))):=fN (bh.new w _ _) hl;have HX:Hid (∀k,k<8->(aY l).toArray[k]? =some (.int .u64 (l.getD k 0))):=λk hk=>by rw[aF,dF (by omega)]
 have fJ:Hid (ay [b,J] w (w.alloc (.cells (aY l).toArray 132))):=(ay.refl _ w).alloc _;have vT:=ar (h.keep ((ay.refl [] w).alloc (.cells (aY l).toArray 132)) (by simp) (by simp));clear h;generalize (aY l).toArray=Z at *;go_in;go_wp2_with(with_reducible refine gL 132 HL.out ?_);go_loopg [9] 8 (λgh s9 wx=>∃k:Nat,k+gh=8/\s9= .int .i64 (k:Int)/\Hid (∃z,(z=J\/(w.heap.size<=z/\z<wx.heap.size))/\eK wx b z B (ps++jP p l k)/\ay [b,J] w wx))
 case atStart=>exact⟨0,by omega,rfl,J,.inl rfl,by rw[show jP p l 0=[] from rfl,br];exact vT.out,fJ.out⟩
 case round=>
  clear vT fJ HL;obtain⟨k,hk,rfl,HP⟩:=hrel;obtain⟨z,DV,G,fV⟩:=HP.out;cases gk with
  |zero=>
   obtain rfl:k=8:=by omega
   have HE:Hid (jQ w b J B (ps++jP p l 8) (.returned (.tuple #[])) wr):=⟨rfl,z,DV,G,fV⟩;clear HP DV G fV hk;go_wp2_with fail;go_end0;exact HE.out
  |succ gg=>
   have uA:k<8:=by omega
   have ae:(k:Int)<8:=by omega
   have cM:(0:Int)<=(k:Int):=by omega
   have Iu:=XD uA (HX.out k uA);have U:Aj (ps++jP p l k) ((p:Int)+(k:Int)) (l.getD k 0)=ps++jP p l (k+1):=by
    rw[Aj,aB (by rw[tY];omega),Ap,aV,Int.natCast_add]
   have HC:=pz G (by rw[aC,oX];omega) ((p:Int)+(k:Int)) (l.getD k 0);rw[U] at HC;obtain⟨HC,HG,jr⟩:=hh3 HC DV fV;clear HP DV G fV U;generalize l.getD k 0=x at *;go_wp2_with fail;refine Rr HC.out ?_;rintro w2 ⟨lS,W,aa,V⟩;have HR:Hid (∃z,(z=J\/(w.heap.size<=z/\z<w2.heap.size))/\eK w2 b z B (ps++jP p l (k+1))/\ay [b,J] w w2):=by
    have ac:=jr.out.size;have Ul:=V.size;refine⟨lS,?_,aa,jr.out.trans V λx hx=> ?_⟩
    ·rcases HG.out with h|h<;>rcases W with h2|h2<;>omega
    ·simp only[aL,aK,bC] at hx ⊢
     rcases HG.out with h|h<;>omega
   clear W aa V;go_wp2_with fail;go_roundg gg;case measure=>omega
   case rel=>exact⟨k+1,by omega,by go_num,HR.out⟩
def x8 (l:List Int) (e:Nat):Nat:=1080+8*(l.getD (e/4) 0).toNat+2*(e%4)
def Bq (X l:List Int) (e:Nat):Nat:=(X.getD (x8 l e) 0).toNat
def zC (X l:List Int) (e:Nat):Int:=X.getD (x8 l e+1) 0
def sS (X l:List Int) (m:Nat):List (ByteArray×Int):=(List.range m).map λe=>(xp ((kI (Bq X l e)).getD []),zC X l e)
theorem qw (X l:List Int)(m:Nat):(sS X l m).length=m:=by simp[sS]
theorem CN (X l:List Int)(m e:Nat)(h:e<m):eX (sS X l m) e=xp ((kI (Bq X l e)).getD [])/\jm (sS X l m) e=zC X l e:=by
 have :(sS X l m).getD e (ByteArray.empty,0)=(xp ((kI (Bq X l e)).getD []),zC X l e):=by
  rw[sS,aj,bJ,cC h];rfl
 rw[eX,jm,this];exact⟨rfl,rfl⟩
theorem Gj (E:List (ByteArray×Int))(n e:Nat)(h:e<n):eX (E.take n) e=eX E e/\jm (E.take n) e=jm E e:=by
 have :(E.take n).getD e (ByteArray.empty,0)=E.getD e (ByteArray.empty,0):=by simp[h]
 rw[eX,jm,this];exact⟨rfl,rfl⟩
theorem Ni (E:List (ByteArray×Int))(k c:Nat)(J:c=min 4 (E.length-4*k))(V:4*k<E.length):jk (E.take (4*k+c)) k=jk E k:=by
 unfold jk;rw[aJ,show min 4 (min (4*k+c) E.length-4*k)=c by omega,<-J];refine DW (by rw[mW,mW]) λi z=> ?_
 rw[mW] at z;rw[qq _ _ _ _ z,qq _ _ _ _ z];by_cases h:i<2*c
 ·rw[aB h,aB h]
  obtain⟨G,U⟩:=Gj E (4*k+c) (4*k+i/2) (by omega);rw[K7,K7,G,U]
 ·rw[aA h,aA h]
def JR (X l:List Int) (m k:Nat):Prop:=
 l.getD k 0≠0/\(∀j,j<min 4 (m-4*k)->(kI (Bq X l (4*k+j))).isSome=true/\zC X l (4*k+j)<32)/\jk (sS X l m) k=eo X (1080+8*(l.getD k 0).toNat)
def pI (X l:List Int) (m:Nat):Prop:=m<=24/\l=jh l (bp m)/\∀k,k<bp m->JR X l m k
theorem Um (l:List Int)(k j:Nat)(h:j<4):x8 l (4*k+j)=1080+8*(l.getD k 0).toNat+2*j:=by
 rw[x8,show(4*k+j)/4=k by omega,show(4*k+j)%4=j by omega]
theorem Qp{l:List Nat}(h:kI W=some l):l.length<=7/\(∀c∈l,c<256)/\iu l=true/\rK l=W:=by
 unfold kI at h;split at h
 ·rename_i hc
  cases h;exact⟨by rw[aJ];omega,λc z=>Sb W c (bO z),hc.2.1,hc.2.2⟩
 ·cases h
theorem CO (W:Nat):(xp ((kI W).getD [])).size<=7:=by
 rw[JD];cases h:kI W with
 |none=>simp
 |some l=>exact(Qp h).1
theorem Gk{U Ts so m mc:Nat}(W:bh w b (aY h).toArray T)(hs:bh w U (aY z).toArray Ts)(hm:m<=n)(V:o+m<=h.length)(aa:so+m<=z.length):
  ∃v w',(∀ty,(Builtin.copy_ #[65,65] ty #[.slice (some ⟨b,o,none⟩) n cap,.slice (some ⟨U,so,none⟩) m mc]).run prog w= .ok v w')/\bh w' b (aY (h.take o++(z.drop so).take m++h.drop (o+m))).toArray T/\ay [b] w w':=by
 have J:(aY ((z.drop so).take m)).length=min m n:=by rw[bB,aJ,bM];omega
 refine⟨_,_,λty=>run_copy_row (P:= prog) w 65 65 ty 70 b o n cap ⟨U,so,none⟩ m mc (aY h).toArray T (aY ((z.drop so).take m)) underlying65 qN W J ?_ ?_ ?_,?_,(ay.refl _ _).setRow (by simp) _⟩
 ·intro j u G
  have hj:j<m:=by
   have :=(List.getElem?_eq_some_iff.1 G).1;rw[J] at this;omega
  rw[dF (by rw[aJ,bM];omega)] at G;rw[add_plain,hs.cell,aF,dF (by omega),<-G];simp[hj]
 ·rw[J,bN,bB];omega
 ·exact λu G=>fk _ u G
 ·have e:((aY h).toArray.toList.take o++aY ((z.drop so).take m)++(aY h).toArray.toList.drop (o+(aY ((z.drop so).take m)).length)).toArray=(aY (h.take o++(z.drop so).take m++h.drop (o+m))).toArray:=by
   rw[J,cT hm];simp[aY,List.map_drop]
  rw[e];exact kr W
theorem Nj (b:Nat)(w:World):(Instr.sliceAt 248 (.pointer (some ⟨b,0,none⟩)) none none none).run prog w= .ok (.slice b 13 13) w:=by show Sem.run _ _ _=_;kernel_rfl
theorem K8 (b:Nat)(w:World):(Instr.sliceAt 248 (.pointer (some ⟨b,0,none⟩)) (some (.int .i64 5)) none none).run prog w= .ok (.slice (some ⟨b,5,none⟩) 8 8) w:=by show Sem.run _ _ _=_;kernel_rfl
theorem Gl (b:Nat)(w:World):(Instr.sliceAt 132 (.pointer (some ⟨b,0,none⟩)) (some (.int .i64 2)) (some (.int .i64 7)) none).run prog w= .ok (.slice (some ⟨b,2,none⟩) 5 6) w:=by show Sem.run _ _ _=_;kernel_rfl
def dK (X r:List Int):List Int:=(r.drop 2).take 5++(if r.getD 7 0=0 then List.replicate 8 0 else eo X (1080+8*(r.getD 7 0).toNat))
def zU (X r:List Int):Prop:=r.getD 7 0<256/\(∀k,k<13->(dK X r).getD k 0<256)/\(r.getD 7 0=0\/(dK X r).drop 5≠List.replicate 8 0)
instance (X r:List Int):Decidable (zU X r):=by unfold zU;infer_instance
theorem wu{X r:List Int}(h:r.length=8):(dK X r).length=13:=by
 unfold dK;split
 ·simp[h]
 ·simp[h,iF]
theorem K9 (f row:List Int)(h:f.length=5)(z:row.length=8):(f++List.replicate 8 (0:Int)).take 5++(row.drop 0).take 8++(f++List.replicate 8 (0:Int)).drop (5+8)=f++row:=by
 rw[List.take_left' h,List.drop_zero,aW (by omega),dz (by simp[h]),br]
def abl (w:World) (X r:List Int) (e:Ending) (w':World):Prop:=
 ∃h z ok,e= .returned (.tuple #[(zs h).toArray,(z:Int),.bool ok])/\(ok=true->zU X r/\h=dK X r/\z=r.getD 7 0)/\(ok=false->¬zU X r)/\h.length=13/\ay [] w w'
theorem La (h:eK w b gp B ps)(aS:In64 (az B ps))(r:List Int)(hr:r.length=8)(xu:In64 r):
  Calls prog 177 #[(b:Nat),(aY r).toArray] w (abl w (az B ps) r):=by
 obtain⟨HS,uQ,zD⟩:=hh3 h aS xu;have WV:=pC;have Gm:=XB
 -- the world behind the three variables
 have aL:=((bh.new w (aY r).toArray 132).alloc (.cells (zs (List.replicate 13 0)).toArray 73)).alloc (.cells (aY (List.replicate 13 0)).toArray 248);have U:=(bh.new (w.alloc (.cells (aY r).toArray 132)) (zs (List.replicate 13 0)).toArray 73).alloc (.cells (aY (List.replicate 13 0)).toArray 248);have V:=bh.new ((w.alloc (.cells (aY r).toArray 132)).alloc (.cells (zs (List.replicate 13 0)).toArray 73)) (aY (List.replicate 13 0)).toArray 248;rw[show(w.alloc (.cells (aY r).toArray 132)).heap.size=w.heap.size+1 by simp] at U;rw[show((w.alloc (.cells (aY r).toArray 132)).alloc (.cells (zs (List.replicate 13 0)).toArray 73)).heap.size=w.heap.size+1+1 by simp] at V;obtain⟨v1,w1,zT,aN,aD⟩:=Gk (o:=0) (n:=13) (cap:=13) (so:=2) (m:=5) (mc:=6) V.drew aL.drew (by omega) (by simp) (by omega);have bb:ay [] w w1:=(((((ay.refl [] w).alloc _).alloc _).alloc _).drew).trans aD (by intro x J;rw[au] at J;omega);have aQ:=aL.drew.keep aD (by rw[au];omega);have XT:=U.drew.keep aD (by rw[au];omega);have x9:(List.replicate 13 (0:Int)).take 0++(r.drop 2).take 5++(List.replicate 13 (0:Int)).drop (0+5)=(r.drop 2).take 5++List.replicate 8 0:=by simp
 rw[x9] at aN;obtain⟨bp,aH,p9,zO,jH⟩:=hh5 zT aN aQ XT bb;have bN:=Nj (w.heap.size+1+1);have Mg:=Gl w.heap.size;have c7:w1.cell? ⟨w.heap.size,7,none⟩=some (.int .u64 (r.getD 7 0)):=by rw[aQ.cell,aF,dF (by omega)]
 have EG:Hid (dK (az B ps) r=(r.drop 2).take 5++(if r.getD 7 0=0 then List.replicate 8 0 else eo (az B ps) (1080+8*(r.getD 7 0).toNat))):=rfl;have ug:=ar (wu (X:=az B ps) hr);have jY:Hid (zU (az B ps) r↔r.getD 7 0<256/\(∀k,k<13->(dK (az B ps) r).getD k 0<256)/\(r.getD 7 0=0\/(dK (az B ps) r).drop 5≠List.replicate 8 0)):=Iff.rfl;have bk:Hid (In64 (dK (az B ps) r)):=by
  intro i;have e:dK (az B ps) r=(r.drop 2).take 5++(if r.getD 7 0=0 then List.replicate 8 0 else eo (az B ps) (1080+8*(r.getD 7 0).toNat)):=rfl;by_cases hi:i<5
  ·have :(dK (az B ps) r).getD i 0=r.getD (2+i) 0:=by
    rw[e];simp only[aj];rw[ba (by simp[hr];omega),bU,aB hi,b9]
   rw[this];exact xu _
  ·have h2:(dK (az B ps) r).getD i 0=(if r.getD 7 0=0 then List.replicate 8 0 else eo (az B ps) (1080+8*(r.getD 7 0).toNat)).getD (i-5) 0:=by
    rw[e];simp only[aj];rw[aR (by simp[hr];omega)];simp[hr]
   rw[h2];split
   ·rw[aj,bj]
    split<;>simp
   ·by_cases h8:i-5<8
    ·rw[kD _ _ _ h8]
     exact aS _
    ·rw[aj,aP (by rw[iF];omega)]
     simp
 have qa:=xu 7;clear aL U V zT aN aD bb aQ XT h aS xu x9;generalize bg:r.getD 7 0=li at *;have Sy:=ar bg;clear bg;generalize (aY r).toArray=Z,aV:(zs (List.replicate 13 0)).toArray=ZN at *;have Lb:=ar aV;clear aV;generalize (aY (List.replicate 13 0)).toArray=ZR at *;have lU:Hid (∀z,bh z (w.heap.size+1) ZN 73->∃w',(storeVar 73 (w.heap.size+1:Nat) (.agg ZN)).run prog z= .ok () w'/\(loadVar 73 (w.heap.size+1:Nat)).run prog w'= .ok (.agg ZN) w'/\ay [w.heap.size+1] z w'):=λz hb=>by
  have hz:=Lb.out;obtain⟨w',h1,h2,h3⟩:=bG (P:= prog) (ty:= 73) (cs:=zs (List.replicate 13 0)) (by rw[eO];exact mf) hb (by rw[<-hz];simp) (nB _);have h4:=fA (l:=List.replicate 13 0) (off:=0) h2 (by simp) (λk hk=>by rw[bc,aF,gK (by simpa using hk)]);rw[hz] at h1 h4;exact⟨w',h1,h4,h3⟩
 by_cases bD:256<=li
 ·have HF:Hid (¬zU (az B ps) r):=λh=>by have :=(jY.out.1 h).1;omega
  obtain⟨w2,af,ot,aa⟩:=lU.out w1 zO.out;obtain⟨aM,mY,fo⟩:=hh3 af ot (jH.out.trans aa (by simp));clear af ot aa EG jY bk;go_in;go_wp2_with fail;refine jW (l:=[_,_]) (S:=λz=>z=(((w.alloc (.cells Z 132)).alloc (.cells ZN 73)).alloc (.cells ZR 248)).drew) rfl rfl ?_;repeat (refine aU.cons ?_ (bR.val rfl ?h) ?_;(case h=>(intro z J;go_simp;rfl));simp only[Act.put,ag,ah,ai])
  refine aU.done λz J=> ?_
  subst J;refine jt rfl (.tmp 13) (.tmp 14) 65 65 rfl _ _ rfl rfl (bp.out _) ?_;go_wp2_with(with_reducible refine gS 73 aM.out ?_);refine aI (cJ results177 rfl mY.out rfl rfl) rfl ⟨List.replicate 13 0,0,false,?_,λh=>(by cases h),λ_=>HF.out,by simp,fo.out⟩;rw[Lb.out];rfl
 ·have bK:wrap64 li=li:=by unfold wrap64;omega
  have bE:=lq;have bu:Hid (IntKind.i64.wrap li=li):=fS _ (by omega);go_in;go_wp2_with fail;refine jW (l:=[_,_]) (S:=λz=>z=(((w.alloc (.cells Z 132)).alloc (.cells ZN 73)).alloc (.cells ZR 248)).drew) rfl rfl ?_;repeat (refine aU.cons ?_ (bR.val rfl ?h) ?_;(case h=>(intro z J;go_simp;rfl));simp only[Act.put,ag,ah,ai])
  refine aU.done λz J=> ?_
  subst J;refine jt rfl (.tmp 13) (.tmp 14) 65 65 rfl _ _ rfl rfl (bp.out _) ?_
  go_upto_if 22 with fail
  go_cut [] (λz=>Hid (bh z (w.heap.size+1+1) (aY (dK (az B ps) r)).toArray 248/\bh z (w.heap.size+1) ZN 73/\ay [] w z))
  case first=>
   by_cases W:li=0
   ·have ae:Hid (bh w1 (w.heap.size+1+1) (aY (dK (az B ps) r)).toArray 248):=by
     have e:=EG.out;rw[aB W] at e;show bh _ _ _ _;rw[e];exact aH.out
    have e1:(li != 0)=false:=by rw[bne,beq_iff_eq.2 W];rfl
    have HR:Hid (bh w1 (w.heap.size+1+1) (aY (dK (az B ps) r)).toArray 248/\bh w1 (w.heap.size+1) ZN 73/\ay [] w w1):=⟨ae.out,zO.out,jH.out⟩;go_wp2_with fail;go_meet;case rel=>exact HR.out
   ·have e1:(li != 0)=true:=bne_iff_ne.2 W
    obtain⟨q,hq⟩:∃q:Nat,li=(q:Int):=⟨li.toNat,by omega⟩;have XU:=ar (kv li w1);have aJ:iN li=((1080+8*q:Nat):Int):=by unfold iN;rw[aA];omega
    rw[aJ] at XU;have nt:Hid (∀z,ay [] w z->Calls prog 62 #[(b:Nat),((1080+8*q:Nat):Int)] z λe w'=>e=(aY (eo (az B ps) (1080+8*q))).toArray/\ay [] z w'):=λz hk=>pH (HS.out.keep hk (by simp) (by simp)) (1080+8*q) (by omega)
    have bC:Hid (dK (az B ps) r=(r.drop 2).take 5++eo (az B ps) (1080+8*q)):=by
     have e:=EG.out;rw[aA W,hq,aG] at e;exact e
    have av:=ar (iF (az B ps) (1080+8*q));have bJ:=K8 (w.heap.size+1+1);have bM:=wq;clear EG aJ hq;generalize eo (az B ps) (1080+8*q)=row,((1080+8*q:Nat):Int)=p,vZ:(aY (List.replicate 8 0)).toArray=Z8 at *;go_wp2_with fail;refine C' XU.out ?_;go_wp2_with fail;refine Rr (nt.out _ jH.out) λw2 aa=> ?_;obtain⟨w3,af,EJ,ak⟩:=bG (P:= prog) (ty:= 132) (cs:=aY row) (by rw[bB,av.out];exact ja) (bh.new w2 Z8 132) (by rw[<-vZ];simp[bB,av.out]) (fk _);have Qn:w.heap.size+1+1<w2.heap.size:=bS aH.out.lt aa.size;have aW:ay [] w (w3.drew):=((((jH.out.trans' aa).alloc (.cells Z8 132)).trans ak (by intro x J;rw[au] at J;have :=jH.out.size;have :=aa.size;omega))).drew;have aT:=((aH.out.keep aa (by simp)).alloc (.cells Z8 132)).keep ak (by rw[au];omega);have aX:=((zO.out.keep aa (by simp)).alloc (.cells Z8 132)).keep ak (by rw[au];omega);obtain⟨v4,wA,XV,aK,aO⟩:=Gk (o:=5) (n:=8) (cap:=8) (so:=0) (m:=8) (mc:=8) aT.drew EJ.drew (by omega) (by simp[hr]) (by have :=av.out;omega);have SB:((r.drop 2).take 5++List.replicate 8 (0:Int)).take 5++(row.drop 0).take 8++((r.drop 2).take 5++List.replicate 8 (0:Int)).drop (5+8)=dK (az B ps) r:=by
     rw[bC.out];exact K9 _ _ (by simp[hr]) av.out
    rw[SB] at aK;obtain⟨ae,aC,ax,aM,bz⟩:=hh5 aK (aX.drew.keep aO (by rw[au];omega)) (aW.trans aO (by intro x J;rw[au] at J;omega)) af XV;clear af EJ ak Qn aW aT aX XV aK aO SB aa;go_wp2_with(with_reducible refine gS 132 aM.out ?_);refine jW (l:=[_,_]) (S:=λz=>z=w3.drew) rfl rfl ?_;repeat (refine aU.cons ?_ (bR.val rfl ?h) ?_;(case h=>(intro z J;go_simp;rfl));simp only[Act.put,ag,ah,ai])
    refine aU.done λz J=> ?_
    subst J;refine jt rfl (.tmp 28) (.tmp 29) 65 65 rfl _ _ rfl rfl (bz.out _) ?_;have HR:Hid (bh wA (w.heap.size+1+1) (aY (dK (az B ps) r)).toArray 248/\bh wA (w.heap.size+1) ZN 73/\ay [] w wA):=⟨ae.out,aC.out,ax.out⟩;go_wp2_with fail;go_meet;case rel=>exact HR.out
  case rest=>
   generalize wc=wA at *;obtain⟨ae,aC,ax⟩:=hh3 hcut.out.1 hcut.out.2.1 hcut.out.2.2;clear hcut EG;obtain⟨br,bf⟩:=hh2 (bh.new wA ZN 73) (XE (ae.out.alloc (.cells ZN 73)) ug.out);have HU:Hid (∀k,k<13->(aY (dK (az B ps) r)).toArray[k]? =some (.int .u64 ((dK (az B ps) r).getD k 0))):=λk hk=>by rw[aF,dF (by rw[ug.out];exact hk)]
   have Gn:Hid (w.heap.size+1+1<wA.heap.size):=ae.out.lt;clear ae;generalize aZ:dK (az B ps) r=G at *;have bt:=ar aZ;clear aZ;generalize (aY G).toArray=UA at *;go_wp2_with(with_reducible refine gL 248 bf.out ?_);clear Gm bf;go_loopg [32] 13 (λgh s32 z=>∃k:Nat,k+gh=13/\s32= .int .i64 (k:Int)/\Hid (bh z wA.heap.size (zs (dM 0 G k)).toArray 73/\bh z (w.heap.size+1) ZN 73/\(∀i,i<k->G.getD i 0<256)/\ay [] w z))
   case atStart=>
    refine⟨0,by omega,rfl,?_,aC.out.alloc _,by simp,ax.out.alloc _⟩;rw[kJ,ug.out,Lb.out];exact br.out
   case round=>
    clear aC ax br;obtain⟨k,hk,rfl,HP⟩:=hrel;obtain⟨U,V,ac,fV⟩:=HP.out;cases gk with
    |zero=>
     obtain rfl:k=13:=by omega
     rw[show dM 0 G 13=G by rw[<-ug.out];exact lR 0 G] at U;have bl:wA.heap.size∉[w.heap.size+1]:=by have :=Gn.out;rw[au];omega
     have rZ:=ar (λ(z:World) (hk:ay [w.heap.size+1] wr z)=>fA (off:=0) (U.keep hk bl) ug.out (λk hk=>by rw[bc,aF,gK (by rw[ug.out];exact hk)]));have Iw:Hid (∀z,bh z (w.heap.size+1) ZN 73->∃w',(storeVar 73 (w.heap.size+1:Nat) (.agg (zs G).toArray)).run prog z= .ok () w'/\bh w' (w.heap.size+1) (zs G).toArray 73/\ay [w.heap.size+1] z w'):=λz hb=>by
      have hz:=Lb.out;exact bG (P:= prog) (ty:= 73) (cs:=zs G) (by rw[eO,ug.out];exact mf) hb (by rw[<-hz,eO,ug.out];simp[eO]) (nB _)
     have bA:Hid (∀z,bh z (w.heap.size+1) (zs G).toArray 73->(loadVar 73 (w.heap.size+1:Nat)).run prog z= .ok (.agg (zs G).toArray) z):=λz hb=>fA (off:=0) hb ug.out (λk hk=>by rw[bc,aF,gK (by rw[ug.out];exact hk)])
     obtain⟨jr,Br⟩:=hh2 fV V;have bL:w.heap.size<=w.heap.size+1:=by omega
     obtain⟨bv,Qq⟩:=hh2 (K1 G ug.out) (λz=>acS (a:=G.drop 5) (b:=List.replicate 8 0) (by simp[ug.out]) rfl z);have Sw:=MT;have bF:=KT;obtain⟨t,ht⟩:∃t,decide (G.drop 5=List.replicate 8 0)=t:=⟨_,rfl⟩;have HF:Hid (zU (az B ps) r↔li=0\/t=false):=by
      show _↔_;rw[jY.out,<-ht,decide_eq_false_iff_not];exact⟨λh=>h.2.2,λh=>⟨by omega,ac,h⟩⟩
     rw[ht] at Qq;have bH:=Qq.out;generalize (zs (G.drop 5)).toArray=ZD,(zs (List.replicate 8 0)).toArray=ZE at *;clear ht Qq;clear HP U V ac fV hk jY aH p9 zO jH bl;generalize bq:(zs G).toArray=ZA at *;have bn:=ar bq;clear bq;by_cases W:li=0;have e0:(li==0)=true:=beq_iff_eq.2 W
     rotate_left
     have e0:(li==0)=false:=cL.2 W
     rotate_left
     all_goals
      go_wp2_with fail;refine EE (l:=[_,_,_,_,_,_,_,_,_,_,_]) (f:=_) (mid:=[_]) (o:=_) (tl:=[]) (S:=λb z=>ay [w.heap.size+1] wr z/\bh z (w.heap.size+1) (cond b ZA ZN) 73) (by kernel_rfl) rfl (by kernel_rfl) (λd _ _ _ _ h=>by cases d<;>exact h) ⟨(ay.refl _ _).drew,Br.out.drew⟩ (by kernel_rfl) (by kernel_rfl) ?_;repeat (
       (first
       |(refine j6.cons (.agg ZA) (λb=>bR.load rfl 73 (.tmp 10) rfl _ rfl λz J=>rZ.out z J.1) ?_)
       |(refine j6.cons (.agg ZD) (λb=>bR.call rfl 204 #[ZA] ?he ?h) ?_;(case he=>(intro wz;go_simp));(case h=>exact λz J=>(bv.out z).mono λe w' he=>⟨he.1,J.1.trans he.2 (by simp),J.2.keep he.2 (by simp)⟩))
       |(refine j6.cons undef (λb=>bR.off rfl) ?_)
       |(refine j6.cons ?_ (λb=>bR.val rfl ?h) ?_;(case h=>(intro z J;clear J;go_simp;rfl))));simp only[Act.put,ag,ah,ai])
      refine j6.done ⟨undef,JE.store rfl 73 (.tmp 4) (.tmp 44) rfl _ rfl _ rfl (λz J=> ?_),?_⟩
      ·obtain⟨w',h1,h2,h3⟩:=Iw.out z J.2
       exact⟨w',h1,J.1.trans' h3,h2⟩
      refine aU.cons ?_ (bR.val rfl ?h) ?_;case h=>intro z J;clear J;go_simp;rfl
      simp only[Act.put,ag,ah,ai];refine aU.done λz J=> ?_
      obtain⟨bo,uB⟩:=hh2 (bA.out z J.2) (jr.out.trans J.1 (by intro x J;rw[au] at J;omega));clear J;go_wp2_with fail
     ·refine aI (cJ results177 rfl bo.out rfl rfl) rfl ⟨G,0,true,?_,λ_=>⟨HF.out.2 (.inl W),bt.out.symm,by rw[Sy.out];exact W.symm⟩,λh=>(by cases h),ug.out,uB.out⟩
      rw[bn.out];rfl
     ·refine aI (cJ results177 rfl bo.out rfl rfl) rfl ⟨G,li,!t,?_,λh=>⟨HF.out.2 (.inr (by simpa using h)),bt.out.symm,Sy.out.symm⟩,λh hn=> ?_,ug.out,uB.out⟩
      ·rw[bn.out]
       show Ending.returned (.tuple #[ZA,(IntKind.i64.wrap li:Int),.bool !t])=_;rw[bu.out]
      ·have :=(HF.out.1 hn).resolve_left W
       rw[this] at h;cases h
    |succ gg=>
     have mo:k<13:=by omega
     have bQ:(k:Int)<13:=by omega
     have cM:(0:Int)<=(k:Int):=by omega
     have Iu:=TW mo (HU.out k mo);have bO:=bk.out k;by_cases Qk:256<=G.getD k 0
     ·have HF:Hid (¬zU (az B ps) r):=λh=>by have :=(jY.out.1 h).2.1 k mo;omega
      obtain⟨w5,Gp,Nk,lh⟩:=lU.out wr V;obtain⟨EK,Un,qU⟩:=hh3 Gp Nk (fV.trans lh (by simp));clear Gp Nk lh HP U V ac fV hk;generalize G.getD k 0=x at *;go_wp2_with(with_reducible refine gS 73 EK.out ?_);refine aI (cJ results177 rfl Un.out rfl rfl) rfl ⟨List.replicate 13 0,0,false,?_,λh=>(by cases h),λ_=>HF.out,by simp,qU.out⟩;rw[Lb.out];rfl
     ·have bI:wrap64 (G.getD k 0)=G.getD k 0:=by unfold wrap64;omega
      have bw:wr.cell? ⟨wA.heap.size,k,none⟩=some (.int .i64 ((dM 0 G k).getD k 0)):=by
       rw[U.cell,aF,gK (by rw[kT _ _ _ (by rw[ug.out];omega),ug.out];exact mo)]
      have bT:wr.frozen? ⟨wA.heap.size,k,none⟩=false:=U.frozen k;have HR:Hid (bh (wr.setCell ⟨wA.heap.size,k,none⟩ (.int .i64 (G.getD k 0))) wA.heap.size (zs (dM 0 G (k+1))).toArray 73/\bh (wr.setCell ⟨wA.heap.size,k,none⟩ (.int .i64 (G.getD k 0))) (w.heap.size+1) ZN 73/\(∀i,i<k+1->G.getD i 0<256)/\ay [] w (wr.setCell ⟨wA.heap.size,k,none⟩ (.int .i64 (G.getD k 0)))):=by
       have bP:=Gn.out;refine⟨?_,V.other (by show w.heap.size+1≠wA.heap.size;omega) _,λi hi=> ?_,fV.setCell (.inr (by show w.heap.size<=wA.heap.size;omega)) _⟩
       ·have :=U.set k (.int .i64 (G.getD k 0))
        rw[ag,Xx,kM 0 G k (by rw[ug.out];exact mo) (G.getD k 0) (by simp[show k<G.length by rw[ug.out];exact mo])] at this;exact this
       ·by_cases e:i=k
        ·subst e;omega
        ·exact ac i (by omega)
      clear HP U V ac fV;generalize G.getD k 0=x,(dM 0 G k).getD k 0=y at *;go_wp2_with fail;go_roundg gg;case measure=>omega
      case rel=>exact⟨k+1,by omega,by go_num,HR.out⟩
end Go.Proofs.YtimcfdnbpkiniaaGreatDoor
