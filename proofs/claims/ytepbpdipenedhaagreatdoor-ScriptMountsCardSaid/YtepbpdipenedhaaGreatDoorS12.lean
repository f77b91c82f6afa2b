/- Lemmas. -/
import Derived.Test.YtepbpdipenedhaaGreatDoorS11
import Derived.Ground.SlsfProg
import Derived.Shelf.SlSortCmp.WholeK
import Derived.Sort.Grow
set_option maxHeartbeats 8000000
set_option maxRecDepth 100000
namespace Go.Proofs.YtepbpdipenedhaaGreatDoor
open Go.Proofs.Tryz
open Go.RowKit
variable{w:World}{T b b0 g gp k n sz:Nat}{A B L X:List Int}{own:List Nat}{ps:List (Int×Int)}{v:Value}{E:List (ByteArray×Int)}{xs:List Value}
theorem VT (k:Nat)(h0:0<k)(hk:k<=1000)(y:Int)(W:y=(k:Int))(w:World):Calls prog 233 #[.slice none 0 0,.int .i64 y] w λe w'=>
  ∃c,e= .returned (.slice (some ⟨w.heap.size,0,none⟩) 0 c)/\w'.ownsRow w.heap.size 56 1 (.slice (some ⟨w.heap.size,0,none⟩) 0 c) 0 []/\ay [] w w':=by
 obtain⟨i0,V,G,U,J⟩:=cr Tryz.info_u64;obtain⟨c,w',Z,hc,h,z⟩:=xG (P:= prog) w 71 3 56 i0 _ .i64 .i64 underlying71 underlying3 V G U rfl k h0 hk J;have h1:¬y<0:=by omega
 have h2:0<y:=by omega
 have h3:wrap64 y=y:=by unfold wrap64;omega
 simp only[<-W] at Z;have HO:=ar h;have HK:=ar z;have aa:c≠0:=by omega
 have ac:(0:Int)<=(c:Int):=by omega
 clear h z W V G U J hc;go_enter func233,ntmps233;go_wp2_with(at_builtin;refine wpList_append_run rfl (.tmp 20) (.tmp 21) 71 3 ?_ (.slice none 0 0) (.int .i64 y) ?_ ?_ (Z _) ?_;all_goals first|rfl|skip);go_ret;exact⟨c,rfl,HO.out,HK.out⟩
theorem zQ{a:Option Addr}{m c:Nat}{y:List Value}(h:Reads w (.slice a m c) g y)(G:m≠0):∃J,a=some J/\∀j u,y[j]? =some u->w.cell? (J.add j)=some u:=by
 obtain⟨a',c',W,h2,h3,Z⟩:=h;cases W;obtain⟨-,off,rfl,V⟩:=Z (by intro e;rw[e] at G;exact G rfl);refine⟨_,rfl,λj u z=> ?_⟩;have U:j<y.length:=(List.getElem?_eq_some_iff.1 z).1;rw[add_plain,V j U,z]
def szC (j:Nat):Nat:=if j=0 then 0 else if j=1 then 5 else 13
def Lq (h y:List Int) (j:Nat):List Int:=if j=0 then [] else if j=1 then h else h++y
theorem OV{gs g1 g2:Nat}{x1 x2:Value}{z y:List Int}(hb:bf w gs #[x1,x2] T)(h1:Reads w x1 g1 (aO z))(h2:Reads w x2 g2 (aO y))(FL:z.length=5)(Z:y.length=8):
  Calls prog 222 #[.slice (some ⟨gs,0,none⟩) 2 2] w (iK w (z++y)):=by
 obtain⟨i0,hi,ac,ah,ag⟩:=cr Tryz.info_u64;obtain⟨a1,c1,rfl,ak,av,H1⟩:=gy h1;obtain⟨a2,c2,rfl,aj,au,H2⟩:=gy h2;rw[FL] at hb ak h1;rw[Z] at hb aj h2;have Ud:=ar h1;have Ue:=ar h2;have HB:=ar hb;clear h1 h2 hb H1 H2;have ae:∀G,ay [] w G->G.cell? ⟨gs,0,none⟩=some (.slice a1 5 c1):=λG hk=>by rw[(HB.out.keep hk (by simp)).cell];rfl
 have af:∀G,ay [] w G->G.cell? ⟨gs,1,none⟩=some (.slice a2 8 c2):=λG hk=>by rw[(HB.out.keep hk (by simp)).cell];rfl
 have aa:=ar ae;have ai:=ar af;clear ae af;go_enter func222,ntmps222;go_wp2_with fail;go_loopg [3,11] 2 (λgh s3 NZ G=>∃j:Nat,j+gh=2/\NZ= .int .i64 (j:Int)/\s3= .int .i64 ((szC j:Nat):Int)/\w=G)
 case atStart=>exact⟨0,rfl,rfl,rfl,rfl⟩
 case round=>
  obtain⟨j,hj,rfl,rfl,rfl⟩:=hrel;have e0:=aa.out w (ay.refl _ _);have e1:=ai.out w (ay.refl _ _);rcases (show gk=0\/gk=1\/gk=2 by omega) with rfl|rfl|rfl
  ·obtain rfl:j=2:=by omega
   rw[show szC 2=13 from rfl];clear e0 e1;go_wp2_with fail;refine(VT 13 (by omega) (by omega) 13 rfl w).mono ?_;rintro e w1 ⟨c,rfl,h,W⟩;have HO:=ar h;have HK:=ar W;clear h W;go_wp2_with fail;go_loopg [6,27] 2 (λgh s6 s27 G=>∃j:Nat,j+gh=2/\s27= .int .i64 (j:Int)/\Hid (G.ownsRow w.heap.size 56 1 s6 (szC j) (aO (Lq z y j))/\ay [] w G))
   case atStart=>exact⟨0,rfl,rfl,HO.out,HK.out⟩
   case round=>
    clear HO HK;obtain⟨j,hj,rfl,HP⟩:=hrel;obtain⟨h,J⟩:=HP.out;have e0:=aa.out _ J;have e1:=ai.out _ J;rcases (show gk=0\/gk=1\/gk=2 by omega) with rfl|rfl|rfl
    ·obtain rfl:j=2:=by omega
     have HM:Hid (iK w (z++y) (.returned u6) wr):=by
      obtain⟨g,V,U⟩:=eQ.of_row h;exact⟨u6,g,rfl,V.reads,(U (by decide)).1,J⟩
     clear e0 e1 h J HP;go_wp2_with fail;go_ret;exact HM.out
    ·obtain rfl:j=1:=by omega
     obtain⟨v',w',hr,V,U⟩:=jV (P:= prog) 71 56 71 i0 _ 1 8 underlying71 hi ac ah ag rfl (by omega) w.heap.size 5 _ _ h a2 8 c2 (aO y) (by rw[aZ,Z]) (zQ (Ue.out.keep J (by simp))) (eF _) (by decide) (by omega) J.size;have HN:Hid (w'.ownsRow w.heap.size 56 1 v' 13 (aO (Lq z y 2))/\ay [] w w'):=by
      refine⟨?_,J.grown U (cz h)⟩;have e:aO (Lq z y 2)=aO (Lq z y 1)++aO y:=by rw[<-ma];rfl
      rw[e];exact V
     clear h J HP V U e0;go_wp2_with(at_builtin;refine wpList_append_run rfl (.tmp 31) (.tmp 32) 71 71 ?_ u6 (.slice a2 8 c2) ?_ ?_ hr ?_;all_goals first|rfl|skip);go_roundg 0;case measure=>omega
     case rel=>exact⟨2,rfl,rfl,HN.out⟩
    ·obtain rfl:j=0:=by omega
     obtain⟨v',w',hr,V,U⟩:=jV (P:= prog) 71 56 71 i0 _ 1 8 underlying71 hi ac ah ag rfl (by omega) w.heap.size 0 _ _ h a1 5 c1 (aO z) (by rw[aZ,FL]) (zQ (Ud.out.keep J (by simp))) (eF _) (by decide) (by omega) J.size;have HN:Hid (w'.ownsRow w.heap.size 56 1 v' 5 (aO (Lq z y 1))/\ay [] w w'):=by
      refine⟨?_,J.grown U (cz h)⟩;have e:aO (Lq z y 1)=aO (Lq z y 0)++aO z:=rfl;rw[e];exact V
     clear h J HP V U e1;go_wp2_with(at_builtin;refine wpList_append_run rfl (.tmp 31) (.tmp 32) 71 71 ?_ u6 (.slice a1 5 c1) ?_ ?_ hr ?_;all_goals first|rfl|skip);go_roundg 1;case measure=>omega
     case rel=>exact⟨1,rfl,rfl,HN.out⟩
  ·obtain rfl:j=1:=by omega
   rw[show szC 1=5 from rfl];clear e0;go_wp2_with fail;go_roundg 0;case measure=>omega
   case rel=>exact⟨2,rfl,rfl,rfl,rfl⟩
  ·obtain rfl:j=0:=by omega
   rw[show szC 0=0 from rfl];clear e1;go_wp2_with fail;go_roundg 1;case measure=>omega
   case rel=>exact⟨1,rfl,rfl,rfl,rfl⟩
def pG (X L l:List Int) (own:List Nat):Prop:=
 (L.getD 7 0<9223372036854775808/\own=[]/\je (L.drop 2) 6=some l)\/
 (∃b:Nat,L.getD 7 0=9223372036854775808+(b:Int)/\0<b/\b<256/\own=[b]/\je ((L.drop 2).take 5++dz X (1080+8*b)) 13=some l)
def ny (w:World) (X L:List Int) (e:Ending) (w':World):Prop:=
 ∃l y h own ok,e= .returned (.tuple #[.agg (zs l).toArray,y,.bool ok])/\l.length=13/\kb w' y h own/\w.heap.size<=h/\own.length<=1/\ay [] w w'/\(ok=true->pG X L l own)/\(ok=false->∀l' z,¬pG X L l' z)
theorem pG.inj{l l':List Int}{cH:List Nat}(h:pG X L l own)(h':pG X L l' cH):l'=l/\cH=own:=by
 rcases h with ⟨h1,V,W⟩|⟨b,h1,V,W,h4,h5⟩
 ·rcases h' with ⟨J,z,y⟩|⟨U,J,z,y,Z,G⟩
  ·rw[W] at y
   cases y;exact⟨rfl,by rw[z,V]⟩
  ·omega
 ·rcases h' with ⟨J,z,y⟩|⟨U,J,z,y,Z,G⟩
  ·omega
  ·obtain rfl:U=b:=by omega
   rw[h5] at G;cases G;exact⟨rfl,by rw[Z,h4]⟩
def yY (l:List Int):Prop:=∀k,0<=l.getD k 0/\l.getD k 0<18446744073709551616
theorem yY.app(J:yY A)(G:yY B):yY (A++B):=λk=>by
 have y:=J k;have z:=G (k-A.length);rw[aj] at y z ⊢;by_cases h:k<A.length
 ·rw[bg h];exact y
 ·rw[aT (by omega)];exact z
theorem yY.drop(h:yY A)(n:Nat):yY (A.drop n):=λk=>by
 have :=h (n+k);rwa[show(A.drop n).getD k 0=A.getD (n+k) 0 by simp]
theorem yY.take(y:yY A)(n:Nat):yY (A.take n):=λk=>by
 have :=y k;by_cases h:k<n
 ·rwa[show(A.take n).getD k 0=A.getD k 0 by simp[h]]
 ·rw[aj,aP (by rw[aI];omega)]
  exact⟨by decide,by decide⟩
theorem yY.row(y:yY X)(p:Nat):yY (dz X p):=λk=>by
 by_cases h:k<8
 ·rw[jt X p k h];exact y _
 ·rw[aj,aP (by rw[iB];omega)]
  exact⟨by decide,by decide⟩
theorem Cx (w:World)(g:Nat):Reads w (.slice none 0 0) g (cM []):=⟨none,0,rfl,aG _,by unfold maxLen;omega,λh=>absurd rfl h⟩
theorem DL (hL:L.length=8)(uO:∀k,0<=L.getD k 0/\L.getD k 0<18446744073709551616)(h7:L.getD 7 0<9223372036854775808):
  Calls prog 213 #[.pointer (some ⟨b0,0,none⟩),.agg (aO L).toArray] w (ny w X L):=by
 obtain⟨z,h⟩:∃z,z=(w.alloc (.cells (aO L).toArray 195)).alloc (.cells (zs (List.replicate 13 0)).toArray 109):=⟨_,rfl⟩;have G:bf z w.heap.size (aO L).toArray 195 :=by
  rw[h];exact(bf.new w _ _).alloc _
 have ae:bf z (w.heap.size+1) (zs (List.replicate 13 0)).toArray 109 :=by
  have :=bf.new (w.alloc (.cells (aO L).toArray 195)) (zs (List.replicate 13 0)).toArray 109;have e:(w.alloc (.cells (aO L).toArray 195)).heap.size=w.heap.size+1:=by simp
  rw[e] at this;rw[h];exact this
 have eo:ay [] w z:=by
  rw[h];exact((ay.refl _ _).alloc _).alloc _
 have c7:z.cell? ⟨w.heap.size,7,none⟩=some (.int .u64 (L.getD 7 0)):=by rw[G.cell,aC,cG (by omega)]
 rw[h] at c7;have ag:=mH;have ak:=pn w.heap.size;have hr:Reads z (.slice (some ⟨w.heap.size,2,none⟩) 6 6) w.heap.size (aO (L.drop 2)):=by
  have :=G.reads (o:=2) (n:=6) (c:=6) (by omega) (aG _) (by omega);rwa[aW (by rw[bu,hL];omega)] at this
 have DK:=ar (I5 hr (by simp;omega) (λk=>by
  have :=uO (2+k);rwa[show(L.drop 2).getD k 0=L.getD (2+k) 0 by simp]))
 have vv:=ar ae;have gH:=ar eo;have nX:=ar h;have ah:¬(9223372036854775808:Int)<=L.getD 7 0:=by omega
 have H7:=ar h7;have HL:=ar hL;clear G ae eo hr h uO hL h7;generalize IL:L.getD 7 0=xi at *;have Xz:=ar IL;clear IL;generalize (aO L).toArray=ZL at *;generalize aa:(zs (List.replicate 13 0)).toArray=Z0 at *;have AY:=ar aa;clear aa;go_enter func213,ntmps213;go_wp2_with fail;rw[<-nX.out];refine DK.out.mono ?_;rintro e w1 ⟨l,ok,rfl,U,h1,h2,y⟩;obtain⟨w2,ac,W,V⟩:=bo (P:= prog) (ty:= 109) (cs:=zs l) (by rw[dG,U];exact jC) (bf.new w1 Z0 109) (by rw[<-AY.out];simp[dG,U]) (kD _);have af:=y.size;have Zi:=vv.out.lt;have SF:bf w2 (w.heap.size+1) Z0 109 :=((vv.out.keep y (by simp)).alloc _).keep V (by simp;omega);obtain⟨w3,Zj,qg,Z⟩:=bo (P:= prog) (ty:= 109) (cs:=zs l) (by rw[dG,U];exact jC) SF (by rw[<-AY.out];simp[dG,U]) (kD _);have Av:=ar ac;have sS:=ar Zj;have uI:=ar (eN (off:=0) W U (λk hk=>by rw[aV,aC,fp (by omega)]));have pd:=ar (eN (off:=0) qg U (λk hk=>by rw[aV,aC,fp (by omega)]));have SG:(L.drop 2).length=6:=by rw[bu,HL.out]
 have HM:Hid (ny w X L (.returned (.tuple #[.agg (zs l).toArray,.slice none 0 0,.bool ok])) w3):=by
  refine⟨l,_,w.heap.size,[],ok,rfl,U,kb.nil _ _,aG _,by simp,?_,λJ=> .inl ⟨by rw[Xz.out];exact H7.out,rfl,by rw[<-SG];exact h1 J⟩,λJ l' cH hs=> ?_⟩
  ·exact(((gH.out.trans' y).alloc _).trans V (by intro x hx;simp at hx;omega)).trans Z (by intro x hx;rw[au] at hx;omega)
  ·have h3:=(h2 J).1
   rcases hs with ⟨-,-,g3⟩|⟨b',g1,-⟩
   ·rw[<-SG,h3] at g3
    cases g3
   ·rw[Xz.out] at g1
    have :=H7.out;omega
 clear ac W V SF Zj qg Z h1 h2 y af Zi SG;generalize ai:w1.heap.size=g1 at *;go_wp2_with(first|(with_reducible refine gS 109 Av.out ?_)|(with_reducible refine gL 109 uI.out ?_)|(with_reducible refine gS 109 sS.out ?_));exact aL (bB results213 rfl pd.out rfl rfl) rfl HM.out
theorem Gj (hL:L.length=8){bi:Int}(h7:L.getD 7 0=9223372036854775808+bi)(h0:0<=bi)(Z:bi=0\/256<=bi)(aa:L.getD 7 0<18446744073709551616):
  Calls prog 213 #[.pointer (some ⟨b0,0,none⟩),.agg (aO L).toArray] w (ny w X L):=by
 obtain⟨z,h⟩:∃z,z=(w.alloc (.cells (aO L).toArray 195)).alloc (.cells (zs (List.replicate 13 0)).toArray 109):=⟨_,rfl⟩;have J:bf z w.heap.size (aO L).toArray 195 :=by
  rw[h];exact(bf.new w _ _).alloc _
 have U:bf z (w.heap.size+1) (zs (List.replicate 13 0)).toArray 109 :=by
  have :=bf.new (w.alloc (.cells (aO L).toArray 195)) (zs (List.replicate 13 0)).toArray 109;have e:(w.alloc (.cells (aO L).toArray 195)).heap.size=w.heap.size+1:=by simp
  rw[e] at this;rw[h];exact this
 have eo:ay [] w z:=by
  rw[h];exact((ay.refl _ _).alloc _).alloc _
 have c7:z.cell? ⟨w.heap.size,7,none⟩=some (.int .u64 (L.getD 7 0)):=by rw[J.cell,aC,cG (by omega)]
 rw[h] at c7;have ag:=mH;have ai:=pn w.heap.size;obtain⟨w2,y,G,V⟩:=bo (P:= prog) (ty:= 109) (cs:=zs (List.replicate 13 0)) (by rw[dG];exact jC) U (by simp[dG]) (kD _);rw[h] at y;have Av:=ar y;have uI:=ar (eN (off:=0) (l:=List.replicate 13 0) G (by simp) (λk hk=>by rw[aV,aC,fp (by simpa using hk)]));have HM:Hid (ny w X L (.returned (.tuple #[.agg (zs (List.replicate 13 0)).toArray,.slice none 0 0,.bool false])) w2):=by
  refine⟨List.replicate 13 0,_,w.heap.size,[],false,rfl,by simp,kb.nil _ _,aG _,by simp,?_,λac=>(by cases ac),λ_ l' cH hs=> ?_⟩
  ·exact eo.trans V (by intro x hx;rw[au] at hx;omega)
  ·rcases hs with ⟨g1,-⟩|⟨b',g1,g2,g3,-⟩<;>omega
 have ah:(9223372036854775808:Int)<=L.getD 7 0:=by omega
 have ae:L.getD 7 0-9223372036854775808=bi:=by omega
 have hw:IntKind.u64.wrap bi=bi:=kX h0 (by omega);clear J U eo h hL h7 aa y G V;generalize L.getD 7 0=xi at *;generalize (aO L).toArray=ZL at *;generalize (zs (List.replicate 13 0)).toArray=Z0 at *;by_cases W:bi=0
 ·subst W
  clear Z;go_enter func213,ntmps213;go_wp2_with(first|(with_reducible refine gS 109 Av.out ?_));exact aL (bB results213 rfl uI.out rfl rfl) rfl HM.out
 ·have af:=Z.resolve_left W
  clear Z;go_enter func213,ntmps213;go_wp2_with(first|(with_reducible refine gS 109 Av.out ?_));exact aL (bB results213 rfl uI.out rfl rfl) rfl HM.out
theorem DM (K4:eT w b gp B ps)(Ay:∀k,0<=(az B ps).getD k 0/\(az B ps).getD k 0<18446744073709551616){L:List Int}(hL:L.length=8)(uO:∀k,0<=L.getD k 0/\L.getD k 0<18446744073709551616)
  {c:Nat} (h7:L.getD 7 0=9223372036854775808+(c:Int)) (aR:0<c) (hc:c<256):
  Calls prog 213 #[.pointer (some ⟨b,0,none⟩),.agg (aO L).toArray] w (ny w (az B ps) L):=by
 obtain⟨W0,z⟩:∃W0,W0=(w.alloc (.cells (aO L).toArray 195)).alloc (.cells (zs (List.replicate 13 0)).toArray 109):=⟨_,rfl⟩;have aa:bf W0 w.heap.size (aO L).toArray 195 :=by
  rw[z];exact(bf.new w _ _).alloc _
 have aS:bf W0 (w.heap.size+1) (zs (List.replicate 13 0)).toArray 109 :=by
  have :=bf.new (w.alloc (.cells (aO L).toArray 195)) (zs (List.replicate 13 0)).toArray 109;have e:(w.alloc (.cells (aO L).toArray 195)).heap.size=w.heap.size+1:=by simp
  rw[e] at this;rw[z];exact this
 have eo:ay [] w W0:=by
  rw[z];exact((ay.refl _ _).alloc _).alloc _
 have c7:W0.cell? ⟨w.heap.size,7,none⟩=some (.int .u64 (L.getD 7 0)):=by rw[aa.cell,aC,cG (by omega)]
 rw[z] at c7;have bv:=mH;have YD:=jx;have bp:=pn w.heap.size;have Dp:=ar (λW=>jI (c:Int) W);have Am:Hid (jH (c:Int)=((1080+8*c:Nat):Int)):=by
  show _=_;rw[jH,aA (by omega)];omega
 have kH:=ar (mL (K4.keep eo (by simp) (by simp)) (1080+8*c) (by omega));have uM:Hid (∀k,0<=((L.drop 2).take 5++dz (az B ps) (1080+8*c)).getD k 0/\((L.drop 2).take 5++dz (az B ps) (1080+8*c)).getD k 0<18446744073709551616):=yY.app ((yY.drop uO 2).take 5) (yY.row Ay _);have yZ:=iB (az B ps) (1080+8*c);have br:(9223372036854775808:Int)<=L.getD 7 0:=by omega
 obtain⟨y,MD,bj,hw,bA,bt,bw⟩:∃y:Int,(c:Int)=y/\L.getD 7 0-9223372036854775808=y/\IntKind.u64.wrap y=y/\wrap64 y=y/\¬y=0/\¬256<=y:=⟨_,rfl,by omega,kX (by omega) (by omega),by unfold wrap64;omega,by omega,by omega⟩;have HC:Hid (L.getD 7 0=9223372036854775808+(c:Int)/\0<c/\c<256):=⟨h7,aR,hc⟩;have p9:=ar aa;have vv:=ar aS;have gH:=ar eo;have nX:=ar z;have HL:=ar hL;have EG:Hid (((L.drop 2).take 5).length=5):=by show _=_;rw[aI,bu,hL];rfl
 rw[MD] at Dp Am;generalize aP:dz (az B ps) (1080+8*c)=RX at *;have aF:=ar aP;clear aa aS eo z hL uO Ay K4 h7 aP;generalize bb:((1080+8*c:Nat):Int)=pi at *;generalize IL:L.getD 7 0=xi at *;have Xz:=ar IL;have G3:=ar MD;clear IL bb MD hc aR;generalize aX:(aO L).toArray=ZL at *;have Rx:=ar aX;clear aX;generalize aQ:(zs (List.replicate 13 0)).toArray=Z0 at *;have AY:=ar aQ;clear aQ;generalize sP:(aO (List.replicate 8 0)).toArray=Z8 at *;have yb:=ar sP;clear sP;go_enter func213,ntmps213;go_wp2_with fail;refine(Dp.out _).mono ?_;rintro e wy ⟨rfl,rfl⟩;rw[Am.out];go_wp2_with fail;rw[<-nX.out];refine kH.out.mono ?_;rintro e w1 ⟨rfl,ac⟩;obtain⟨J,V,Zk,aT⟩:=bo (P:= prog) (ty:= 195) (cs:=aO RX) (by rw[aZ,yZ];exact il) (bf.new w1 Z8 195) (by rw[<-yb.out];simp[aZ,yZ]) (eF _);have Av:=ar V;have aj:=ac.size;have ng:ay [] W0 J:=(ac.alloc (.cells Z8 195)).trans aT (by intro x hx;rw[au] at hx;omega);have Zl:=ar ng;have bk:=ar Zk;have Zm:=p9.out.keep ng (by simp);have ba:Hid (Reads J (.slice (some ⟨w.heap.size,2,none⟩) 5 6) w.heap.size (aO ((L.drop 2).take 5))):=by
  rw[<-Rx.out] at Zm;exact Zm.reads (o:=2) (n:=5) (c:=6) (by rw[HL.out];omega) (by omega) (by omega)
 have aB:Hid (Reads J (.slice (some ⟨w1.heap.size,0,none⟩) 8 8) w1.heap.size (aO RX)):=by
  have :=bf.reads (o:=0) (n:=8) (c:=8) Zk (by rw[yZ];omega) (aG _) (by omega);rwa[List.drop_zero,aW (by rw[yZ];exact aG _)] at this
 clear V Zk aT ng ac kH aj Zm;generalize bz:w1.heap.size=Z at *;have bl:=BX w.heap.size;have bn:=rF Z;go_wp2_with(first|(with_reducible refine gS 195 Av.out ?_));refine tN (S:=λW=>ay [] J W) (l:=[_,_]) (tl:=[_,_,_]) (by kernel_rfl) rfl (by kernel_rfl) (by kernel_rfl) (by kernel_rfl) (λd _ _ _ _ h=>by cases d<;>exact h) (ay.refl _ _).drew ?_;repeat (refine eA.cons ?_ (YieldsIf.val rfl ?h) ?_;(case h=>(intro W hx;clear hx;go_simp;rfl));simp only[Act.put,ag,ah,ai])
 refine eA.done ?_;unfold jU;go_wp2_with fail;refine⟨((ay.refl _ _).drew).alloc _,?_⟩;unfold jU;have SH:Hid (∀W,ay [] J W->bf W J.heap.size #[.slice (some ⟨w.heap.size,2,none⟩) 5 6,.slice (some ⟨Z,0,none⟩) 8 8] 71->Calls prog 222 #[.slice (some ⟨J.heap.size,0,none⟩) 2 2] W (iK W ((L.drop 2).take 5++RX))):=λW hk hb=>by
  refine OV hb ((ba.out).keep hk (by simp)) ((aB.out).keep hk (by simp)) EG.out yZ
 have aH:bf ((J.alloc (.cells #[.slice (some ⟨w.heap.size,2,none⟩) 5 6,.slice (some ⟨Z,0,none⟩) 8 8] 71)).drew) J.heap.size #[.slice (some ⟨w.heap.size,2,none⟩) 5 6,.slice (some ⟨Z,0,none⟩) 8 8] 71 :=(bf.new J _ _).drew;have DB:=ar aH;clear aH ba aB;go_wp2_with fail;refine(SH.out _ (((ay.refl _ _).alloc _).drew) DB.out).mono ?_;rintro e G ⟨va,ga,rfl,G8,sG,aJ⟩;have mO:ay [] J G:=(((ay.refl [] J).alloc (.cells #[.slice (some ⟨w.heap.size,2,none⟩) 5 6,.slice (some ⟨Z,0,none⟩) 8 8] 71)).drew).trans' aJ;have SI:=ar mO;have af:=ar G8;clear G8 sG aJ mO DB SH;go_wp2_with fail;refine⟨SI.out,?_⟩;unfold jU;go_wp2_with fail;refine⟨SI.out,?_⟩;unfold jU;have ak:Reads (G.alloc (.cells #[.int .i64 y] 3)) va ga (aO ((L.drop 2).take 5++RX)):=by
  by_cases h0:aO ((L.drop 2).take 5++RX)=[]
  ·exact absurd (b8 List.length h0) (by rw[aZ,aD,EG.out,yZ];decide)
  ·exact af.out.keep ((ay.refl [] G).alloc _) (by simp)
 have DK:=ar (I5 ak (by rw[aD,EG.out,yZ];omega) uM.out);obtain⟨av,cv,aM,-,-,-⟩:=gy af.out;have Lr:((L.drop 2).take 5++RX).length=13:=by rw[aD,EG.out,yZ]
 rw[Lr] at aM;have aN:=bf.new G #[.int .i64 y] 3;have QA:=ar aN;have aK:=ar Lr;clear ak aN af Lr;subst aM;go_wp2_with fail;refine DK.out.mono ?_;rintro e w4 ⟨l,ok,rfl,pF,h1,h2,U⟩;rw[aK.out] at h1 h2;obtain⟨w5,V,ax,kr⟩:=bo (P:= prog) (ty:= 109) (cs:=zs l) (by rw[dG,pF];exact jC) (bf.new w4 Z0 109) (by rw[<-AY.out];simp[dG,pF]) (kD _);have aj:=U.size;have bc:=SI.out.size;have bh:=Zl.out.size;have Zi:=vv.out.lt;have bg:G.heap.size<(G.alloc (.cells #[.int .i64 y] 3)).heap.size:=QA.out.lt;have SF:bf w5 (w.heap.size+1) Z0 109 :=(((((vv.out.keep Zl.out (by simp)).keep SI.out (by simp)).alloc _).keep U (by simp)).alloc _).keep kr (by rw[au];omega);have aU:bf w5 G.heap.size #[.int .i64 y] 3 :=((QA.out.keep U (by simp)).alloc _).keep kr (by rw[au];omega);obtain⟨w6,Zj,qg,jZ⟩:=bo (P:= prog) (ty:= 109) (cs:=zs l) (by rw[dG,pF];exact jC) SF (by rw[<-AY.out];simp[dG,pF]) (kD _);have aY:bf w6 G.heap.size #[.int .i64 y] 3 :=aU.keep jZ (by rw[au];omega);have Av:=ar V;have sS:=ar Zj;have uI:=ar (eN (off:=0) ax pF (λk hk=>by rw[aV,aC,fp (by omega)]));have pd:=ar (eN (off:=0) qg pF (λk hk=>by rw[aV,aC,fp (by omega)]));have HM:Hid (ny w (az B ps) L (.returned (.tuple #[.agg (zs l).toArray,.slice (some ⟨G.heap.size,0,none⟩) 1 1,.bool ok])) w6):=by
  refine⟨l,_,G.heap.size,[c],ok,rfl,pF,⟨⟨rfl,.inr ⟨G.heap.size,1,#[.int .i64 y],rfl,aG _,aY,aG _,by unfold maxLen;omega,by simp,?_⟩⟩,λk hk=>by cases hk;rfl⟩,by omega,by simp,?_,λae=> .inr ⟨c,by rw[Xz.out];exact HC.out.1,HC.out.2.1,HC.out.2.2,rfl,by rw[aF.out];exact h1 ae⟩,λae l' cH hs=> ?_⟩
  ·rw[<-G3.out]
   rfl
  ·refine(((gH.out.trans' Zl.out).trans' SI.out).trans' ((((ay.refl [] G).alloc (.cells #[.int .i64 y] 3)).trans' U).alloc (.cells Z0 109))).trans kr (by intro x hx;rw[au] at hx;omega) |>.trans jZ (by intro x hx;rw[au] at hx;omega)
  ·have h3:=(h2 ae).1
   have hc:=HC.out;rcases hs with ⟨Z,-⟩|⟨b',Z,g2,g3,-,g5⟩
   ·rw[Xz.out] at Z
    omega
   ·rw[Xz.out] at Z
    obtain rfl:b'=c:=by omega
    rw[aF.out,h3] at g5;cases g5
 clear V ax kr SF Zj qg jZ h1 h2 U aj bc bh bg Zi aU aY;generalize bq:w4.heap.size=g4 at *;go_wp2_with(first|(with_reducible refine gS 109 Av.out ?_)|(with_reducible refine gL 109 uI.out ?_)|(with_reducible refine gS 109 sS.out ?_));exact aL (bB results213 rfl pd.out rfl rfl) rfl HM.out
def l6 (r:List Int):Nat:=if r.getD 1 0=0 then 0 else if r.getD 3 0=0 then 1 else if r.getD 5 0=0 then 2 else 3
theorem MU (r:List Int):l6 r<=3:=by
 unfold l6;split
 ·omega
 ·split
  ·omega
  ·split<;>omega
theorem EM{r:List Int}(U:k<=3)(h:∀j,j<k->r.getD (2*j+1) 0≠0)(J:k=3\/r.getD (2*k+1) 0=0):l6 r=k:=by
 rcases (show k=0\/k=1\/k=2\/k=3 by omega) with rfl|rfl|rfl|rfl
 ·have y:r.getD 1 0=0:=J.resolve_left (by omega)
  unfold l6;rw[aB y]
 ·have y:r.getD 1 0≠0:=h 0 (by omega)
  have z:r.getD 3 0=0:=J.resolve_left (by omega);unfold l6;rw[aA y,aB z]
 ·have y:r.getD 1 0≠0:=h 0 (by omega)
  have z:r.getD 3 0≠0:=h 1 (by omega);have G:r.getD 5 0=0:=J.resolve_left (by omega);unfold l6;rw[aA y,aA z,aB G]
 ·have y:r.getD 1 0≠0:=h 0 (by omega)
  have z:r.getD 3 0≠0:=h 1 (by omega);have G:r.getD 5 0≠0:=h 2 (by omega);unfold l6;rw[aA y,aA z,aA G]
def jg (r:List Int):List Int:=(r.drop 1).take (2*l6 r)
theorem Lt (b c:Nat)(h:1<=c)(y:c<=7)(w:World):(Instr.sliceAt 195 (.pointer (some ⟨b,0,none⟩)) (some (.int .i64 1)) (some (.int .i64 (c:Int))) none).run prog w= .ok (.slice (some ⟨b,1,none⟩) (c-1) 7) w:=by
 rcases (show c=1\/c=2\/c=3\/c=4\/c=5\/c=6\/c=7 by omega) with rfl|rfl|rfl|rfl|rfl|rfl|rfl
 all_goals (show Sem.run _ _ _=_;kernel_rfl)
theorem Gk (r:List Int)(sQ:r.length=8)(aa:∀k,0<=r.getD k 0/\r.getD k 0<18446744073709551616)(w:World):
  Calls prog 224 #[.agg (aO r).toArray] w (mi w (jg r) (l6 r)):=by
 have G:=bf.new w (aO r).toArray 195;obtain⟨W0,J⟩:∃W0,W0=w.alloc (.cells (aO r).toArray 195):=⟨_,rfl⟩;rw[<-J] at G;have nW:=ar G;have gH:Hid (ay [] w W0):=by
  rw[J];exact(ay.refl [] w).alloc _
 have nX:=ar J;have yL:=ar sQ;have OW:Hid (∀k,k<=3->(∀j,j<k->r.getD (2*j+1) 0≠0)->(k=3\/r.getD (2*k+1) 0=0)->∀n,n=2*k->Calls prog 210 #[.slice (some ⟨w.heap.size,1,none⟩) n 7] W0 λe w'=>mi w (jg r) (l6 r) e w'):=λk hk h he n W=>by
  have hc:=EM hk h he;have IW:=G.reads (o:=1) (n:=n) (c:=7) (by omega) (by omega) (by omega);have ag:((r.drop 1).take n).length=n:=by rw[aI,bu];omega
  have h6:∀j,0<=((r.drop 1).take n).getD j 0/\((r.drop 1).take n).getD j 0<18446744073709551616:=λj=>by
   by_cases hj:j<n
   ·have e0:((r.drop 1).take n).getD j 0=r.getD (1+j) 0:=by simp[hj,Nat.add_comm]
    rw[e0];exact aa _
   ·rw[aj,aP (by omega)]
    simp
  refine(sw IW (by omega) k (by omega) h6).mono λe w' hp=> ?_
  have e1:jg r=(r.drop 1).take n:=by rw[jg,hc,W]
  rw[e1,hc];have hw:=gH.out.size;rcases hp with ⟨g,a1,y,z,V,U⟩|⟨a1,y,z⟩
  ·exact .inl ⟨g,a1,y,by omega,V,gH.out.trans' U⟩
  ·exact .inr ⟨a1,y,gH.out.trans' z⟩
 have RM:Hid (∀j,j<8->W0.cell? ⟨w.heap.size,j,none⟩=some (.int .u64 (r.getD j 0))):=λj hj=>by
  rw[G.cell,aC,cG (by omega)]
 clear G J sQ aa nW yL;generalize (aO r).toArray=Z at *;go_enter func224,ntmps224;go_wp2_with fail;rw[<-nX.out];go_loopg [4] 3 (λgh s4 wx=>∃k b:Nat,k+gh=3/\b=2*k+1/\s4= .int .i64 (b:Int)/\Hid (∀j,j<k->r.getD (2*j+1) 0≠0)/\wx=W0)
 case atStart=>exact⟨0,1,by omega,by omega,rfl,λj hj=>by omega,rfl⟩
 case round=>
  obtain⟨k,b,hk,hb,rfl,HP,rfl⟩:=hrel;have G:(0:Int)<=(b:Int):=by omega
  have af:(1:Int)<=(b:Int):=by omega
  have ac:=Lt w.heap.size b (by omega) (by omega);obtain⟨n,W⟩:∃n,n=2*k:=⟨_,rfl⟩;rw[show b-1=n by omega] at ac;by_cases h7:b<7
  ·have ae:(b:Int)<7:=by omega
   have hc:=RM.out b (by omega);by_cases hx:r.getD b 0=0
   ·have HE:=ar (OW.out k (by omega) HP.out (.inr (by rw[<-hb];exact hx)) n W)
    rw[hx] at hc;clear hx hk W hb;go_wp2_with fail;refine HE.out.mono ?_;rintro e w' hp;rcases hp with ⟨g,rfl,y,z,V,U⟩|⟨rfl,y,z⟩
    ·have HF:Hid (mi w (jg r) (l6 r) (.returned (.tuple #[.slice (some ⟨g,0,none⟩) (l6 r) (l6 r),.bool true])) w'):= .inl ⟨g,rfl,y,z,V,U⟩
     clear y z V U;go_wp2_with fail;go_ret2;exact HF.out
    ·have HF:Hid (mi w (jg r) (l6 r) (.returned (.tuple #[.slice none 0 0,.bool false])) w'):= .inr ⟨rfl,y,z⟩
     clear y z;go_wp2_with fail;go_ret2;exact HF.out
   ·have HN:Hid (∀j,j<k+1->r.getD (2*j+1) 0≠0):=λj hj=>by
     by_cases e:j=k
     ·subst e;rw[<-hb];exact hx
     ·exact HP.out j (by omega)
    have ah:(r.getD b 0 != 0)=true:=bne_iff_ne.2 hx;clear hx;generalize r.getD b 0=x at *;have AO:Hid (b=2*k+1/\k+gk=3):=⟨hb,hk⟩;clear ac hb hk W;go_wp2_with fail;go_roundg (gk-1);case measure=>have :=AO.out;omega
    case rel=>exact⟨k+1,b+2,by have :=AO.out;omega,by have :=AO.out;omega,by go_num,HN.out,rfl⟩
  ·have ae:¬(b:Int)<7:=by omega
   have HE:=ar (OW.out k (by omega) HP.out (.inl (by omega)) n W);clear hk W hb;go_wp2_with fail;refine HE.out.mono ?_;rintro e w' hp;rcases hp with ⟨g,rfl,y,z,V,U⟩|⟨rfl,y,z⟩
   ·have HF:Hid (mi w (jg r) (l6 r) (.returned (.tuple #[.slice (some ⟨g,0,none⟩) (l6 r) (l6 r),.bool true])) w'):= .inl ⟨g,rfl,y,z,V,U⟩
    clear y z V U;go_wp2_with fail;go_ret2;exact HF.out
   ·have HF:Hid (mi w (jg r) (l6 r) (.returned (.tuple #[.slice none 0 0,.bool false])) w'):= .inr ⟨rfl,y,z⟩
    clear y z;go_wp2_with fail;go_ret2;exact HF.out
end Go.Proofs.YtepbpdipenedhaaGreatDoor
namespace Go.Proofs.YtepbpdipenedhaaGreatDoor
open Go.Proofs.Tryz
open Go.Shelf
variable{w:World}{T b b0 g gp k n sz:Nat}{A B L X:List Int}{own:List Nat}{ps:List (Int×Int)}{v:Value}{E:List (ByteArray×Int)}{xs:List Value}
def zR:Go.Shelf.Ren:=⟨λ|6=> 225|15=> 235|14=> 234|28=> 246|29=> 247|20=> 238|21=> 239|22=> 240|23=> 241|24=> 242|25=> 243|26=> 244|27=> 245|46=> 248|47=> 249|48=> 250|49=> 251|50=> 252|57=> 253|n=>n,λ|22=> 32|24=> 87|25=> 277|3=> 3|39=> 176|0=> 0|53=> 177|55=> 56|4=> 4|46=> 291|45=> 290|50=> 48|5=> 5|9=> 9|66=> 297|70=> 301|76=> 303|77=> 304|n=>n,λ|n=>n⟩
theorem MV:Go.Proofs.SlLaysF0.n6 prog zR:={
 mixed:=by kernel_rfl
 f6:=⟨Tryz.f225.name,by decide,func225.trans (b8 some (by kernel_rfl))⟩
 f14:=⟨Tryz.f234.name,by decide,func234.trans (b8 some (by kernel_rfl))⟩
 f15:= func235.trans (b8 some (by kernel_rfl))
 f20:=⟨Tryz.f238.name,by decide,func238.trans (b8 some (by kernel_rfl))⟩
 f21:=⟨Tryz.f239.name,by decide,func239.trans (b8 some (by kernel_rfl))⟩
 f22:=⟨Tryz.f240.name,by decide,func240.trans (b8 some (by kernel_rfl))⟩
 f23:=⟨Tryz.f241.name,by decide,func241.trans (b8 some (by kernel_rfl))⟩
 f24:=⟨Tryz.f242.name,by decide,func242.trans (b8 some (by kernel_rfl))⟩
 f25:=⟨Tryz.f243.name,by decide,func243.trans (b8 some (by kernel_rfl))⟩
 f26:=⟨Tryz.f244.name,by decide,func244.trans (b8 some (by kernel_rfl))⟩
 f27:=⟨Tryz.f245.name,by decide,func245.trans (b8 some (by kernel_rfl))⟩
 f28:= func246.trans (b8 some (by kernel_rfl))
 f29:= func247.trans (b8 some (by kernel_rfl))
 f46:=⟨Tryz.f248.name,by decide,func248.trans (b8 some (by kernel_rfl))⟩
 f47:= func249.trans (b8 some (by kernel_rfl))
 f48:= func250.trans (b8 some (by kernel_rfl))
 f49:=⟨Tryz.f251.name,by decide,func251.trans (b8 some (by kernel_rfl))⟩
 f50:=⟨Tryz.f252.name,by decide,func252.trans (b8 some (by kernel_rfl))⟩
 f57:=⟨Tryz.f253.name,by decide,func253.trans (b8 some (by kernel_rfl))⟩
 t0:= underlying0
 a0:= Tryz.isAgg0
 z0:= Tryz.sizeOf0
 v0:= Tryz.zeroValue0
 t3:= underlying3
 a3:= Tryz.isAgg3
 z3:= Tryz.sizeOf3
 v3:= Tryz.zeroValue3
 t4:= underlying4
 a4:= Tryz.isAgg4
 z4:= Tryz.sizeOf4
 v4:= Tryz.zeroValue4
 t5:= underlying5
 a5:= Tryz.isAgg5
 z5:= Tryz.sizeOf5
 v5:= Tryz.zeroValue5
 t9:= underlying9
 a9:= Tryz.isAgg9
 z9:= Tryz.sizeOf9
 v9:= Tryz.zeroValue9
 t22:= underlying32
 a22:= Tryz.isAgg32
 z22:= Tryz.sizeOf32
 v22:= Tryz.zeroValue32
 t25:= underlying277
 a25:= Tryz.isAgg277
 z25:= Tryz.sizeOf277
 v25:= Tryz.zeroValue277
 t39:= underlying176
 a39:= Tryz.isAgg176
 z39:= Tryz.sizeOf176
 v39:= Tryz.zeroValue176
 t45:= underlying290
 a45:= Tryz.isAgg290
 z45:= Tryz.sizeOf290
 v45:= Tryz.zeroValue290
 t46:= underlying291
 a46:= Tryz.isAgg291
 z46:= Tryz.sizeOf291
 v46:= Tryz.zeroValue291
 t50:= underlying48
 a50:= Tryz.isAgg48
 z50:= Tryz.sizeOf48
 v50:= Tryz.zeroValue48
 t53:= underlying177
 a53:= Tryz.isAgg177
 z53:= Tryz.sizeOf177
 v53:= Tryz.zeroValue177
 t55:= underlying56
 a55:= Tryz.isAgg56
 z55:= Tryz.sizeOf56
 v55:= Tryz.zeroValue56
 t66:= underlying297
 a66:= Tryz.isAgg297
 z66:= Tryz.sizeOf297
 v66:= Tryz.zeroValue297
 t70:= underlying301
 a70:= Tryz.isAgg301
 z70:= Tryz.sizeOf301
 v70:= Tryz.zeroValue301
 t76:= underlying303
 a76:= Tryz.isAgg303
 z76:= Tryz.sizeOf303
 v76:= Tryz.zeroValue303
 t77:= underlying304
 a77:= Tryz.isAgg304
 z77:= Tryz.sizeOf304
 v77:= Tryz.zeroValue304 }
end Go.Proofs.YtepbpdipenedhaaGreatDoor
namespace Go.Proofs.YtepbpdipenedhaaGreatDoor
open Go.Proofs.Tryz
open Go.RowKit
variable{w:World}{T b b0 g gp k n sz:Nat}{A B L X:List Int}{own:List Nat}{ps:List (Int×Int)}{v:Value}{E:List (ByteArray×Int)}{xs:List Value}
def xH (a b:ByteArray):Int:=if Op.bytesLess a.toList b.toList=true then -1 else if (a.toList==b.toList)=true then 0 else 1
theorem qR (a:ByteArray)(w:World):Calls prog 236 #[.string a] w λe w'=>e= .returned (.bool false)/\w=w':=by
 go_enter func236,ntmps236;go_wp2_with fail;go_ret;exact⟨by simp,rfl⟩
theorem Lu (a b:ByteArray)(w:World):Calls prog 227 #[.string a,.string b] w λe w'=>e= .returned (.int .i64 (xH a b))/\w=w':=by
 by_cases h:Op.bytesLess a.toList b.toList=true
 ·rw[show xH a b= -1 from aB h]
  go_enter func227,ntmps227;go_wp2_with fail;refine(qR _ _).mono ?_;rintro e w' ⟨rfl,rfl⟩;go_wp2_with fail;refine(qR _ _).mono ?_;rintro e w' ⟨rfl,rfl⟩;go_wp2_with fail;go_ret;exact⟨rfl,rfl⟩
 ·by_cases y:(a.toList==b.toList)=true
  ·rw[show xH a b=0 by unfold xH;rw[aA h,aB y]]
   go_enter func227,ntmps227;go_wp2_with fail;refine(qR _ _).mono ?_;rintro e w' ⟨rfl,rfl⟩;go_wp2_with fail;refine(qR _ _).mono ?_;rintro e w' ⟨rfl,rfl⟩;go_wp2_with fail;go_ret;exact⟨rfl,rfl⟩
  ·rw[show xH a b=1 by unfold xH;rw[aA h,aA y]]
   have z:(a.toList==b.toList)=false:=by simpa using y
   go_enter func227,ntmps227;go_wp2_with fail;refine(qR _ _).mono ?_;rintro e w' ⟨rfl,rfl⟩;go_wp2_with fail;refine(qR _ _).mono ?_;rintro e w' ⟨rfl,rfl⟩;go_wp2_with fail;go_ret;exact⟨rfl,rfl⟩
theorem OX (a b:ByteArray)(x y:Int)(w:World):Calls prog 226 #[.agg #[.string a,.int .i64 x],.agg #[.string b,.int .i64 y]] w λe w'=>e= .returned (.int .i64 (xH a b))/\∃q z,w'=Go.Sort.grow (w.drewN q) z:=by
 have h:=λG=>Lu a b G
 generalize xH a b=r at h ⊢;go_enter func226,ntmps226;go_wp2_with fail;refine(h _).mono ?_;rintro e w' ⟨rfl,rfl⟩;go_wp2_with fail;go_ret;exact⟨rfl,0,_,by rw[Go.Sort.alloc_eq_grow,Go.Sort.alloc_eq_grow,Go.Sort.grow_grow];rfl⟩
theorem ltN (x y:ByteArray×Int):Go.Proofs.ltOf (λa b:ByteArray×Int=>xH a.1 b.1) x y=Op.bytesLess x.1.toList y.1.toList:=by
 show decide (xH x.1 y.1<0)=_;unfold xH;cases h:Op.bytesLess x.1.toList y.1.toList with
 |true=>rw[aB rfl];rfl
 |false=>
  rw[aA (by decide)];by_cases z:(x.1.toList==y.1.toList)=true
  ·rw[aB z];rfl
  ·rw[aA z];rfl
theorem adA:Go.Sort.SWO (Go.Proofs.ltOf λa b:ByteArray×Int=>xH a.1 b.1) where
 irrefl x:=by rw[ltN];exact mo _
 trans x y z h1 h2:=by rw[ltN] at *;exact lZ _ _ _ h1 h2
 ntrans x y z h1 h2:=by
  rw[ltN] at *;by_cases e:y.1.toList=z.1.toList
  ·rw[<-e];exact h1
  ·have h3:=pD _ _ h2 e
   cases h4:Op.bytesLess x.1.toList z.1.toList with
   |false=>rfl
   |true=>
    have h5:=lZ _ _ _ h4 h3;rw[h1] at h5;cases h5
end Go.Proofs.YtepbpdipenedhaaGreatDoor
namespace Go.Proofs.YtepbpdipenedhaaGreatDoor
open Go.Proofs.Tryz
open Go.RowKit Go.Shelf Go.Sort
variable{w:World}{T b b0 g gp k n sz:Nat}{A B L X:List Int}{own:List Nat}{ps:List (Int×Int)}{v:Value}{E:List (ByteArray×Int)}{xs:List Value}
theorem insert_nil(w:World)(z:Value):Calls prog 238 #[.slice none 0 0,.int .i64 0,.int .i64 0,z] w λe w'=>e= .returned (.tuple #[])/\w=w':=by
 go_enter func238,ntmps238;go_wp2_with fail;go_loopg [8] 0 (λh s8 y=>h=0/\s8= .int .i64 1/\w=y)
 case atStart=>exact⟨rfl,rfl,rfl⟩
 case round=>
  obtain⟨-,rfl,rfl⟩:=hrel;go_wp2_with fail;go_end0;exact⟨rfl,rfl⟩
theorem VU (w:World)(z:Value):Calls prog 234 #[.slice none 0 0,.int .i64 0,.int .i64 0,.int .i64 0,z] w λe w'=>e= .returned (.tuple #[])/\w=w':=by
 go_enter func234,ntmps234;go_wp2_with fail;go_loopg [1,2,3] 0 (λh s1 s2 s3 y=>h=0/\s1= .int .i64 0/\s2= .int .i64 0/\s3= .int .i64 0/\w=y)
 case atStart=>exact⟨rfl,rfl,rfl,rfl,rfl⟩
 case round=>
  obtain⟨-,rfl,rfl,rfl,rfl⟩:=hrel;go_wp2_with fail;refine(insert_nil _ _).mono ?_;rintro e w' ⟨rfl,rfl⟩;go_wp2_with fail;refine aL (results_none rfl _ _ _) rfl ?_;exact⟨rfl,rfl⟩
theorem SJ (w:World)(y:Value):Calls prog 225 #[.slice none 0 0,y] w λe w'=>e= .returned (.tuple #[])/\w=w':=by
 have h:Calls prog 235 #[.int .u64 0] w λe w'=>e= .returned (.int .i64 (Lib.bitLen 0:Nat))/\w'=w:=Any.bits_Len (SlLaysF0.n15.bits (P:= prog) (ρ:=zR) { MV with }) 0 w (by omega) (by omega)
 rw[show Lib.bitLen 0=0 from rfl] at h;go_enter func225,ntmps225;go_wp2_with fail;refine h.mono ?_;rintro e w' ⟨rfl,rfl⟩;go_wp2_with fail;refine(VU _ _).mono ?_;rintro e w' ⟨rfl,rfl⟩;go_wp2_with fail;go_end0;exact⟨rfl,rfl⟩
def Gl (p:ByteArray×Int):List Value:=[.string p.1,.int .i64 p.2]
theorem EN (E:List (ByteArray×Int))(t:Nat)(h:t<E.length*2):(dH E)[t]? =some (flatK Gl 2 E.toArray)[t]! :=by
 have z:t/2<E.length:=by omega
 rw[get_flatK _ _ _ _ (by simpa using h)];have J:E.toArray[t/2]! =(dZ E (t/2),iC E (t/2)):=by
  rw[getElem!_pos _ _ (by simpa using z)];simp[dZ,iC,z]
 rw[J];have y:=na E (t/2) z;rcases (show t%2=0\/t%2=1 by omega) with G|G
 ·rw[show t/2*2=t by omega] at y
  rw[G,y.1];rfl
 ·rw[show t/2*2+1=t by omega] at y
  rw[G,y.2];rfl
theorem SK (p q:ByteArray×Int):ltOf (λa b:ByteArray×Int=>xH a.1 b.1) p q=Op.bytesLess p.1.toList q.1.toList:=ltN p q
theorem I6{V:Nat}(h:w.ownsRow V 87 2 v E.length (dH E))(aD:E.length<=10000):
  Calls prog 225 #[v,.func (.func 226) #[] #[]] w λe w'=>e= .returned (.tuple #[])/\∃Z,Z.Perm E/\
   (∀i j,i<j->j<Z.length->Op.bytesLess (dZ Z j).toList (dZ Z i).toList=false)/\w'.ownsRow V 87 2 v Z.length (dH Z)/\∃l,ay l w w'/\∀k,k∈l->v.ownBlock=some k:=by
 obtain⟨hl,h⟩:=h;rcases h with ⟨rfl,hn⟩|⟨g,cap,J,rfl,hg,hh,ac,af,ak,ar⟩
 ·have hE:E=[]:=bc hn
  subst hE;refine(SJ w _).mono λe w' he=>⟨he.1,[],List.Perm.refl _,λi j _ hj=>by simp at hj,he.2▸⟨rfl,.inl ⟨rfl,rfl⟩⟩,[],he.2▸ay.refl _ _,λk U=>by cases U⟩
 ·have W:∀t,t<E.length*2->w.cell? ⟨g,t,none⟩=some (flatK Gl 2 E.toArray)[t]! :=λt ht=>by
   have hb:bf w g J 87 :=hh;rw[hb.cell,<-EN E t ht,<-ar,fS ht,cE]
  have hH:HoldsK Gl 2 w g 0 E.toArray:=λj hj=>by
   rw[size_flatK] at hj;rw[aV];exact⟨W j (by simpa using hj),bf.frozen (c:=J) (T:= 87) hh j⟩
  have hs:=AnyQ.slices_SortFunc MV 2 (λw=>by kernel_rfl) (λw=>by kernel_rfl) Gl (λ_=>rfl) (λx u hu=>by
   simp only[Gl,aQ,aS,bD] at hu;rcases hu with rfl|rfl<;>rfl) (λa b:ByteArray×Int=>xH a.1 b.1) adA 226 #[] g 0 cap E.toArray w (enters_of func226 (by kernel_rfl) rfl) (λm os dk _ x y=>OX x.1 y.1 x.2 y.2 _) hH (Array.getElem?_eq_some_iff.1 hh).1 (by simp;omega)
  refine(show Calls _ _ _ _ _ from hs).mono ?_;rintro e w' ⟨rfl,z,m,os,hp,Zo,rfl⟩;obtain⟨ag,-,G⟩:=hp;have ae:z.size=E.length:=by simpa using ag
  have ai:z.extract 0 E.toArray.size=z:=by rw[<-ag];exact Array.extract_size
  have ax:E.toArray.extract 0 E.toArray.size=E.toArray:=Array.extract_size;rw[ai,ax] at G;have aC:=(Array.getElem?_eq_some_iff.1 hh).1;have aa:(sortWorldK Gl 2 w g 0 m z os).heap[g]? =some (.cells (putCells id 0 (flatK Gl 2 z) J) 87 (0,0)):=by
   show((w.heap.modify g _)++os)[g]? =_;rw[Array.getElem?_append_left (by rw[Array.size_modify];exact aC),Array.getElem?_modify,aB rfl,hh];rfl
  have zS:ay [g] w (sortWorldK Gl 2 w g 0 m z os):=by
   refine⟨rfl,rfl,rfl,?_,λk U ah=> ?_⟩
   ·show w.heap.size<=((w.heap.modify g _)++os).size
    rw[Array.size_append,Array.size_modify];omega
   ·show((w.heap.modify g _)++os)[k]? =_
    rw[Array.getElem?_append_left (by rw[Array.size_modify];exact U),Array.getElem?_modify,aA (λe=>ah (by rw[<-e];simp))]
  have az:(flatK Gl 2 z).size=E.length*2:=by rw[size_flatK,ae]
  have NT:z.toList.length=E.length:=by rw[cV,ae]
  refine⟨rfl,z.toList,G,λi j av hj=> ?_,⟨by rw[jb],.inr ⟨g,cap,_,by rw[NT],hg,aa,by rw[NT];exact ac,af,by simp[putCells,ak],?_⟩⟩,[g],zS,λk U=>by rw[au] at U;rw[U];rfl⟩
  ·have h1:=Zo i j (eD _) av (by rw[bH];omega)
   rw[SK] at h1;have e:∀k:Nat,k<z.size->z[k]! =(dZ z.toList k,iC z.toList k):=λk U=>by
    rw[getElem!_pos z k U];simp[dZ,iC,U]
   rw[e j (by omega),e i (by omega)] at h1;exact h1
  ·apply bW
   intro t;rw[NT];by_cases ht:t<E.length*2
   ·rw[fS ht,EN z.toList t (by rw[NT];exact ht)]
    have hc:t<J.size:=by omega
    simp only[putCells,cE,Array.getElem?_mapIdx,eD,true_and,aV,Nat.sub_zero,Array.toArray_toList];rw[Array.getElem?_eq_getElem hc,fC,az,aB ht];rfl
   ·rw[aP (by rw[aI];omega),aP (by rw[jb,NT];omega)]
end Go.Proofs.YtepbpdipenedhaaGreatDoor
namespace Go.Proofs.YtepbpdipenedhaaGreatDoor
open Go.Proofs.Tryz
open Go.RowKit
variable{w:World}{T b b0 g gp k n sz:Nat}{A B L X:List Int}{own:List Nat}{ps:List (Int×Int)}{v:Value}{E:List (ByteArray×Int)}{xs:List Value}
instance OY (L:List Int) (n:Nat):Decidable (nD L n):=inferInstanceAs (Decidable (∀k,k<n->_))
def tS (X:List Int) (b:Nat):List (ByteArray×Int):=jM (jg (dz X (1080+8*b))) (l6 (dz X (1080+8*b)))
def EO (X:List Int) (b:Nat):Prop:=nD (jg (dz X (1080+8*b))) (l6 (dz X (1080+8*b)))
instance (X:List Int) (b:Nat):Decidable (EO X b):=OY _ _
def km (X:List Int):Nat->Int->List Nat->List (ByteArray×Int)->Option (List Nat×List (ByteArray×Int))
 |0,_,_,_=>none
 |n+1,b,own,E=>if b=0 then some (own,E) else if 256<=b\/own.length=24 then none else
   if EO X b.toNat then km X n (X.getD (1080+8*b.toNat) 0) (own++[b.toNat]) (E++tS X b.toNat) else none
def pH (X L:List Int):Nat->Option (List Nat×List (ByteArray×Int))
 |0=>some ([],[])
 |q+1=>(pH X L q).bind λr=>km X (25-r.1.length) (L.getD (2+q) 0) r.1 r.2
def SL (X L:List Int):Option (List Nat×List (ByteArray×Int)):=pH X L 4
theorem I7 (h:pH X L k=none):∀{n:Nat},k<=n->pH X L n=none:=by
 intro n y;induction y with
 |refl=>exact h
 |step _ ih=>rw[pH,ih];rfl
structure qj (own:List Nat) (E:List (ByteArray×Int)):Prop where
 len:own.length<=24
 num:∀c,c∈own->0<c/\c<256
 ents:E.length<=3*own.length
 size:∀p,p∈E->p.1.size<=7
theorem SM (X:List Int)(b:Nat):(tS X b).length<=3:=by rw[tS,iD];exact MU _
theorem OZ (X:List Int)(b:Nat):∀p,p∈tS X b->p.1.size<=7:=by
 intro p h;unfold tS at h;obtain⟨k,y,rfl⟩:=bU h;rw[uY _ _ k (by rwa[iD] at y)];exact um _
theorem qj.step(h:qj own E)(X:List Int){b:Nat}(V:0<b)(J:b<256)(U:own.length<24):qj (own++[b]) (E++tS X b):=by
 have :=SM X b;have :=h.ents;refine⟨by simp;omega,λc z=> ?_,by simp;omega,λp G=> ?_⟩
 ·rcases aR.1 z with y|y
  ·exact h.num c y
  ·rw[au] at y;omega
 ·rcases aR.1 G with y|y
  ·exact h.size p y
  ·exact OZ X b p y
theorem qj.nil:qj [] []:=⟨by simp,λc h=>by simp at h,by simp,λp h=>by simp at h⟩
def uC (w:World) (X L:List Int) (e:Ending) (w':World):Prop:=
 (∃own E h G y J z,e= .returned (.tuple #[G,J,.bool true])/\SL X L=some (own,E)/\qj own E/\h.Perm E/\(∀i j,i<j->j<h.length->Op.bytesLess (dZ h j).toList (dZ h i).toList=false)/\
  br w' G y h/\w.heap.size<=y/\kb w' J z own/\w.heap.size<=z/\ay [] w w')\/
 (e= .returned (.tuple #[.slice none 0 0,.slice none 0 0,.bool false])/\SL X L=none/\ay [] w w')
theorem Zp (b:Nat)(w:World):(Instr.sliceAt 195 (.pointer (some ⟨b,0,none⟩)) (some (.int .i64 2)) (some (.int .i64 6)) none).run prog w= .ok (.slice (some ⟨b,2,none⟩) 4 6) w:=by show Sem.run _ _ _=_;kernel_rfl
structure Cy (w wx:World) (v7 v8:Value) (own:List Nat) (E:List (ByteArray×Int)):Prop where
 ents:wx.ownsRow (w.heap.size+1) 87 2 v7 E.length (dH E)
 nums:wx.ownsRow (w.heap.size+1) 3 1 v8 own.length (cM own)
 keep:ay [] w wx
 ok:qj own E
theorem wh{b1 b2 T1 z z1 z2 n1 n2:Nat}{v1 v2:Value}{Z J:List Value}(U:w.ownsRow b1 T1 z1 v1 n1 Z)(W:w.ownsRow b2 z z2 v2 n2 J)(hT:T1≠z):∀g,v1.ownBlock=some g->v2.ownBlock≠some g:=by
 intro g e1 e2;obtain⟨-,U⟩:=U;obtain⟨-,W⟩:=W;rcases U with ⟨rfl,-⟩|⟨g1,c1,G,rfl,-,aa,-⟩
 ·cases e1
 ·rcases W with ⟨rfl,-⟩|⟨g2,c2,ac,rfl,-,V,-⟩
  ·cases e2
  ·cases e1
   cases e2;have y:w.heap[g1]? =some (.cells G T1 (0,0)):=aa;have h:w.heap[g1]? =some (.cells ac z (0,0)):=V;rw[y] at h;cases h;exact hT rfl
theorem vA{w':World}{y:Nat}{row:Option Nat}(h:w.ownsRow y T sz v n xs)(hg:w.grownBy w' row)(J:∀g,v.ownBlock=some g->row≠some g):w'.ownsRow y T sz v n xs:=by
 obtain⟨h0,h1⟩:=h;refine⟨h0,?_⟩;rcases h1 with ⟨z,V⟩|⟨U,cap,G,z,V,W,e3⟩
 ·exact .inl ⟨z,V⟩
 ·refine .inr ⟨U,cap,G,z,V,?_,e3⟩
  rw[<-W];exact hg.block U (Array.getElem?_eq_some_iff.1 W).1 λZ=>J U (by rw[z];rfl) Z.symm
theorem Cy.keeps{U z:World}{J G:Value}(h:Cy w U J G own E)(y:ay [] U z):Cy w z J G own E:=
 ⟨ct h.ents y (by simp),ct h.nums y (by simp),h.keep.trans' y,h.ok⟩
theorem eQ.cellsA{cap:Nat}(h:eQ w (.slice (some ⟨g,0,none⟩) n cap) g T sz n xs):n≠0->∃G,some (⟨g,0,none⟩:Addr)=some G/\∀j u,xs[j]? =some u->w.cell? (G.add j)=some u:=λU=>by
 obtain⟨-,-,J,-⟩:=h.cell U;refine⟨_,rfl,λj u y=> ?_⟩;have z:j<xs.length:=(List.getElem?_eq_some_iff.1 y).1;rw[h.len] at z;rw[add_plain,aV,J j z,y]
theorem Lv (K4:eT w b gp B ps)(Ay:yY (az B ps)){L:List Int}(hL:L.length=8)(uO:yY L):
  Calls prog 214 #[.pointer (some ⟨b,0,none⟩),.agg (aO L).toArray] w (uC w (az B ps) L):=by
 obtain⟨ie,bn,bB,bt,bC⟩:=cr Tryz.info_entry;obtain⟨ii,bu,bF,bH,VD⟩:=cr Tryz.info_int;have af:=bf.new w (aO L).toArray 195;obtain⟨W0,ac⟩:∃W0,W0=w.alloc (.cells (aO L).toArray 195):=⟨_,rfl⟩;rw[<-ac] at af;have eo:ay [] w W0:=by
  rw[ac];exact(ay.refl _ _).alloc _
 have bP:W0.heap.size=w.heap.size+1:=by rw[ac];simp
 have nX:=ar ac;have p9:=ar af;have yc:=ar K4;have O0:=ar Ay;have G:Hid (Cy w W0 (.slice none 0 0) (.slice none 0 0) [] []):=⟨⟨rfl,.inl ⟨rfl,rfl⟩⟩,⟨rfl,.inl ⟨rfl,rfl⟩⟩,eo,qj.nil⟩;have HC:Hid (∀q wx,q<4->ay [] W0 wx->wx.cell? ⟨w.heap.size,2+q,none⟩=some (.int .u64 (L.getD (2+q) 0))):=λq wx hq V=>by rw[(af.keep V (by simp)).cell,aC,cG (by omega)]
 have bq:=ar uO;have bO:=Zp w.heap.size;clear af eo ac K4 Ay hL uO;generalize XA:az B ps=X at *;have MW:=ar XA;clear XA;generalize (aO L).toArray=ZL at *;go_enter func214,ntmps214;go_wp2_with fail;rw[<-nX.out];go_loopg [7,8,17] 4 (λgh s7 s8 s17 wx=>∃(q:Nat) (own:List Nat) (E:List (ByteArray×Int)),q+gh=4/\s17= .int .i64 (q:Int)/\Hid (pH X L q=some (own,E)/\Cy w wx s7 s8 own E/\ay [] W0 wx))
 case atStart=>exact⟨0,[],[],rfl,rfl,rfl,G.out,ay.refl _ _⟩
 case round=>
  clear G;obtain⟨q,own,E,hq,rfl,HP⟩:=hrel;obtain⟨ai,hR,sI⟩:=HP.out;cases gk with
  |zero=>
   obtain rfl:q=4:=by omega
   have aT:=ar (I6 hR.ents (by have :=hR.ok.ents;have :=hR.ok.len;omega));have HR:=ar hR;have G:=ar ai;clear ai hR sI HP;go_wp2_with fail;refine aT.out.mono ?_;rintro e w1 ⟨rfl,z,aa,ak,av,l,aH,hl⟩;have HF:Hid (uC w X L (.returned (.tuple #[u7,u8,.bool true])) w1):=by
    have Zq:w1.ownsRow (w.heap.size+1) 3 1 u8 own.length (cM own):=ct HR.out.nums aH λk V hm=>wh HR.out.ents HR.out.nums (by decide) k (hl k hm) V
    obtain⟨ge,aU,aJ⟩:=eQ.of_row av;obtain⟨go,Xe,bX⟩:=kb.of_row Zq;have bG:ay [] w w1:=HR.out.keep.trans aH λk V=> .inr (by have :=cz HR.out.ents k (hl k V);omega)
    have he:∃ag,br w1 u7 ag z/\w.heap.size<=ag:=by
     by_cases h0:z.length=0
     ·exact⟨w.heap.size,(aU.ereads rfl).anyG h0 _,aG _⟩
     ·exact⟨ge,aU.ereads rfl,by have :=(aJ h0).1;omega⟩
    have ho:∃aj,kb w1 u8 aj own/\w.heap.size<=aj:=⟨go,Xe,by omega⟩;obtain⟨ag,h1,h2⟩:=he;obtain⟨aj,h3,h4⟩:=ho;exact .inl ⟨own,E,z,u7,ag,u8,aj,rfl,G.out,HR.out.ok,aa,ak,h1,h2,h3,h4,bG⟩
   clear aa ak av aH hl HR G aT;go_wp2_with fail
   go_ret3
   exact HF.out
  |succ gg=>
   have Vc:q<4:=by omega
   have bR:(q:Int)<4:=by omega
   have bT:(0:Int)<=(q:Int):=by omega
   have c2:=HC.out q wr Vc sI;have HF:Hid (L.getD (2+q) 0=L.getD (2+q) 0):=rfl;have bj:=bq.out (2+q);have G:=ar ai;have HR:=ar hR;have qp:=ar sI;clear ai hR sI HP;generalize aY:L.getD (2+q) 0=fi at *;have Au:=ar aY;clear aY;go_wp2_with fail;go_loopg [7,8,11] (25-own.length) (λgh s7 s8 NZ wx=>∃(y:List Nat) (z:List (ByteArray×Int)) (bi:Int),y.length+gh=25/\NZ= .int .u64 bi/\Hid (km X gh bi y z=km X (25-own.length) fi own E/\0<=bi/\bi<18446744073709551616/\Cy w wx s7 s8 y z/\ay [] W0 wx))
   case atStart=>exact⟨own,E,fi,by have :=HR.out.ok.len;omega,rfl,rfl,bj.1,bj.2,HR.out,qp.out⟩
   case round=>
    obtain⟨y,z,bi,bJ,rfl,HP⟩:=hrel;obtain⟨bk,bN,Cb,aF,aM⟩:=HP.out;have bU:=aF.ok.len;cases gk with
    |zero=>omega
    |succ gk=>
     have Zr:=ar bk;have W:=ar aF;have I8:=ar aM;have Cz:Hid (∀wz,ay [] wr wz->km X (gk+1) bi y z=none->uC w X L (.returned (.tuple #[.slice none 0 0,.slice none 0 0,.bool false])) wz):=λwz bD hn=>by
      refine .inr ⟨rfl,?_,W.out.keep.trans' bD⟩;refine I7 (k:=q+1) ?_ (by omega);rw[pH,G.out,Au.out];show km X (25-own.length) fi own E=none;rw[<-Zr.out];exact hn
     clear bk aF aM HP;by_cases hz:bi=0
     ·subst hz
      go_wp2_with fail;go_roundg gg;case measure=>omega
      case rel=>
       refine⟨q+1,y,z,by omega,by simp,?_,W.out,I8.out⟩;rw[pH,G.out,Au.out];show km X (25-own.length) fi own E=_;rw[<-Zr.out,km,aB rfl]
     ·have Ex:(bi==0)=false:=by simpa using hz
      obtain⟨a8,c8,rfl,bM,bS⟩:=ic W.out.nums;by_cases rI:(256:Int)<=bi
      ·have HF:=ar (Cz.out _ (ay.refl _ _) (by rw[km,aA hz,aB (.inl rI)]))
       clear Cz Zr W I8;go_wp2_with fail
       go_ret3
       exact HF.out
      ·by_cases Kc:y.length=24
       ·have HF:=ar (Cz.out _ (ay.refl _ _) (by rw[km,aA hz,aB (.inr Kc)]))
        clear Cz Zr W I8;rw[Kc];go_wp2_with fail
        go_ret3
        exact HF.out
       ·have bA:¬(y.length:Int)=24:=by omega
        have bL:((y.length:Int)==24)=false:=by simpa using bA
        obtain⟨c,hc⟩:∃c:Nat,bi=(c:Int):=⟨bi.toNat,by omega⟩;have ba:0<c:=by omega
        have Z:c<256:=by omega
        have bY:wrap64 bi=bi:=by unfold wrap64;omega
        have Dp:=ar (λwx=>jI bi wx);have Am:Hid (jH bi=((1080+8*c:Nat):Int)):=by
         show _=_;rw[hc,jH,aA (by omega)];omega
        have kH:=ar (mL (yc.out.keep W.out.keep (by simp) (by simp)) (1080+8*c) (by omega));rw[MW.out] at kH;have XB:Hid (km X (gk+1) bi y z=if EO X c then km X gk (X.getD (1080+8*c) 0) (y++[c]) (z++tS X c) else none):=by
         show _=_;rw[km,aA hz,aA (by omega),show bi.toNat=c by omega]
        have aK:Hid (bi=(c:Int)/\0<c/\c<256):=⟨hc,ba,Z⟩;have yZ:=iB X (1080+8*c);have uM:Hid (yY (dz X (1080+8*c))):=yY.row O0.out _;have aN:X.getD (1080+8*c) 0=(dz X (1080+8*c)).getD 0 0:=(jt X (1080+8*c) 0 (by omega)).symm;have bw:=ar aN;have Ry:Hid (EO X c↔nD (jg (dz X (1080+8*c))) (l6 (dz X (1080+8*c)))):=Iff.rfl;have Ug:Hid (tS X c=jM (jg (dz X (1080+8*c))) (l6 (dz X (1080+8*c)))):=rfl;have bK:=MU (dz X (1080+8*c));clear hc ba Z aN;generalize bE:((1080+8*c:Nat):Int)=pi at *;generalize dz X (1080+8*c)=RX at *;clear bE;have YD:=jx;generalize sP:(aO (List.replicate 8 0)).toArray=Z8 at *;have yb:=ar sP;clear sP;go_wp2_with fail;refine(Dp.out _).mono ?_;rintro e wy ⟨rfl,rfl⟩;rw[Am.out];go_wp2_with fail;refine kH.out.mono ?_;rintro e w1 ⟨rfl,aI⟩;obtain⟨w2,aQ,Zt,bc⟩:=bo (P:= prog) (ty:= 195) (cs:=aO RX) (by rw[aZ,yZ];exact il) (bf.new w1 Z8 195) (by rw[<-yb.out];simp[aZ,yZ]) (eF _);have Av:=ar aQ;have uI:=ar (dX Zt yZ);have bl:=aI.size;have bb:ay [] wr w2:=(aI.alloc (.cells Z8 195)).trans bc (by intro x hx;rw[au] at hx;omega);have BS:=ar (Gk RX yZ uM.out w2);have aR:=ar Zt;have bh:=ar bb;have bg:Hid (wr.heap.size<=w1.heap.size):=bl;clear aQ Zt bc bb aI kH bl;generalize bQ:w1.heap.size=J at *;go_wp2_with(first|(with_reducible refine gS 195 Av.out ?_)|(with_reducible refine gL 195 uI.out ?_));refine BS.out.mono ?_;rintro e w3 (⟨ge,rfl,ah,aJ,ae,U⟩|⟨rfl,ae,U⟩)
        ·have bW:=ar ah
         have lV:Hid (ay [] wr w3):=bh.out.trans' U;have Uo:=W.out.keeps lV.out;obtain⟨ax,w4,aS,Xi,QC⟩:=jV (P:= prog) 32 87 32 ie _ 2 24 underlying32 bn bB bt bC rfl (by omega) _ _ u7 _ Uo.ents (some ⟨ge,0,none⟩) (l6 RX) (l6 RX) _ ah.len (eQ.cellsA ah) (rA _) (by have :=Uo.ok.ents;unfold maxLen;omega) (by have :=Uo.ok.ents;omega) (by have :=lV.out.size;have :=I8.out.size;omega);have bV:w.heap.size+1<=w3.heap.size:=by have :=lV.out.size;have :=I8.out.size;omega
         have Zq:w4.ownsRow (w.heap.size+1) 3 1 (.slice a8 y.length c8) y.length (cM y):=vA Uo.nums QC λg e8 e7=>wh Uo.ents Uo.nums (by decide) g e7 e8
         have DN:ay [] w w4:=Uo.keep.grown QC λk V=>by have :=cz Uo.ents k V;omega
         have SN:bf w4 J (aO RX).toArray 195 :=(QC.block J ((aR.out.keep U (by simp)).lt) λe7=>by
          have h1:=vS W.out.ents J e7.symm;have h2:=bg.out;omega).trans (aR.out.keep U (by simp))
         have aW:=bf.new w4 #[.int .i64 bi] 3;obtain⟨aX,w6,sQ,aP,Iv⟩:=jV (P:= prog) 141 3 141 ii _ 1 8 underlying141 bu bF bH VD rfl (by omega) _ _ (.slice a8 y.length c8) _ (ct Zq ((ay.refl [] w4).alloc (.cells #[.int .i64 bi] 3)) (by simp)) (some ⟨w4.heap.size,0,none⟩) 1 1 [.int .i64 bi] rfl (λ_=>⟨_,rfl,λj u hu=>by
          have hj:j<1:=(List.getElem?_eq_some_iff.1 hu).1;obtain rfl:j=0:=by omega
          rw[add_plain,aW.cell];exact hu⟩) (λu hu=>by rw[au] at hu;rw[hu];rfl) (by unfold maxLen;omega) (by omega) (by have :=QC.size;simp;omega)
         have aV:w6.ownsRow (w.heap.size+1) 87 2 ax (z++tS X c).length (dH (z++tS X c)):=by
          have h1:w4.ownsRow (w.heap.size+1) 87 2 ax (z++tS X c).length (dH (z++tS X c)):=by
           rw[Ug.out,lN,aD,iD];exact Xi
          have h2:=ct h1 ((ay.refl [] w4).alloc (.cells #[.int .i64 bi] 3)) (by simp);exact vA h2 Iv λg e7 e8=>wh h2 (ct Zq ((ay.refl [] w4).alloc (.cells #[.int .i64 bi] 3)) (by simp)) (by decide) g e7 e8
         have aL:w6.ownsRow (w.heap.size+1) 3 1 aX (y++[c]).length (cM (y++[c])):=by
          have e:cM (y++[c])=cM y++[.int .i64 bi]:=by rw[aK.out.1];simp[cM]
          rw[e,aD];exact aP
         have DI:ay [] w w6:=(DN.alloc (.cells #[.int .i64 bi] 3)).grown Iv λk V=>by have :=cz Zq k V;omega
         have XC:bf w6 J (aO RX).toArray 195 :=(Iv.block J ((SN.alloc _).lt) λe8=>by
          have h1:=vS W.out.nums J e8.symm;have h2:=bg.out;omega).trans (SN.alloc _)
         have bI:Hid (Cy w w6 ax aX (y++[c]) (z++tS X c)):=⟨aV,aL,DI,W.out.ok.step X aK.out.2.1 aK.out.2.2 (by omega)⟩;have bv:Hid (ay [] W0 w6):=by
          have h1:ay [] W0 w4:=(I8.out.trans' lV.out).grown QC λk V=>by have :=cz Uo.ents k V;omega
          exact(h1.alloc (.cells #[.int .i64 bi] 3)).grown Iv λk V=>by have :=cz Zq k V;omega
         have cx:w6.cell? ⟨J,0,none⟩=some (.int .u64 (RX.getD 0 0)):=by rw[XC.cell,aC,cG (by omega)]
         have bp:=ar aS;have yL:=ar sQ;have bz:Hid (km X gk (RX.getD 0 0) (y++[c]) (z++tS X c)=km X (25-own.length) fi own E):=by
          show _=_;rw[<-Zr.out,XB.out,aB (Ry.out.2 ae),bw.out]
         have XD:=uM.out 0;clear Uo Xi QC Zq DN SN aW aP Iv aV aL DI XC ah aJ ae U aS sQ Cz Zr W I8 BS;generalize RX.getD 0 0=xn at *;go_wp2_with(first|((with_reducible show wpList _ _ _ (⟨some 45,_,_,_,_,_⟩::_) _ _);refine wpList_append_run rfl (.tmp 43) (.tmp 44) 32 32 rfl u7 (.slice (some ⟨ge,0,none⟩) (l6 RX) (l6 RX)) rfl rfl bp.out ?_)|((with_reducible show wpList _ _ _ (⟨some 50,_,_,_,_,_⟩::_) _ _);refine wpList_append_run rfl (.tmp 46) (.tmp 49) 141 141 rfl (.slice a8 y.length c8) (.slice (some ⟨w4.heap.size,0,none⟩) 1 1) rfl rfl yL.out ?_));go_roundg gk;case measure=>omega
         case rel=>exact⟨y++[c],z++tS X c,xn,by simp;omega,rfl,bz.out,XD.1,XD.2,bI.out,bv.out⟩
        ·have HF:=ar (Cz.out w3 (bh.out.trans' U) (by rw[XB.out,aA (λh=>ae (Ry.out.1 h))]))
         clear Cz Zr W I8 ae U;go_wp2_with fail
         go_ret3
         exact HF.out
end Go.Proofs.YtepbpdipenedhaaGreatDoor
