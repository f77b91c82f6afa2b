/- Lemmas. -/
import Derived.Test.YtcecbdeamjigiaaGreatDoorH11
import Derived.Ground.SlsfProg
import Derived.Shelf.SlSortCmp.WholeK
import Derived.Sort.Grow
set_option maxHeartbeats 8000000
set_option maxRecDepth 100000
namespace Go.Proofs.YtcecbdeamjigiaaGreatDoor
open Go.RowKit
variable{w:World}{T b b0 g gp k n:Nat}{A B L X:List Int}{own:List Nat}{ps:List (Int×Int)}{v:Value}{E:List (ByteArray×Int)}{xs:List Value}
theorem Wi (k:Nat)(h0:0<k)(hk:k<=1000)(y:Int)(U:y=(k:Int))(w:World):Calls Tryz.prog 230 #[.slice none 0 0,.int .i64 y] w λe w'=>
  ∃c,e= .returned (.slice (some ⟨w.heap.size,0,none⟩) 0 c)/\w'.ownsRow w.heap.size 55 1 (.slice (some ⟨w.heap.size,0,none⟩) 0 c) 0 []/\ay [] w w':=by
 obtain⟨i0,W,J,G,z⟩:=cJ Tryz.info_u64;obtain⟨c,w',Z,hc,h,V⟩:=xk (P:= Tryz.prog) w 69 3 55 i0 _ .i64 .i64 Tryz.underlying69 Tryz.underlying3 W J G rfl k h0 hk z;have h1:¬y<0:=by omega
 have h2:0<y:=by omega
 have h3:wrap64 y=y:=by unfold wrap64;omega
 simp only[<-U] at Z;have HO:=ar h;have HK:=ar V;have aa:c≠0:=by omega
 have ac:(0:Int)<=(c:Int):=by omega
 clear h V U W J G z hc;go_enter Tryz.func230,Tryz.ntmps230;go_wp2_with(at_builtin;refine wpList_append_run rfl (.tmp 20) (.tmp 21) 69 3 ?_ (.slice none 0 0) (.int .i64 y) ?_ ?_ (Z _) ?_;all_goals first|rfl|skip);go_ret;exact⟨c,rfl,HO.out,HK.out⟩
theorem zE{a:Option Addr}{m c:Nat}{y:List Value}(h:Reads w (.slice a m c) g y)(G:m≠0):∃z,a=some z/\∀j u,y[j]? =some u->w.cell? (z.add j)=some u:=by
 obtain⟨a',c',U,h2,h3,W⟩:=h;cases U;obtain⟨-,off,rfl,V⟩:=W (by intro e;rw[e] at G;exact G rfl);refine⟨_,rfl,λj u J=> ?_⟩;have Z:j<y.length:=(List.getElem?_eq_some_iff.1 J).1;rw[add_plain,V j Z,J]
def szC (j:Nat):Nat:=if j=0 then 0 else if j=1 then 5 else 13
def Ll (h y:List Int) (j:Nat):List Int:=if j=0 then [] else if j=1 then h else h++y
theorem OX{gs g1 g2:Nat}{x1 x2:Value}{z y:List Int}(hb:bm w gs #[x1,x2] T)(h1:Reads w x1 g1 (aR z))(h2:Reads w x2 g2 (aR y))(C4:z.length=5)(ag:y.length=8):
  Calls Tryz.prog 219 #[.slice (some ⟨gs,0,none⟩) 2 2] w (gC w (z++y)):=by
 obtain⟨i0,hi,af,Z,W⟩:=cJ Tryz.info_u64;obtain⟨a1,c1,rfl,ai,aj,H1⟩:=fM h1;obtain⟨a2,c2,rfl,ah,ak,H2⟩:=fM h2;rw[C4] at hb ai h1;rw[ag] at hb ah h2;have Uu:=ar h1;have Uv:=ar h2;have HB:=ar hb;clear h1 h2 hb H1 H2;have aa:∀G,ay [] w G->G.cell? ⟨gs,0,none⟩=some (.slice a1 5 c1):=λG hk=>by rw[(HB.out.keep hk (by simp)).cell];rfl
 have Z3:∀G,ay [] w G->G.cell? ⟨gs,1,none⟩=some (.slice a2 8 c2):=λG hk=>by rw[(HB.out.keep hk (by simp)).cell];rfl
 have ac:=ar aa;have ae:=ar Z3;clear aa Z3;go_enter Tryz.func219,Tryz.ntmps219;go_wp2_with fail;go_loopg [3,11] 2 (λgh s3 NY G=>∃j:Nat,j+gh=2/\NY= .int .i64 (j:Int)/\s3= .int .i64 ((szC j:Nat):Int)/\w=G)
 case atStart=>exact⟨0,rfl,rfl,rfl,rfl⟩
 case round=>
  obtain⟨j,hj,rfl,rfl,rfl⟩:=hrel;have e0:=ac.out w (ay.refl _ _);have e1:=ae.out w (ay.refl _ _);rcases (show gk=0\/gk=1\/gk=2 by omega) with rfl|rfl|rfl
  ·obtain rfl:j=2:=by omega
   rw[show szC 2=13 from rfl];clear e0 e1;go_wp2_with fail;refine(Wi 13 (by omega) (by omega) 13 rfl w).mono ?_;rintro e w1 ⟨c,rfl,h,dc⟩;have HO:=ar h;have HK:=ar dc;clear h dc;go_wp2_with fail;go_loopg [6,27] 2 (λgh s6 s27 G=>∃j:Nat,j+gh=2/\s27= .int .i64 (j:Int)/\Hid (G.ownsRow w.heap.size 55 1 s6 (szC j) (aR (Ll z y j))/\ay [] w G))
   case atStart=>exact⟨0,rfl,rfl,HO.out,HK.out⟩
   case round=>
    clear HO HK;obtain⟨j,hj,rfl,HP⟩:=hrel;obtain⟨h,J⟩:=HP.out;have e0:=ac.out _ J;have e1:=ae.out _ J;rcases (show gk=0\/gk=1\/gk=2 by omega) with rfl|rfl|rfl
    ·obtain rfl:j=2:=by omega
     have HM:Hid (gC w (z++y) (.returned u6) wr):=by
      obtain⟨g,U,V⟩:=eE.of_row h;exact⟨u6,g,rfl,U.reads,(V (by decide)).1,J⟩
     clear e0 e1 h J HP;go_wp2_with fail;go_ret;exact HM.out
    ·obtain rfl:j=1:=by omega
     obtain⟨v',w',hr,U,V⟩:=jE (P:= Tryz.prog) 69 55 69 i0 _ 1 8 Tryz.underlying69 hi af Z W rfl (by omega) w.heap.size 5 _ _ h a2 8 c2 (aR y) (by rw[bc,ag]) (zE (Uv.out.keep J (by simp))) (eu _) (by decide) (by omega) J.size;have HN:Hid (w'.ownsRow w.heap.size 55 1 v' 13 (aR (Ll z y 2))/\ay [] w w'):=by
      refine⟨?_,J.grown V (cE h)⟩;have e:aR (Ll z y 2)=aR (Ll z y 1)++aR y:=by rw[<-lr];rfl
      rw[e];exact U
     clear h J HP U V e0;go_wp2_with(at_builtin;refine wpList_append_run rfl (.tmp 31) (.tmp 32) 69 69 ?_ u6 (.slice a2 8 c2) ?_ ?_ hr ?_;all_goals first|rfl|skip);go_roundg 0;case measure=>omega
     case rel=>exact⟨2,rfl,rfl,HN.out⟩
    ·obtain rfl:j=0:=by omega
     obtain⟨v',w',hr,U,V⟩:=jE (P:= Tryz.prog) 69 55 69 i0 _ 1 8 Tryz.underlying69 hi af Z W rfl (by omega) w.heap.size 0 _ _ h a1 5 c1 (aR z) (by rw[bc,C4]) (zE (Uu.out.keep J (by simp))) (eu _) (by decide) (by omega) J.size;have HN:Hid (w'.ownsRow w.heap.size 55 1 v' 5 (aR (Ll z y 1))/\ay [] w w'):=by
      refine⟨?_,J.grown V (cE h)⟩;have e:aR (Ll z y 1)=aR (Ll z y 0)++aR z:=rfl;rw[e];exact U
     clear h J HP U V e1;go_wp2_with(at_builtin;refine wpList_append_run rfl (.tmp 31) (.tmp 32) 69 69 ?_ u6 (.slice a1 5 c1) ?_ ?_ hr ?_;all_goals first|rfl|skip);go_roundg 1;case measure=>omega
     case rel=>exact⟨1,rfl,rfl,HN.out⟩
  ·obtain rfl:j=1:=by omega
   rw[show szC 1=5 from rfl];clear e0;go_wp2_with fail;go_roundg 0;case measure=>omega
   case rel=>exact⟨2,rfl,rfl,rfl,rfl⟩
  ·obtain rfl:j=0:=by omega
   rw[show szC 0=0 from rfl];clear e1;go_wp2_with fail;go_roundg 1;case measure=>omega
   case rel=>exact⟨1,rfl,rfl,rfl,rfl⟩
def oV (X L l:List Int) (own:List Nat):Prop:=
 (L.getD 7 0<9223372036854775808/\own=[]/\iG (L.drop 2) 6=some l)\/
 (∃b:Nat,L.getD 7 0=9223372036854775808+(b:Int)/\0<b/\b<256/\own=[b]/\iG ((L.drop 2).take 5++dy X (1080+8*b)) 13=some l)
def mH (w:World) (X L:List Int) (e:Ending) (w':World):Prop:=
 ∃l y h own ok,e= .returned (.tuple #[.agg (zs l).toArray,y,.bool ok])/\l.length=13/\jL w' y h own/\w.heap.size<=h/\own.length<=1/\ay [] w w'/\(ok=true->oV X L l own)/\(ok=false->∀l' z,¬oV X L l' z)
theorem oV.inj{l l':List Int}{Z:List Nat}(h:oV X L l own)(U:oV X L l' Z):l'=l/\Z=own:=by
 rcases h with ⟨h1,V,h3⟩|⟨b,h1,V,h3,h4,h5⟩
 ·rcases U with ⟨G,z,y⟩|⟨W,G,z,y,g4,J⟩
  ·rw[h3] at y
   cases y;exact⟨rfl,by rw[z,V]⟩
  ·omega
 ·rcases U with ⟨G,z,y⟩|⟨W,G,z,y,g4,J⟩
  ·omega
  ·obtain rfl:W=b:=by omega
   rw[h5] at J;cases J;exact⟨rfl,by rw[g4,h4]⟩
def yB (l:List Int):Prop:=∀k,0<=l.getD k 0/\l.getD k 0<18446744073709551616
theorem yB.app(G:yB A)(J:yB B):yB (A++B):=λk=>by
 have z:=G k;have y:=J (k-A.length);rw[aj] at z y ⊢;by_cases h:k<A.length
 ·rw[aW h];exact z
 ·rw[aM (by omega)];exact y
theorem yB.drop(h:yB A)(n:Nat):yB (A.drop n):=λk=>by
 have :=h (n+k);rwa[show(A.drop n).getD k 0=A.getD (n+k) 0 by simp]
theorem yB.take(y:yB A)(n:Nat):yB (A.take n):=λk=>by
 have :=y k;by_cases h:k<n
 ·rwa[show(A.take n).getD k 0=A.getD k 0 by simp[h]]
 ·rw[aj,aO (by rw[aI];omega)]
  exact⟨by decide,by decide⟩
theorem yB.row(y:yB X)(p:Nat):yB (dy X p):=λk=>by
 by_cases h:k<8
 ·rw[iJ X p k h];exact y _
 ·rw[aj,aO (by rw[fQ];omega)]
  exact⟨by decide,by decide⟩
theorem Ci (w:World)(g:Nat):Reads w (.slice none 0 0) g (cW []):=⟨none,0,rfl,aG _,by unfold maxLen;omega,λh=>absurd rfl h⟩
theorem DA (hL:L.length=8)(uz:∀k,0<=L.getD k 0/\L.getD k 0<18446744073709551616)(h7:L.getD 7 0<9223372036854775808):
  Calls Tryz.prog 210 #[.pointer (some ⟨b0,0,none⟩),.agg (aR L).toArray] w (mH w X L):=by
 obtain⟨G,h⟩:∃G,G=(w.alloc (.cells (aR L).toArray 188)).alloc (.cells (zs (List.replicate 13 0)).toArray 108):=⟨_,rfl⟩;have y:bm G w.heap.size (aR L).toArray 188 :=by
  rw[h];exact(bm.new w _ _).alloc _
 have V:bm G (w.heap.size+1) (zs (List.replicate 13 0)).toArray 108 :=by
  have :=bm.new (w.alloc (.cells (aR L).toArray 188)) (zs (List.replicate 13 0)).toArray 108;have e:(w.alloc (.cells (aR L).toArray 188)).heap.size=w.heap.size+1:=by simp
  rw[e] at this;rw[h];exact this
 have ez:ay [] w G:=by
  rw[h];exact((ay.refl _ _).alloc _).alloc _
 have c7:G.cell? ⟨w.heap.size,7,none⟩=some (.int .u64 (L.getD 7 0)):=by rw[y.cell,aC,cC (by omega)]
 rw[h] at c7;have p8:=lV;have BI:=oI w.heap.size;have hr:Reads G (.slice (some ⟨w.heap.size,2,none⟩) 6 6) w.heap.size (aR (L.drop 2)):=by
  have :=y.reads (o:=2) (n:=6) (c:=6) (by omega) (aG _) (by omega);rwa[aQ (by rw[bu,hL];omega)] at this
 have Dz:=ar (IW hr (by simp;omega) (λk=>by
  have :=uz (2+k);rwa[show(L.drop 2).getD k 0=L.getD (2+k) 0 by simp]))
 have xe:=ar V;have fS:=ar ez;have nv:=ar h;have ah:¬(9223372036854775808:Int)<=L.getD 7 0:=by omega
 have H7:=ar h7;have HL:=ar hL;clear y V ez hr h uz hL h7;generalize Iy:L.getD 7 0=xi at *;have X3:=ar Iy;clear Iy;generalize (aR L).toArray=ZL at *;generalize W:(zs (List.replicate 13 0)).toArray=Z0 at *;have AO:=ar W;clear W;go_enter Tryz.func210,Tryz.ntmps210;go_wp2_with fail;rw[<-nv.out];refine Dz.out.mono ?_;rintro e w1 ⟨l,ok,rfl,z,h1,h2,dc⟩;obtain⟨w2,U,aa,J⟩:=br (P:= Tryz.prog) (ty:= 108) (cs:=zs l) (by rw[dJ,z];exact jf) (bm.new w1 Z0 108) (by rw[<-AO.out];simp[dJ,z]) (jY _);have ae:=dc.size;have af:=xe.out.lt;have SX:bm w2 (w.heap.size+1) Z0 108 :=((xe.out.keep dc (by simp)).alloc _).keep J (by simp;omega);obtain⟨w3,ac,pE,Z⟩:=br (P:= Tryz.prog) (ty:= 108) (cs:=zs l) (by rw[dJ,z];exact jf) SX (by rw[<-AO.out];simp[dJ,z]) (jY _);have Ak:=ar U;have wk:=ar ac;have qQ:=ar (eD (off:=0) aa z (λk hk=>by rw[aX,aC,eR (by omega)]));have pw:=ar (eD (off:=0) pE z (λk hk=>by rw[aX,aC,eR (by omega)]));have SY:(L.drop 2).length=6:=by rw[bu,HL.out]
 have HM:Hid (mH w X L (.returned (.tuple #[.agg (zs l).toArray,.slice none 0 0,.bool ok])) w3):=by
  refine⟨l,_,w.heap.size,[],ok,rfl,z,jL.nil _ _,aG _,by simp,?_,λgW=> .inl ⟨by rw[X3.out];exact H7.out,rfl,by rw[<-SY];exact h1 gW⟩,λgW l' cD hs=> ?_⟩
  ·exact(((fS.out.trans' dc).alloc _).trans J (by intro x hx;simp at hx;omega)).trans Z (by intro x hx;rw[au] at hx;omega)
  ·have h3:=(h2 gW).1
   rcases hs with ⟨-,-,g3⟩|⟨b',g1,-⟩
   ·rw[<-SY,h3] at g3
    cases g3
   ·rw[X3.out] at g1
    have :=H7.out;omega
 clear U aa J SX ac pE Z h1 h2 dc ae af SY;generalize ag:w1.heap.size=g1 at *;go_wp2_with(first|(with_reducible refine gS 108 Ak.out ?_)|(with_reducible refine gL 108 qQ.out ?_)|(with_reducible refine gS 108 wk.out ?_));exact aK (bE Tryz.results210 rfl pw.out rfl rfl) rfl HM.out
theorem F7 (hL:L.length=8){bi:Int}(h7:L.getD 7 0=9223372036854775808+bi)(h0:0<=bi)(Z:bi=0\/256<=bi)(eT:L.getD 7 0<18446744073709551616):
  Calls Tryz.prog 210 #[.pointer (some ⟨b0,0,none⟩),.agg (aR L).toArray] w (mH w X L):=by
 obtain⟨z,h⟩:∃z,z=(w.alloc (.cells (aR L).toArray 188)).alloc (.cells (zs (List.replicate 13 0)).toArray 108):=⟨_,rfl⟩;have G:bm z w.heap.size (aR L).toArray 188 :=by
  rw[h];exact(bm.new w _ _).alloc _
 have J:bm z (w.heap.size+1) (zs (List.replicate 13 0)).toArray 108 :=by
  have :=bm.new (w.alloc (.cells (aR L).toArray 188)) (zs (List.replicate 13 0)).toArray 108;have e:(w.alloc (.cells (aR L).toArray 188)).heap.size=w.heap.size+1:=by simp
  rw[e] at this;rw[h];exact this
 have ez:ay [] w z:=by
  rw[h];exact((ay.refl _ _).alloc _).alloc _
 have c7:z.cell? ⟨w.heap.size,7,none⟩=some (.int .u64 (L.getD 7 0)):=by rw[G.cell,aC,cC (by omega)]
 rw[h] at c7;have p8:=lV;have BI:=oI w.heap.size;obtain⟨w2,y,V,U⟩:=br (P:= Tryz.prog) (ty:= 108) (cs:=zs (List.replicate 13 0)) (by rw[dJ];exact jf) J (by simp[dJ]) (jY _);rw[h] at y;have Ak:=ar y;have qQ:=ar (eD (off:=0) (l:=List.replicate 13 0) V (by simp) (λk hk=>by rw[aX,aC,eR (by simpa using hk)]));have HM:Hid (mH w X L (.returned (.tuple #[.agg (zs (List.replicate 13 0)).toArray,.slice none 0 0,.bool false])) w2):=by
  refine⟨List.replicate 13 0,_,w.heap.size,[],false,rfl,by simp,jL.nil _ _,aG _,by simp,?_,λgW=>(by cases gW),λ_ l' cD hs=> ?_⟩
  ·exact ez.trans U (by intro x hx;rw[au] at hx;omega)
  ·rcases hs with ⟨g1,-⟩|⟨b',g1,g2,g3,-⟩<;>omega
 have ac:(9223372036854775808:Int)<=L.getD 7 0:=by omega
 have Hv:L.getD 7 0-9223372036854775808=bi:=by omega
 have hw:IntKind.u64.wrap bi=bi:=kr h0 (by omega);clear G J ez h hL h7 eT y V U;generalize L.getD 7 0=xi at *;generalize (aR L).toArray=ZL at *;generalize (zs (List.replicate 13 0)).toArray=Z0 at *;by_cases W:bi=0
 ·subst W
  clear Z;go_enter Tryz.func210,Tryz.ntmps210;go_wp2_with(first|(with_reducible refine gS 108 Ak.out ?_));exact aK (bE Tryz.results210 rfl qQ.out rfl rfl) rfl HM.out
 ·have aa:=Z.resolve_left W
  clear Z;go_enter Tryz.func210,Tryz.ntmps210;go_wp2_with(first|(with_reducible refine gS 108 Ak.out ?_));exact aK (bE Tryz.results210 rfl qQ.out rfl rfl) rfl HM.out
theorem DB (K1:eF w b gp B ps)(Ao:∀k,0<=(az B ps).getD k 0/\(az B ps).getD k 0<18446744073709551616){L:List Int}(hL:L.length=8)(uz:∀k,0<=L.getD k 0/\L.getD k 0<18446744073709551616)
  {c:Nat} (h7:L.getD 7 0=9223372036854775808+(c:Int)) (aS:0<c) (hc:c<256):
  Calls Tryz.prog 210 #[.pointer (some ⟨b,0,none⟩),.agg (aR L).toArray] w (mH w (az B ps) L):=by
 obtain⟨W0,z⟩:∃W0,W0=(w.alloc (.cells (aR L).toArray 188)).alloc (.cells (zs (List.replicate 13 0)).toArray 108):=⟨_,rfl⟩;have aa:bm W0 w.heap.size (aR L).toArray 188 :=by
  rw[z];exact(bm.new w _ _).alloc _
 have aM:bm W0 (w.heap.size+1) (zs (List.replicate 13 0)).toArray 108 :=by
  have :=bm.new (w.alloc (.cells (aR L).toArray 188)) (zs (List.replicate 13 0)).toArray 108;have e:(w.alloc (.cells (aR L).toArray 188)).heap.size=w.heap.size+1:=by simp
  rw[e] at this;rw[z];exact this
 have ez:ay [] w W0:=by
  rw[z];exact((ay.refl _ _).alloc _).alloc _
 have c7:W0.cell? ⟨w.heap.size,7,none⟩=some (.int .u64 (L.getD 7 0)):=by rw[aa.cell,aC,cC (by omega)]
 rw[z] at c7;have p8:=lV;have Y9:=jd;have BI:=oI w.heap.size;have Dg:=ar (λW=>jm (c:Int) W);have Af:Hid (gV (c:Int)=((1080+8*c:Nat):Int)):=by
  show _=_;rw[gV,aA (by omega)];omega
 have j1:=ar (l6 (K1.keep ez (by simp) (by simp)) (1080+8*c) (by omega));have uw:Hid (∀k,0<=((L.drop 2).take 5++dy (az B ps) (1080+8*c)).getD k 0/\((L.drop 2).take 5++dy (az B ps) (1080+8*c)).getD k 0<18446744073709551616):=yB.app ((yB.drop uz 2).take 5) (yB.row Ao _);have yC:=fQ (az B ps) (1080+8*c);have bk:(9223372036854775808:Int)<=L.getD 7 0:=by omega
 obtain⟨y,Mz,Hv,hw,bl,a8,bb⟩:∃y:Int,(c:Int)=y/\L.getD 7 0-9223372036854775808=y/\IntKind.u64.wrap y=y/\wrap64 y=y/\¬y=0/\¬256<=y:=⟨_,rfl,by omega,kr (by omega) (by omega),by unfold wrap64;omega,by omega,by omega⟩;have HC:Hid (L.getD 7 0=9223372036854775808+(c:Int)/\0<c/\c<256):=⟨h7,aS,hc⟩;have qb:=ar aa;have xe:=ar aM;have fS:=ar ez;have nv:=ar z;have HL:=ar hL;have Ey:Hid (((L.drop 2).take 5).length=5):=by show _=_;rw[aI,bu,hL];rfl
 rw[Mz] at Dg Af;generalize ap:dy (az B ps) (1080+8*c)=RX at *;have aL:=ar ap;clear aa aM ez z hL uz Ao K1 h7 ap;generalize X4:((1080+8*c:Nat):Int)=pi at *;generalize Iy:L.getD 7 0=xi at *;have X3:=ar Iy;have GL:=ar Mz;clear Iy X4 Mz hc aS;generalize aw:(aR L).toArray=ZL at *;have RN:=ar aw;clear aw;generalize aW:(zs (List.replicate 13 0)).toArray=Z0 at *;have AO:=ar aW;clear aW;generalize sG:(aR (List.replicate 8 0)).toArray=Z8 at *;have xH:=ar sG;clear sG;go_enter Tryz.func210,Tryz.ntmps210;go_wp2_with fail;refine(Dg.out _).mono ?_;rintro e wy ⟨rfl,rfl⟩;rw[Af.out];go_wp2_with fail;rw[<-nv.out];refine j1.out.mono ?_;rintro e w1 ⟨rfl,dc⟩;obtain⟨J,V,aj,aN⟩:=br (P:= Tryz.prog) (ty:= 188) (cs:=aR RX) (by rw[bc,yC];exact gH) (bm.new w1 Z8 188) (by rw[<-xH.out];simp[bc,yC]) (eu _);have Ak:=ar V;have ac:=dc.size;have oF:ay [] W0 J:=(dc.alloc (.cells Z8 188)).trans aN (by intro x hx;rw[au] at hx;omega);have ae:=ar oF;have bh:=ar aj;have af:=qb.out.keep oF (by simp);have aP:Hid (Reads J (.slice (some ⟨w.heap.size,2,none⟩) 5 6) w.heap.size (aR ((L.drop 2).take 5))):=by
  rw[<-RN.out] at af;exact af.reads (o:=2) (n:=5) (c:=6) (by rw[HL.out];omega) (by omega) (by omega)
 have ax:Hid (Reads J (.slice (some ⟨w1.heap.size,0,none⟩) 8 8) w1.heap.size (aR RX)):=by
  have :=bm.reads (o:=0) (n:=8) (c:=8) aj (by rw[yC];omega) (aG _) (by omega);rwa[List.drop_zero,aQ (by rw[yC];exact aG _)] at this
 clear V aj aN oF dc j1 ac af;generalize bf:w1.heap.size=Z at *;have bj:=BO w.heap.size;have ba:=rj Z;go_wp2_with(first|(with_reducible refine gS 188 Ak.out ?_));refine tC (S:=λW=>ay [] J W) (l:=[_,_]) (tl:=[_,_,_]) (by kernel_rfl) rfl (by kernel_rfl) (by kernel_rfl) (by kernel_rfl) (λd _ _ _ _ h=>by cases d<;>exact h) (ay.refl _ _).drew ?_;repeat (refine ep.cons ?_ (YieldsIf.val rfl ?h) ?_;(case h=>(intro W hx;clear hx;go_simp;rfl));simp only[Act.put,ag,ah,ai])
 refine ep.done ?_;unfold jC;go_wp2_with fail;refine⟨((ay.refl _ _).drew).alloc _,?_⟩;unfold jC;have SZ:Hid (∀W,ay [] J W->bm W J.heap.size #[.slice (some ⟨w.heap.size,2,none⟩) 5 6,.slice (some ⟨Z,0,none⟩) 8 8] 69->Calls Tryz.prog 219 #[.slice (some ⟨J.heap.size,0,none⟩) 2 2] W (gC W ((L.drop 2).take 5++RX))):=λW hk hb=>by
  refine OX hb ((aP.out).keep hk (by simp)) ((ax.out).keep hk (by simp)) Ey.out yC
 have tV:bm ((J.alloc (.cells #[.slice (some ⟨w.heap.size,2,none⟩) 5 6,.slice (some ⟨Z,0,none⟩) 8 8] 69)).drew) J.heap.size #[.slice (some ⟨w.heap.size,2,none⟩) 5 6,.slice (some ⟨Z,0,none⟩) 8 8] 69 :=(bm.new J _ _).drew;have Dr:=ar tV;clear tV aP ax;go_wp2_with fail;refine(SZ.out _ (((ay.refl _ _).alloc _).drew) Dr.out).mono ?_;rintro e G ⟨va,ga,rfl,GQ,sk,aq⟩;have pF:ay [] J G:=(((ay.refl [] J).alloc (.cells #[.slice (some ⟨w.heap.size,2,none⟩) 5 6,.slice (some ⟨Z,0,none⟩) 8 8] 69)).drew).trans' aq;have S4:=ar pF;have ak:=ar GQ;clear GQ sk aq pF Dr SZ;go_wp2_with fail;refine⟨S4.out,?_⟩;unfold jC;go_wp2_with fail;refine⟨S4.out,?_⟩;unfold jC;have aH:Reads (G.alloc (.cells #[.int .i64 y] 3)) va ga (aR ((L.drop 2).take 5++RX)):=by
  by_cases h0:aR ((L.drop 2).take 5++RX)=[]
  ·exact absurd (ck List.length h0) (by rw[bc,aF,Ey.out,yC];decide)
  ·exact ak.out.keep ((ay.refl [] G).alloc _) (by simp)
 have Dz:=ar (IW aH (by rw[aF,Ey.out,yC];omega) uw.out);obtain⟨av,cv,aV,-,-,-⟩:=fM ak.out;have Lm:((L.drop 2).take 5++RX).length=13:=by rw[aF,Ey.out,yC]
 rw[Lm] at aV;have aB:=bm.new G #[.int .i64 y] 3;have QD:=ar aB;have aU:=ar Lm;clear aH aB ak Lm;subst aV;go_wp2_with fail;refine Dz.out.mono ?_;rintro e w4 ⟨l,ok,rfl,oT,h1,h2,U⟩;rw[aU.out] at h1 h2;obtain⟨w5,V,aO,jG⟩:=br (P:= Tryz.prog) (ty:= 108) (cs:=zs l) (by rw[dJ,oT];exact jf) (bm.new w4 Z0 108) (by rw[<-AO.out];simp[dJ,oT]) (jY _);have ac:=U.size;have a7:=S4.out.size;have aY:=ae.out.size;have aZ:=xe.out.lt;have a6:G.heap.size<(G.alloc (.cells #[.int .i64 y] 3)).heap.size:=QD.out.lt;have SX:bm w5 (w.heap.size+1) Z0 108 :=(((((xe.out.keep ae.out (by simp)).keep S4.out (by simp)).alloc _).keep U (by simp)).alloc _).keep jG (by rw[au];omega);have aT:bm w5 G.heap.size #[.int .i64 y] 3 :=((QD.out.keep U (by simp)).alloc _).keep jG (by rw[au];omega);obtain⟨w6,aD,pE,jz⟩:=br (P:= Tryz.prog) (ty:= 108) (cs:=zs l) (by rw[dJ,oT];exact jf) SX (by rw[<-AO.out];simp[dJ,oT]) (jY _);have aJ:bm w6 G.heap.size #[.int .i64 y] 3 :=aT.keep jz (by rw[au];omega);have Ak:=ar V;have wk:=ar aD;have qQ:=ar (eD (off:=0) aO oT (λk hk=>by rw[aX,aC,eR (by omega)]));have pw:=ar (eD (off:=0) pE oT (λk hk=>by rw[aX,aC,eR (by omega)]));have HM:Hid (mH w (az B ps) L (.returned (.tuple #[.agg (zs l).toArray,.slice (some ⟨G.heap.size,0,none⟩) 1 1,.bool ok])) w6):=by
  refine⟨l,_,G.heap.size,[c],ok,rfl,oT,⟨⟨rfl,.inr ⟨G.heap.size,1,#[.int .i64 y],rfl,aG _,aJ,aG _,by unfold maxLen;omega,by simp,?_⟩⟩,λk hk=>by cases hk;rfl⟩,by omega,by simp,?_,λgW=> .inr ⟨c,by rw[X3.out];exact HC.out.1,HC.out.2.1,HC.out.2.2,rfl,by rw[aL.out];exact h1 gW⟩,λgW l' cD hs=> ?_⟩
  ·rw[<-GL.out]
   rfl
  ·refine(((fS.out.trans' ae.out).trans' S4.out).trans' ((((ay.refl [] G).alloc (.cells #[.int .i64 y] 3)).trans' U).alloc (.cells Z0 108))).trans jG (by intro x hx;rw[au] at hx;omega) |>.trans jz (by intro x hx;rw[au] at hx;omega)
  ·have h3:=(h2 gW).1
   have hc:=HC.out;rcases hs with ⟨Z,-⟩|⟨b',Z,g2,g3,-,g5⟩
   ·rw[X3.out] at Z
    omega
   ·rw[X3.out] at Z
    obtain rfl:b'=c:=by omega
    rw[aL.out,h3] at g5;cases g5
 clear V aO jG SX aD pE jz h1 h2 U ac a7 aY a6 aZ aT aJ;generalize bg:w4.heap.size=g4 at *;go_wp2_with(first|(with_reducible refine gS 108 Ak.out ?_)|(with_reducible refine gL 108 qQ.out ?_)|(with_reducible refine gS 108 wk.out ?_));exact aK (bE Tryz.results210 rfl pw.out rfl rfl) rfl HM.out
def lj (r:List Int):Nat:=if r.getD 1 0=0 then 0 else if r.getD 3 0=0 then 1 else if r.getD 5 0=0 then 2 else 3
theorem MV (r:List Int):lj r<=3:=by
 unfold lj;split
 ·omega
 ·split
  ·omega
  ·split<;>omega
theorem EF{r:List Int}(U:k<=3)(h:∀j,j<k->r.getD (2*j+1) 0≠0)(G:k=3\/r.getD (2*k+1) 0=0):lj r=k:=by
 rcases (show k=0\/k=1\/k=2\/k=3 by omega) with rfl|rfl|rfl|rfl
 ·have y:r.getD 1 0=0:=G.resolve_left (by omega)
  unfold lj;rw[aB y]
 ·have y:r.getD 1 0≠0:=h 0 (by omega)
  have z:r.getD 3 0=0:=G.resolve_left (by omega);unfold lj;rw[aA y,aB z]
 ·have y:r.getD 1 0≠0:=h 0 (by omega)
  have z:r.getD 3 0≠0:=h 1 (by omega);have J:r.getD 5 0=0:=G.resolve_left (by omega);unfold lj;rw[aA y,aA z,aB J]
 ·have y:r.getD 1 0≠0:=h 0 (by omega)
  have z:r.getD 3 0≠0:=h 1 (by omega);have J:r.getD 5 0≠0:=h 2 (by omega);unfold lj;rw[aA y,aA z,aA J]
def iK (r:List Int):List Int:=(r.drop 1).take (2*lj r)
theorem Ln (b c:Nat)(h:1<=c)(y:c<=7)(w:World):(Instr.sliceAt 188 (.pointer (some ⟨b,0,none⟩)) (some (.int .i64 1)) (some (.int .i64 (c:Int))) none).run Tryz.prog w= .ok (.slice (some ⟨b,1,none⟩) (c-1) 7) w:=by
 rcases (show c=1\/c=2\/c=3\/c=4\/c=5\/c=6\/c=7 by omega) with rfl|rfl|rfl|rfl|rfl|rfl|rfl
 all_goals (show Sem.run _ _ _=_;kernel_rfl)
theorem F8 (r:List Int)(sI:r.length=8)(eT:∀k,0<=r.getD k 0/\r.getD k 0<18446744073709551616)(w:World):
  Calls Tryz.prog 221 #[.agg (aR r).toArray] w (lC w (iK r) (lj r)):=by
 have G:=bm.new w (aR r).toArray 188;obtain⟨W0,J⟩:∃W0,W0=w.alloc (.cells (aR r).toArray 188):=⟨_,rfl⟩;rw[<-J] at G;have nu:=ar G;have fS:Hid (ay [] w W0):=by
  rw[J];exact(ay.refl [] w).alloc _
 have nv:=ar J;have yo:=ar sI;have OY:Hid (∀k,k<=3->(∀j,j<k->r.getD (2*j+1) 0≠0)->(k=3\/r.getD (2*k+1) 0=0)->∀n,n=2*k->Calls Tryz.prog 207 #[.slice (some ⟨w.heap.size,1,none⟩) n 7] W0 λe w'=>lC w (iK r) (lj r) e w'):=λk hk h he n V=>by
  have hc:=EF hk h he;have IE:=G.reads (o:=1) (n:=n) (c:=7) (by omega) (by omega) (by omega);have ac:((r.drop 1).take n).length=n:=by rw[aI,bu];omega
  have h6:∀j,0<=((r.drop 1).take n).getD j 0/\((r.drop 1).take n).getD j 0<18446744073709551616:=λj=>by
   by_cases hj:j<n
   ·have e0:((r.drop 1).take n).getD j 0=r.getD (1+j) 0:=by simp[hj,Nat.add_comm]
    rw[e0];exact eT _
   ·rw[aj,aO (by omega)]
    simp
  refine(rS IE (by omega) k (by omega) h6).mono λe w' hp=> ?_
  have e1:iK r=(r.drop 1).take n:=by rw[iK,hc,V]
  rw[e1,hc];have hw:=fS.out.size;rcases hp with ⟨g,a1,y,z,W,a5⟩|⟨a1,y,z⟩
  ·exact .inl ⟨g,a1,y,by omega,W,fS.out.trans' a5⟩
  ·exact .inr ⟨a1,y,fS.out.trans' z⟩
 have R3:Hid (∀j,j<8->W0.cell? ⟨w.heap.size,j,none⟩=some (.int .u64 (r.getD j 0))):=λj hj=>by
  rw[G.cell,aC,cC (by omega)]
 clear G J sI eT nu yo;generalize (aR r).toArray=Z at *;go_enter Tryz.func221,Tryz.ntmps221;go_wp2_with fail;rw[<-nv.out];go_loopg [4] 3 (λgh s4 wx=>∃k b:Nat,k+gh=3/\b=2*k+1/\s4= .int .i64 (b:Int)/\Hid (∀j,j<k->r.getD (2*j+1) 0≠0)/\wx=W0)
 case atStart=>exact⟨0,1,by omega,by omega,rfl,λj hj=>by omega,rfl⟩
 case round=>
  obtain⟨k,b,hk,hb,rfl,HP,rfl⟩:=hrel;have G:(0:Int)<=(b:Int):=by omega
  have ae:(1:Int)<=(b:Int):=by omega
  have BI:=Ln w.heap.size b (by omega) (by omega);obtain⟨n,V⟩:∃n,n=2*k:=⟨_,rfl⟩;rw[show b-1=n by omega] at BI;by_cases h7:b<7
  ·have aa:(b:Int)<7:=by omega
   have hc:=R3.out b (by omega);by_cases hx:r.getD b 0=0
   ·have HE:=ar (OY.out k (by omega) HP.out (.inr (by rw[<-hb];exact hx)) n V)
    rw[hx] at hc;clear hx hk V hb;go_wp2_with fail;refine HE.out.mono ?_;rintro e w' hp;rcases hp with ⟨g,rfl,y,z,W,a5⟩|⟨rfl,y,z⟩
    ·have U:Hid (lC w (iK r) (lj r) (.returned (.tuple #[.slice (some ⟨g,0,none⟩) (lj r) (lj r),.bool true])) w'):= .inl ⟨g,rfl,y,z,W,a5⟩
     clear y z W a5;go_wp2_with fail;go_ret2;exact U.out
    ·have U:Hid (lC w (iK r) (lj r) (.returned (.tuple #[.slice none 0 0,.bool false])) w'):= .inr ⟨rfl,y,z⟩
     clear y z;go_wp2_with fail;go_ret2;exact U.out
   ·have HN:Hid (∀j,j<k+1->r.getD (2*j+1) 0≠0):=λj hj=>by
     by_cases e:j=k
     ·subst e;rw[<-hb];exact hx
     ·exact HP.out j (by omega)
    have Ux:(r.getD b 0 != 0)=true:=bne_iff_ne.2 hx;clear hx;generalize r.getD b 0=x at *;have AD:Hid (b=2*k+1/\k+gk=3):=⟨hb,hk⟩;clear BI hb hk V;go_wp2_with fail;go_roundg (gk-1);case measure=>have :=AD.out;omega
    case rel=>exact⟨k+1,b+2,by have :=AD.out;omega,by have :=AD.out;omega,by go_num,HN.out,rfl⟩
  ·have aa:¬(b:Int)<7:=by omega
   have HE:=ar (OY.out k (by omega) HP.out (.inl (by omega)) n V);clear hk V hb;go_wp2_with fail;refine HE.out.mono ?_;rintro e w' hp;rcases hp with ⟨g,rfl,y,z,W,a5⟩|⟨rfl,y,z⟩
   ·have U:Hid (lC w (iK r) (lj r) (.returned (.tuple #[.slice (some ⟨g,0,none⟩) (lj r) (lj r),.bool true])) w'):= .inl ⟨g,rfl,y,z,W,a5⟩
    clear y z W a5;go_wp2_with fail;go_ret2;exact U.out
   ·have U:Hid (lC w (iK r) (lj r) (.returned (.tuple #[.slice none 0 0,.bool false])) w'):= .inr ⟨rfl,y,z⟩
    clear y z;go_wp2_with fail;go_ret2;exact U.out
end Go.Proofs.YtcecbdeamjigiaaGreatDoor
namespace Go.Proofs.YtcecbdeamjigiaaGreatDoor
open Go.Shelf
variable{w:World}{T b b0 g gp k n:Nat}{A B L X:List Int}{own:List Nat}{ps:List (Int×Int)}{v:Value}{E:List (ByteArray×Int)}{xs:List Value}
def zF:Go.Shelf.Ren:=⟨λ|6=> 222|15=> 232|14=> 231|28=> 243|29=> 244|20=> 235|21=> 236|22=> 237|23=> 238|24=> 239|25=> 240|26=> 241|27=> 242|46=> 245|47=> 246|48=> 247|49=> 248|50=> 249|57=> 250|n=>n,λ|22=> 32|24=> 88|25=> 270|3=> 3|39=> 170|0=> 0|53=> 171|55=> 55|4=> 4|46=> 284|45=> 283|50=> 50|5=> 5|9=> 9|66=> 290|70=> 294|76=> 296|77=> 297|n=>n,λ|n=>n⟩
theorem MW:Go.Proofs.SlLaysF0.n6 Tryz.prog zF:={
 mixed:=by kernel_rfl
 f6:=⟨Tryz.f222.name,by decide,Tryz.func222.trans (ck some (by kernel_rfl))⟩
 f14:=⟨Tryz.f231.name,by decide,Tryz.func231.trans (ck some (by kernel_rfl))⟩
 f15:= Tryz.func232.trans (ck some (by kernel_rfl))
 f20:=⟨Tryz.f235.name,by decide,Tryz.func235.trans (ck some (by kernel_rfl))⟩
 f21:=⟨Tryz.f236.name,by decide,Tryz.func236.trans (ck some (by kernel_rfl))⟩
 f22:=⟨Tryz.f237.name,by decide,Tryz.func237.trans (ck some (by kernel_rfl))⟩
 f23:=⟨Tryz.f238.name,by decide,Tryz.func238.trans (ck some (by kernel_rfl))⟩
 f24:=⟨Tryz.f239.name,by decide,Tryz.func239.trans (ck some (by kernel_rfl))⟩
 f25:=⟨Tryz.f240.name,by decide,Tryz.func240.trans (ck some (by kernel_rfl))⟩
 f26:=⟨Tryz.f241.name,by decide,Tryz.func241.trans (ck some (by kernel_rfl))⟩
 f27:=⟨Tryz.f242.name,by decide,Tryz.func242.trans (ck some (by kernel_rfl))⟩
 f28:= Tryz.func243.trans (ck some (by kernel_rfl))
 f29:= Tryz.func244.trans (ck some (by kernel_rfl))
 f46:=⟨Tryz.f245.name,by decide,Tryz.func245.trans (ck some (by kernel_rfl))⟩
 f47:= Tryz.func246.trans (ck some (by kernel_rfl))
 f48:= Tryz.func247.trans (ck some (by kernel_rfl))
 f49:=⟨Tryz.f248.name,by decide,Tryz.func248.trans (ck some (by kernel_rfl))⟩
 f50:=⟨Tryz.f249.name,by decide,Tryz.func249.trans (ck some (by kernel_rfl))⟩
 f57:=⟨Tryz.f250.name,by decide,Tryz.func250.trans (ck some (by kernel_rfl))⟩
 t0:= Tryz.underlying0
 a0:= Tryz.isAgg0
 z0:= Tryz.sizeOf0
 v0:= Tryz.zeroValue0
 t3:= Tryz.underlying3
 a3:= Tryz.isAgg3
 z3:= Tryz.sizeOf3
 v3:= Tryz.zeroValue3
 t4:= Tryz.underlying4
 a4:= Tryz.isAgg4
 z4:= Tryz.sizeOf4
 v4:= Tryz.zeroValue4
 t5:= Tryz.underlying5
 a5:= Tryz.isAgg5
 z5:= Tryz.sizeOf5
 v5:= Tryz.zeroValue5
 t9:= Tryz.underlying9
 a9:= Tryz.isAgg9
 z9:= Tryz.sizeOf9
 v9:= Tryz.zeroValue9
 t22:= Tryz.underlying32
 a22:= Tryz.isAgg32
 z22:= Tryz.sizeOf32
 v22:= Tryz.zeroValue32
 t25:= Tryz.underlying270
 a25:= Tryz.isAgg270
 z25:= Tryz.sizeOf270
 v25:= Tryz.zeroValue270
 t39:= Tryz.underlying170
 a39:= Tryz.isAgg170
 z39:= Tryz.sizeOf170
 v39:= Tryz.zeroValue170
 t45:= Tryz.underlying283
 a45:= Tryz.isAgg283
 z45:= Tryz.sizeOf283
 v45:= Tryz.zeroValue283
 t46:= Tryz.underlying284
 a46:= Tryz.isAgg284
 z46:= Tryz.sizeOf284
 v46:= Tryz.zeroValue284
 t50:= Tryz.underlying50
 a50:= Tryz.isAgg50
 z50:= Tryz.sizeOf50
 v50:= Tryz.zeroValue50
 t53:= Tryz.underlying171
 a53:= Tryz.isAgg171
 z53:= Tryz.sizeOf171
 v53:= Tryz.zeroValue171
 t55:= Tryz.underlying55
 a55:= Tryz.isAgg55
 z55:= Tryz.sizeOf55
 v55:= Tryz.zeroValue55
 t66:= Tryz.underlying290
 a66:= Tryz.isAgg290
 z66:= Tryz.sizeOf290
 v66:= Tryz.zeroValue290
 t70:= Tryz.underlying294
 a70:= Tryz.isAgg294
 z70:= Tryz.sizeOf294
 v70:= Tryz.zeroValue294
 t76:= Tryz.underlying296
 a76:= Tryz.isAgg296
 z76:= Tryz.sizeOf296
 v76:= Tryz.zeroValue296
 t77:= Tryz.underlying297
 a77:= Tryz.isAgg297
 z77:= Tryz.sizeOf297
 v77:= Tryz.zeroValue297 }
end Go.Proofs.YtcecbdeamjigiaaGreatDoor
namespace Go.Proofs.YtcecbdeamjigiaaGreatDoor
open Go.RowKit
variable{w:World}{T b b0 g gp k n:Nat}{A B L X:List Int}{own:List Nat}{ps:List (Int×Int)}{v:Value}{E:List (ByteArray×Int)}{xs:List Value}
def xl (a b:ByteArray):Int:=if Op.bytesLess a.toList b.toList=true then -1 else if (a.toList==b.toList)=true then 0 else 1
theorem qy (a:ByteArray)(w:World):Calls Tryz.prog 233 #[.string a] w λe w'=>e= .returned (.bool false)/\w=w':=by
 go_enter Tryz.func233,Tryz.ntmps233;go_wp2_with fail;go_ret;exact⟨by simp,rfl⟩
theorem Lp (a b:ByteArray)(w:World):Calls Tryz.prog 224 #[.string a,.string b] w λe w'=>e= .returned (.int .i64 (xl a b))/\w=w':=by
 by_cases y:Op.bytesLess a.toList b.toList=true
 ·rw[show xl a b= -1 from aB y]
  go_enter Tryz.func224,Tryz.ntmps224;go_wp2_with fail;refine(qy _ _).mono ?_;rintro e w' ⟨rfl,rfl⟩;go_wp2_with fail;refine(qy _ _).mono ?_;rintro e w' ⟨rfl,rfl⟩;go_wp2_with fail;go_ret;exact⟨rfl,rfl⟩
 ·by_cases h:(a.toList==b.toList)=true
  ·rw[show xl a b=0 by unfold xl;rw[aA y,aB h]]
   go_enter Tryz.func224,Tryz.ntmps224;go_wp2_with fail;refine(qy _ _).mono ?_;rintro e w' ⟨rfl,rfl⟩;go_wp2_with fail;refine(qy _ _).mono ?_;rintro e w' ⟨rfl,rfl⟩;go_wp2_with fail;go_ret;exact⟨rfl,rfl⟩
  ·rw[show xl a b=1 by unfold xl;rw[aA y,aA h]]
   have z:(a.toList==b.toList)=false:=by simpa using h
   go_enter Tryz.func224,Tryz.ntmps224;go_wp2_with fail;refine(qy _ _).mono ?_;rintro e w' ⟨rfl,rfl⟩;go_wp2_with fail;refine(qy _ _).mono ?_;rintro e w' ⟨rfl,rfl⟩;go_wp2_with fail;go_ret;exact⟨rfl,rfl⟩
theorem OZ (a b:ByteArray)(x y:Int)(w:World):Calls Tryz.prog 223 #[.agg #[.string a,.int .i64 x],.agg #[.string b,.int .i64 y]] w λe w'=>e= .returned (.int .i64 (xl a b))/\∃q z,w'=Go.Sort.grow (w.drewN q) z:=by
 have h:=λG=>Lp a b G
 generalize xl a b=r at h ⊢;go_enter Tryz.func223,Tryz.ntmps223;go_wp2_with fail;refine(h _).mono ?_;rintro e w' ⟨rfl,rfl⟩;go_wp2_with fail;go_ret;exact⟨rfl,0,_,by rw[Go.Sort.alloc_eq_grow,Go.Sort.alloc_eq_grow,Go.Sort.grow_grow];rfl⟩
theorem ltN (x y:ByteArray×Int):Go.Proofs.ltOf (λa b:ByteArray×Int=>xl a.1 b.1) x y=Op.bytesLess x.1.toList y.1.toList:=by
 show decide (xl x.1 y.1<0)=_;unfold xl;cases h:Op.bytesLess x.1.toList y.1.toList with
 |true=>rw[aB rfl];rfl
 |false=>
  rw[aA (by decide)];by_cases z:(x.1.toList==y.1.toList)=true
  ·rw[aB z];rfl
  ·rw[aA z];rfl
theorem ad1:Go.Sort.SWO (Go.Proofs.ltOf λa b:ByteArray×Int=>xl a.1 b.1) where
 irrefl x:=by rw[ltN];exact lH _
 trans x y z h1 h2:=by rw[ltN] at *;exact lh _ _ _ h1 h2
 ntrans x y z h1 h2:=by
  rw[ltN] at *;by_cases e:y.1.toList=z.1.toList
  ·rw[<-e];exact h1
  ·have h3:=oO _ _ h2 e
   cases h4:Op.bytesLess x.1.toList z.1.toList with
   |false=>rfl
   |true=>
    have h5:=lh _ _ _ h4 h3;rw[h1] at h5;cases h5
end Go.Proofs.YtcecbdeamjigiaaGreatDoor
namespace Go.Proofs.YtcecbdeamjigiaaGreatDoor
open Go.RowKit Go.Shelf Go.Sort
variable{w:World}{T b b0 g gp k n:Nat}{A B L X:List Int}{own:List Nat}{ps:List (Int×Int)}{v:Value}{E:List (ByteArray×Int)}{xs:List Value}
theorem insert_nil(w:World)(y:Value):Calls Tryz.prog 235 #[.slice none 0 0,.int .i64 0,.int .i64 0,y] w λe w'=>e= .returned (.tuple #[])/\w=w':=by
 go_enter Tryz.func235,Tryz.ntmps235;go_wp2_with fail;go_loopg [8] 0 (λz s8 h=>z=0/\s8= .int .i64 1/\w=h)
 case atStart=>exact⟨rfl,rfl,rfl⟩
 case round=>
  obtain⟨-,rfl,rfl⟩:=hrel;go_wp2_with fail;go_end0;exact⟨rfl,rfl⟩
theorem Wj (w:World)(y:Value):Calls Tryz.prog 231 #[.slice none 0 0,.int .i64 0,.int .i64 0,.int .i64 0,y] w λe w'=>e= .returned (.tuple #[])/\w=w':=by
 go_enter Tryz.func231,Tryz.ntmps231;go_wp2_with fail;go_loopg [1,2,3] 0 (λz s1 s2 s3 h=>z=0/\s1= .int .i64 0/\s2= .int .i64 0/\s3= .int .i64 0/\w=h)
 case atStart=>exact⟨rfl,rfl,rfl,rfl,rfl⟩
 case round=>
  obtain⟨-,rfl,rfl,rfl,rfl⟩:=hrel;go_wp2_with fail;refine(insert_nil _ _).mono ?_;rintro e w' ⟨rfl,rfl⟩;go_wp2_with fail;refine aK (results_none rfl _ _ _) rfl ?_;exact⟨rfl,rfl⟩
theorem S5 (w:World)(y:Value):Calls Tryz.prog 222 #[.slice none 0 0,y] w λe w'=>e= .returned (.tuple #[])/\w=w':=by
 have h:Calls Tryz.prog 232 #[.int .u64 0] w λe w'=>e= .returned (.int .i64 (Lib.bitLen 0:Nat))/\w'=w:=Any.bits_Len (SlLaysF0.n15.bits (P:= Tryz.prog) (ρ:=zF) { MW with }) 0 w (by omega) (by omega)
 rw[show Lib.bitLen 0=0 from rfl] at h;go_enter Tryz.func222,Tryz.ntmps222;go_wp2_with fail;refine h.mono ?_;rintro e w' ⟨rfl,rfl⟩;go_wp2_with fail;refine(Wj _ _).mono ?_;rintro e w' ⟨rfl,rfl⟩;go_wp2_with fail;go_end0;exact⟨rfl,rfl⟩
def F9 (p:ByteArray×Int):List Value:=[.string p.1,.int .i64 p.2]
theorem EG (E:List (ByteArray×Int))(t:Nat)(h:t<E.length*2):(dK E)[t]? =some (flatK F9 2 E.toArray)[t]! :=by
 have z:t/2<E.length:=by omega
 rw[get_flatK _ _ _ _ (by simpa using h)];have J:E.toArray[t/2]! =(eh E (t/2),gT E (t/2)):=by
  rw[getElem!_pos _ _ (by simpa using z)];simp[eh,gT,z]
 rw[J];have y:=mo E (t/2) z;rcases (show t%2=0\/t%2=1 by omega) with G|G
 ·rw[show t/2*2=t by omega] at y
  rw[G,y.1];rfl
 ·rw[show t/2*2+1=t by omega] at y
  rw[G,y.2];rfl
theorem S6 (p q:ByteArray×Int):ltOf (λa b:ByteArray×Int=>xl a.1 b.1) p q=Op.bytesLess p.1.toList q.1.toList:=ltN p q
theorem IX{U:Nat}(h:w.ownsRow U 88 2 v E.length (dK E))(aq:E.length<=10000):
  Calls Tryz.prog 222 #[v,.func (.func 223) #[] #[]] w λe w'=>e= .returned (.tuple #[])/\∃Z,Z.Perm E/\
   (∀i j,i<j->j<Z.length->Op.bytesLess (eh Z j).toList (eh Z i).toList=false)/\w'.ownsRow U 88 2 v Z.length (dK Z)/\∃l,ay l w w'/\∀k,k∈l->v.ownBlock=some k:=by
 obtain⟨hl,h⟩:=h;rcases h with ⟨rfl,hn⟩|⟨g,cap,J,rfl,hg,hh,nz,nB,ai,V3⟩
 ·have hE:E=[]:=bg hn
  subst hE;refine(S5 w _).mono λe w' he=>⟨he.1,[],List.Perm.refl _,λi j _ hj=>by simp at hj,he.2▸⟨rfl,.inl ⟨rfl,rfl⟩⟩,[],he.2▸ay.refl _ _,λk G=>by cases G⟩
 ·have V:∀t,t<E.length*2->w.cell? ⟨g,t,none⟩=some (flatK F9 2 E.toArray)[t]! :=λt W=>by
   have hb:bm w g J 88 :=hh;rw[hb.cell,<-EG E t W,<-V3,fA W,dz]
  have hH:HoldsK F9 2 w g 0 E.toArray:=λj hj=>by
   rw[size_flatK] at hj;rw[aX];exact⟨V j (by simpa using hj),bm.frozen (c:=J) (T:= 88) hh j⟩
  have hs:=AnyQ.slices_SortFunc MW 2 (λw=>by kernel_rfl) (λw=>by kernel_rfl) F9 (λ_=>rfl) (λx u hu=>by
   simp only[F9,aS,aV,bL] at hu;rcases hu with rfl|rfl<;>rfl) (λa b:ByteArray×Int=>xl a.1 b.1) ad1 223 #[] g 0 cap E.toArray w (enters_of Tryz.func223 (by kernel_rfl) rfl) (λm os dk _ x y=>OZ x.1 y.1 x.2 y.2 _) hH (Array.getElem?_eq_some_iff.1 hh).1 (by simp;omega)
  refine(show Calls _ _ _ _ _ from hs).mono ?_;rintro e w' ⟨rfl,z,m,os,hp,ak,rfl⟩;obtain⟨Dt,-,IY⟩:=hp;have ac:z.size=E.length:=by simpa using Dt
  have ag:z.extract 0 E.toArray.size=z:=by rw[<-Dt];exact Array.extract_size
  have ap:E.toArray.extract 0 E.toArray.size=E.toArray:=Array.extract_size;rw[ag,ap] at IY;have ae:=(Array.getElem?_eq_some_iff.1 hh).1;have aa:(sortWorldK F9 2 w g 0 m z os).heap[g]? =some (.cells (putCells id 0 (flatK F9 2 z) J) 88 (0,0)):=by
   show((w.heap.modify g _)++os)[g]? =_;rw[Array.getElem?_append_left (by rw[Array.size_modify];exact ae),Array.getElem?_modify,aB rfl,hh];rfl
  have nc:ay [g] w (sortWorldK F9 2 w g 0 m z os):=by
   refine⟨rfl,rfl,rfl,?_,λk G ah=> ?_⟩
   ·show w.heap.size<=((w.heap.modify g _)++os).size
    rw[Array.size_append,Array.size_modify];omega
   ·show((w.heap.modify g _)++os)[k]? =_
    rw[Array.getElem?_append_left (by rw[Array.size_modify];exact G),Array.getElem?_modify,aA (λe=>ah (by rw[<-e];simp))]
  have af:(flatK F9 2 z).size=E.length*2:=by rw[size_flatK,ac]
  have NU:z.toList.length=E.length:=by rw[df,ac]
  refine⟨rfl,z.toList,IY,λi j OT hj=> ?_,⟨by rw[iE],.inr ⟨g,cap,_,by rw[NU],hg,aa,by rw[NU];exact nz,nB,by simp[putCells,ai],?_⟩⟩,[g],nc,λk G=>by rw[au] at G;rw[G];rfl⟩
  ·have h1:=ak i j (et _) OT (by rw[bU];omega)
   rw[S6] at h1;have e:∀k:Nat,k<z.size->z[k]! =(eh z.toList k,gT z.toList k):=λk G=>by
    rw[getElem!_pos z k G];simp[eh,gT,G]
   rw[e j (by omega),e i (by omega)] at h1;exact h1
  ·apply b8
   intro t;rw[NU];by_cases W:t<E.length*2
   ·rw[fA W,EG z.toList t (by rw[NU];exact W)]
    have hc:t<J.size:=by omega
    simp only[putCells,dz,Array.getElem?_mapIdx,et,true_and,aX,Nat.sub_zero,Array.toArray_toList];rw[Array.getElem?_eq_getElem hc,e9,af,aB W];rfl
   ·rw[aO (by rw[aI];omega),aO (by rw[iE,NU];omega)]
end Go.Proofs.YtcecbdeamjigiaaGreatDoor
namespace Go.Proofs.YtcecbdeamjigiaaGreatDoor
open Go.RowKit
variable{w:World}{T b b0 g gp k n:Nat}{A B L X:List Int}{own:List Nat}{ps:List (Int×Int)}{v:Value}{E:List (ByteArray×Int)}{xs:List Value}
instance O0 (L:List Int) (n:Nat):Decidable (mM L n):=inferInstanceAs (Decidable (∀k,k<n->_))
def tG (X:List Int) (b:Nat):List (ByteArray×Int):=jq (iK (dy X (1080+8*b))) (lj (dy X (1080+8*b)))
def EH (X:List Int) (b:Nat):Prop:=mM (iK (dy X (1080+8*b))) (lj (dy X (1080+8*b)))
instance (X:List Int) (b:Nat):Decidable (EH X b):=O0 _ _
def jO (X:List Int):Nat->Int->List Nat->List (ByteArray×Int)->Option (List Nat×List (ByteArray×Int))
 |0,_,_,_=>none
 |n+1,b,own,E=>if b=0 then some (own,E) else if 256<=b\/own.length=24 then none else
   if EH X b.toNat then jO X n (X.getD (1080+8*b.toNat) 0) (own++[b.toNat]) (E++tG X b.toNat) else none
def oW (X L:List Int):Nat->Option (List Nat×List (ByteArray×Int))
 |0=>some ([],[])
 |q+1=>(oW X L q).bind λr=>jO X (25-r.1.length) (L.getD (2+q) 0) r.1 r.2
def S7 (X L:List Int):Option (List Nat×List (ByteArray×Int)):=oW X L 4
theorem IZ (h:oW X L k=none):∀{n:Nat},k<=n->oW X L n=none:=by
 intro n y;induction y with
 |refl=>exact h
 |step _ ih=>rw[oW,ih];rfl
structure pH (own:List Nat) (E:List (ByteArray×Int)):Prop where
 len:own.length<=24
 num:∀c,c∈own->0<c/\c<256
 ents:E.length<=3*own.length
 size:∀p,p∈E->p.1.size<=7
theorem S8 (X:List Int)(b:Nat):(tG X b).length<=3:=by rw[tG,gU];exact MV _
theorem O3 (X:List Int)(b:Nat):∀p,p∈tG X b->p.1.size<=7:=by
 intro p h;unfold tG at h;obtain⟨k,y,rfl⟩:=bR h;rw[uI _ _ k (by rwa[gU] at y)];exact tY _
theorem pH.step(h:pH own E)(X:List Int){b:Nat}(U:0<b)(J:b<256)(V:own.length<24):pH (own++[b]) (E++tG X b):=by
 have :=S8 X b;have :=h.ents;refine⟨by simp;omega,λc G=> ?_,by simp;omega,λp z=> ?_⟩
 ·rcases aP.1 G with y|y
  ·exact h.num c y
  ·rw[au] at y;omega
 ·rcases aP.1 z with y|y
  ·exact h.size p y
  ·exact O3 X b p y
theorem pH.nil:pH [] []:=⟨by simp,λc h=>by simp at h,by simp,λp h=>by simp at h⟩
def ui (w:World) (X L:List Int) (e:Ending) (w':World):Prop:=
 (∃own E h y z J G,e= .returned (.tuple #[y,J,.bool true])/\S7 X L=some (own,E)/\pH own E/\h.Perm E/\(∀i j,i<j->j<h.length->Op.bytesLess (eh h j).toList (eh h i).toList=false)/\
  bz w' y z h/\w.heap.size<=z/\jL w' J G own/\w.heap.size<=G/\ay [] w w')\/
 (e= .returned (.tuple #[.slice none 0 0,.slice none 0 0,.bool false])/\S7 X L=none/\ay [] w w')
theorem aai (b:Nat)(w:World):(Instr.sliceAt 188 (.pointer (some ⟨b,0,none⟩)) (some (.int .i64 2)) (some (.int .i64 6)) none).run Tryz.prog w= .ok (.slice (some ⟨b,2,none⟩) 4 6) w:=by show Sem.run _ _ _=_;kernel_rfl
structure Cj (w wx:World) (v7 v8:Value) (own:List Nat) (E:List (ByteArray×Int)):Prop where
 ents:wx.ownsRow (w.heap.size+1) 88 2 v7 E.length (dK E)
 nums:wx.ownsRow (w.heap.size+1) 3 1 v8 own.length (cW own)
 keep:ay [] w wx
 ok:pH own E
theorem vI{b1 b2 z J z1 z2 n1 n2:Nat}{v1 v2:Value}{aa ac:List Value}(h1:w.ownsRow b1 z z1 v1 n1 aa)(V:w.ownsRow b2 J z2 v2 n2 ac)(hT:z≠J):∀g,v1.ownBlock=some g->v2.ownBlock≠some g:=by
 intro g e1 e2;obtain⟨-,h1⟩:=h1;obtain⟨-,V⟩:=V;rcases h1 with ⟨rfl,-⟩|⟨g1,c1,Z,rfl,-,y,-⟩
 ·cases e1
 ·rcases V with ⟨rfl,-⟩|⟨g2,c2,G,rfl,-,U,-⟩
  ·cases e2
  ·cases e1
   cases e2;have W:w.heap[g1]? =some (.cells Z z (0,0)):=y;have h:w.heap[g1]? =some (.cells G J (0,0)):=U;rw[W] at h;cases h;exact hT rfl
theorem uO{w':World}{y Z:Nat}{row:Option Nat}(h:w.ownsRow y T Z v n xs)(hg:w.grownBy w' row)(J:∀g,v.ownBlock=some g->row≠some g):w'.ownsRow y T Z v n xs:=by
 obtain⟨h0,h1⟩:=h;refine⟨h0,?_⟩;rcases h1 with ⟨z,G⟩|⟨U,cap,V,z,G,W,e3⟩
 ·exact .inl ⟨z,G⟩
 ·refine .inr ⟨U,cap,V,z,G,?_,e3⟩
  rw[<-W];exact hg.block U (Array.getElem?_eq_some_iff.1 W).1 λe4=>J U (by rw[z];rfl) e4.symm
theorem Cj.keeps{J U:World}{z G:Value}(h:Cj w J z G own E)(y:ay [] J U):Cj w U z G own E:=
 ⟨cO h.ents y (by simp),cO h.nums y (by simp),h.keep.trans' y,h.ok⟩
theorem eE.cellsA{V cap:Nat}(h:eE w (.slice (some ⟨g,0,none⟩) n cap) g T V n xs):n≠0->∃y,some (⟨g,0,none⟩:Addr)=some y/\∀j u,xs[j]? =some u->w.cell? (y.add j)=some u:=λJ=>by
 obtain⟨-,-,U,-⟩:=h.cell J;refine⟨_,rfl,λj u z=> ?_⟩;have G:j<xs.length:=(List.getElem?_eq_some_iff.1 z).1;rw[h.len] at G;rw[add_plain,aX,U j G,z]
theorem Lq (K1:eF w b gp B ps)(Ao:yB (az B ps)){L:List Int}(hL:L.length=8)(uz:yB L):
  Calls Tryz.prog 211 #[.pointer (some ⟨b,0,none⟩),.agg (aR L).toArray] w (ui w (az B ps) L):=by
 obtain⟨ie,bb,aY,bl,bk⟩:=cJ Tryz.info_entry;obtain⟨ii,bq,bj,ba,VY⟩:=cJ Tryz.info_int;have ac:=bm.new w (aR L).toArray 188;obtain⟨W0,aa⟩:∃W0,W0=w.alloc (.cells (aR L).toArray 188):=⟨_,rfl⟩;rw[<-aa] at ac;have ez:ay [] w W0:=by
  rw[aa];exact(ay.refl _ _).alloc _
 have bv:W0.heap.size=w.heap.size+1:=by rw[aa];simp
 have nv:=ar aa;have qb:=ar ac;have xI:=ar K1;have O4:=ar Ao;have G:Hid (Cj w W0 (.slice none 0 0) (.slice none 0 0) [] []):=⟨⟨rfl,.inl ⟨rfl,rfl⟩⟩,⟨rfl,.inl ⟨rfl,rfl⟩⟩,ez,pH.nil⟩;have HC:Hid (∀q wx,q<4->ay [] W0 wx->wx.cell? ⟨w.heap.size,2+q,none⟩=some (.int .u64 (L.getD (2+q) 0))):=λq wx hq Z=>by rw[(ac.keep Z (by simp)).cell,aC,cC (by omega)]
 have bf:=ar uz;have BI:=aai w.heap.size;clear ac ez aa K1 Ao hL uz;generalize X5:az B ps=X at *;have MX:=ar X5;clear X5;generalize (aR L).toArray=ZL at *;go_enter Tryz.func211,Tryz.ntmps211;go_wp2_with fail;rw[<-nv.out];go_loopg [7,8,17] 4 (λgh s7 s8 s17 wx=>∃(q:Nat) (own:List Nat) (E:List (ByteArray×Int)),q+gh=4/\s17= .int .i64 (q:Int)/\Hid (oW X L q=some (own,E)/\Cj w wx s7 s8 own E/\ay [] W0 wx))
 case atStart=>exact⟨0,[],[],rfl,rfl,rfl,G.out,ay.refl _ _⟩
 case round=>
  clear G;obtain⟨q,own,E,hq,rfl,HP⟩:=hrel;obtain⟨ae,hR,su⟩:=HP.out;cases gk with
  |zero=>
   obtain rfl:q=4:=by omega
   have S9:=ar (IX hR.ents (by have :=hR.ok.ents;have :=hR.ok.len;omega));have HR:=ar hR;have G:=ar ae;clear ae hR su HP;go_wp2_with fail;refine S9.out.mono ?_;rintro e w1 ⟨rfl,z,IY,aN,ai,l,ED,hl⟩;have HF:Hid (ui w X L (.returned (.tuple #[u7,u8,.bool true])) w1):=by
    have U:w1.ownsRow (w.heap.size+1) 3 1 u8 own.length (cW own):=cO HR.out.nums ED λk Z hm=>vI HR.out.ents HR.out.nums (by decide) k (hl k hm) Z
    obtain⟨ge,aQ,Ac⟩:=eE.of_row ai;obtain⟨go,XD,bI⟩:=jL.of_row U;have a7:ay [] w w1:=HR.out.keep.trans ED λk Z=> .inr (by have :=cE HR.out.ents k (hl k Z);omega)
    have he:∃ah,bz w1 u7 ah z/\w.heap.size<=ah:=by
     by_cases h0:z.length=0
     ·exact⟨w.heap.size,(aQ.ereads rfl).anyG h0 _,aG _⟩
     ·exact⟨ge,aQ.ereads rfl,by have :=(Ac h0).1;omega⟩
    have ho:∃ag,jL w1 u8 ag own/\w.heap.size<=ag:=⟨go,XD,by omega⟩;obtain⟨ah,h1,h2⟩:=he;obtain⟨ag,h3,h4⟩:=ho;exact .inl ⟨own,E,z,u7,ah,u8,ag,rfl,G.out,HR.out.ok,IY,aN,h1,h2,h3,h4,a7⟩
   clear IY aN ai ED hl HR G S9;go_wp2_with fail
   go_ret3
   exact HF.out
  |succ gg=>
   have Vw:q<4:=by omega
   have bt:(q:Int)<4:=by omega
   have Vp:(0:Int)<=(q:Int):=by omega
   have c2:=HC.out q wr Vw su;have HF:Hid (L.getD (2+q) 0=L.getD (2+q) 0):=rfl;have aP:=bf.out (2+q);have G:=ar ae;have HR:=ar hR;have pM:=ar su;clear ae hR su HP;generalize XS:L.getD (2+q) 0=fi at *;have Aj:=ar XS;clear XS;go_wp2_with fail;go_loopg [7,8,11] (25-own.length) (λgh s7 s8 NY wx=>∃(y:List Nat) (z:List (ByteArray×Int)) (bi:Int),y.length+gh=25/\NY= .int .u64 bi/\Hid (jO X gh bi y z=jO X (25-own.length) fi own E/\0<=bi/\bi<18446744073709551616/\Cj w wx s7 s8 y z/\ay [] W0 wx))
   case atStart=>exact⟨own,E,fi,by have :=HR.out.ok.len;omega,rfl,rfl,aP.1,aP.2,HR.out,pM.out⟩
   case round=>
    obtain⟨y,z,bi,bs,rfl,HP⟩:=hrel;obtain⟨aI,bE,BS,ap,aX⟩:=HP.out;have bB:=ap.ok.len;cases gk with
    |zero=>omega
    |succ gk=>
     have J:=ar aI;have QN:=ar ap;have I0:=ar aX;have Ck:Hid (∀wz,ay [] wr wz->jO X (gk+1) bi y z=none->ui w X L (.returned (.tuple #[.slice none 0 0,.slice none 0 0,.bool false])) wz):=λwz bn hn=>by
      refine .inr ⟨rfl,?_,QN.out.keep.trans' bn⟩;refine IZ (k:=q+1) ?_ (by omega);rw[oW,G.out,Aj.out];show jO X (25-own.length) fi own E=none;rw[<-J.out];exact hn
     clear aI ap aX HP;by_cases hz:bi=0
     ·subst hz
      go_wp2_with fail;go_roundg gg;case measure=>omega
      case rel=>
       refine⟨q+1,y,z,by omega,by simp,?_,QN.out,I0.out⟩;rw[oW,G.out,Aj.out];show jO X (25-own.length) fi own E=_;rw[<-J.out,jO,aB rfl]
     ·have J7:(bi==0)=false:=by simpa using hz
      obtain⟨a8,c8,rfl,bA,bH⟩:=gD QN.out.nums;by_cases rq:(256:Int)<=bi
      ·have HF:=ar (Ck.out _ (ay.refl _ _) (by rw[jO,aA hz,aB (.inl rq)]))
       clear Ck J QN I0;go_wp2_with fail
       go_ret3
       exact HF.out
      ·by_cases Ka:y.length=24
       ·have HF:=ar (Ck.out _ (ay.refl _ _) (by rw[jO,aA hz,aB (.inr Ka)]))
        clear Ck J QN I0;rw[Ka];go_wp2_with fail
        go_ret3
        exact HF.out
       ·have aZ:¬(y.length:Int)=24:=by omega
        have bF:((y.length:Int)==24)=false:=by simpa using aZ
        obtain⟨c,hc⟩:∃c:Nat,bi=(c:Int):=⟨bi.toNat,by omega⟩;have aV:0<c:=by omega
        have tq:c<256:=by omega
        have bu:wrap64 bi=bi:=by unfold wrap64;omega
        have Dg:=ar (λwx=>jm bi wx);have Af:Hid (gV bi=((1080+8*c:Nat):Int)):=by
         show _=_;rw[hc,gV,aA (by omega)];omega
        have j1:=ar (l6 (xI.out.keep QN.out.keep (by simp) (by simp)) (1080+8*c) (by omega));rw[MX.out] at j1;have X6:Hid (jO X (gk+1) bi y z=if EH X c then jO X gk (X.getD (1080+8*c) 0) (y++[c]) (z++tG X c) else none):=by
         show _=_;rw[jO,aA hz,aA (by omega),show bi.toNat=c by omega]
        have aq:Hid (bi=(c:Int)/\0<c/\c<256):=⟨hc,aV,tq⟩;have yC:=fQ X (1080+8*c);have uw:Hid (yB (dy X (1080+8*c))):=yB.row O4.out _;have aD:X.getD (1080+8*c) 0=(dy X (1080+8*c)).getD 0 0:=(iJ X (1080+8*c) 0 (by omega)).symm;have bp:=ar aD;have RP:Hid (EH X c↔mM (iK (dy X (1080+8*c))) (lj (dy X (1080+8*c)))):=Iff.rfl;have Uy:Hid (tG X c=jq (iK (dy X (1080+8*c))) (lj (dy X (1080+8*c)))):=rfl;have bG:=MV (dy X (1080+8*c));clear hc aV tq aD;generalize X4:((1080+8*c:Nat):Int)=pi at *;generalize dy X (1080+8*c)=RX at *;clear X4;have Y9:=jd;generalize sG:(aR (List.replicate 8 0)).toArray=Z8 at *;have xH:=ar sG;clear sG;go_wp2_with fail;refine(Dg.out _).mono ?_;rintro e wy ⟨rfl,rfl⟩;rw[Af.out];go_wp2_with fail;refine j1.out.mono ?_;rintro e w1 ⟨rfl,dc⟩;obtain⟨w2,aW,ak,aT⟩:=br (P:= Tryz.prog) (ty:= 188) (cs:=aR RX) (by rw[bc,yC];exact gH) (bm.new w1 Z8 188) (by rw[<-xH.out];simp[bc,yC]) (eu _);have Ak:=ar aW;have qQ:=ar (ea ak yC);have aK:=dc.size;have ax:ay [] wr w2:=(dc.alloc (.cells Z8 188)).trans aT (by intro x hx;rw[au] at hx;omega);have BM:=ar (F8 RX yC uw.out w2);have aS:=ar ak;have aL:=ar ax;have aJ:Hid (wr.heap.size<=w1.heap.size):=aK;clear aW ak aT ax dc j1 aK;generalize bD:w1.heap.size=W at *;go_wp2_with(first|(with_reducible refine gS 188 Ak.out ?_)|(with_reducible refine gL 188 qQ.out ?_));refine BM.out.mono ?_;rintro e w3 (⟨ge,rfl,af,Ac,gW,V⟩|⟨rfl,gW,V⟩)
        ·have bw:=ar af
         have lS:Hid (ay [] wr w3):=aL.out.trans' V;have UH:=QN.out.keeps lS.out;obtain⟨aj,w4,aU,XI,QF⟩:=jE (P:= Tryz.prog) 32 88 32 ie _ 2 24 Tryz.underlying32 bb aY bl bk rfl (by omega) _ _ u7 _ UH.ents (some ⟨ge,0,none⟩) (lj RX) (lj RX) _ af.len (eE.cellsA af) (ra _) (by have :=UH.ok.ents;unfold maxLen;omega) (by have :=UH.ok.ents;omega) (by have :=lS.out.size;have :=I0.out.size;omega);have bC:w.heap.size+1<=w3.heap.size:=by have :=lS.out.size;have :=I0.out.size;omega
         have U:w4.ownsRow (w.heap.size+1) 3 1 (.slice a8 y.length c8) y.length (cW y):=uO UH.nums QF λg e8 e7=>vI UH.ents UH.nums (by decide) g e7 e8
         have DC:ay [] w w4:=UH.keep.grown QF λk Z=>by have :=cE UH.ents k Z;omega
         have Ta:bm w4 W (aR RX).toArray 188 :=(QF.block W ((aS.out.keep V (by simp)).lt) λe7=>by
          have h1:=vx QN.out.ents W e7.symm;have h2:=aJ.out;omega).trans (aS.out.keep V (by simp))
         have aO:=bm.new w4 #[.int .i64 bi] 3;obtain⟨aM,w6,sI,aH,Ic⟩:=jE (P:= Tryz.prog) 134 3 134 ii _ 1 8 Tryz.underlying134 bq bj ba VY rfl (by omega) _ _ (.slice a8 y.length c8) _ (cO U ((ay.refl [] w4).alloc (.cells #[.int .i64 bi] 3)) (by simp)) (some ⟨w4.heap.size,0,none⟩) 1 1 [.int .i64 bi] rfl (λ_=>⟨_,rfl,λj u hu=>by
          have hj:j<1:=(List.getElem?_eq_some_iff.1 hu).1;obtain rfl:j=0:=by omega
          rw[add_plain,aO.cell];exact hu⟩) (λu hu=>by rw[au] at hu;rw[hu];rfl) (by unfold maxLen;omega) (by omega) (by have :=QF.size;simp;omega)
         have av:w6.ownsRow (w.heap.size+1) 88 2 aj (z++tG X c).length (dK (z++tG X c)):=by
          have h1:w4.ownsRow (w.heap.size+1) 88 2 aj (z++tG X c).length (dK (z++tG X c)):=by
           rw[Uy.out,kU,aF,gU];exact XI
          have h2:=cO h1 ((ay.refl [] w4).alloc (.cells #[.int .i64 bi] 3)) (by simp);exact uO h2 Ic λg e7 e8=>vI h2 (cO U ((ay.refl [] w4).alloc (.cells #[.int .i64 bi] 3)) (by simp)) (by decide) g e7 e8
         have aw:w6.ownsRow (w.heap.size+1) 3 1 aM (y++[c]).length (cW (y++[c])):=by
          have e:cW (y++[c])=cW y++[.int .i64 bi]:=by rw[aq.out.1];simp[cW]
          rw[e,aF];exact aH
         have Dy:ay [] w w6:=(DC.alloc (.cells #[.int .i64 bi] 3)).grown Ic λk Z=>by have :=cE U k Z;omega
         have X7:bm w6 W (aR RX).toArray 188 :=(Ic.block W ((Ta.alloc _).lt) λe8=>by
          have h1:=vx QN.out.nums W e8.symm;have h2:=aJ.out;omega).trans (Ta.alloc _)
         have a6:Hid (Cj w w6 aj aM (y++[c]) (z++tG X c)):=⟨av,aw,Dy,QN.out.ok.step X aq.out.2.1 aq.out.2.2 (by omega)⟩;have bg:Hid (ay [] W0 w6):=by
          have h1:ay [] W0 w4:=(I0.out.trans' lS.out).grown QF λk Z=>by have :=cE UH.ents k Z;omega
          exact(h1.alloc (.cells #[.int .i64 bi] 3)).grown Ic λk Z=>by have :=cE U k Z;omega
         have cx:w6.cell? ⟨W,0,none⟩=some (.int .u64 (RX.getD 0 0)):=by rw[X7.cell,aC,cC (by omega)]
         have bh:=ar aU;have yo:=ar sI;have bo:Hid (jO X gk (RX.getD 0 0) (y++[c]) (z++tG X c)=jO X (25-own.length) fi own E):=by
          show _=_;rw[<-J.out,X6.out,aB (RP.out.2 gW),bp.out]
         have X8:=uw.out 0;clear UH XI QF U DC Ta aO aH Ic av aw Dy X7 af Ac gW V aU sI Ck J QN I0 BM;generalize RX.getD 0 0=xn at *;go_wp2_with(first|((with_reducible show wpList _ _ _ (⟨some 45,_,_,_,_,_⟩::_) _ _);refine wpList_append_run rfl (.tmp 43) (.tmp 44) 32 32 rfl u7 (.slice (some ⟨ge,0,none⟩) (lj RX) (lj RX)) rfl rfl bh.out ?_)|((with_reducible show wpList _ _ _ (⟨some 50,_,_,_,_,_⟩::_) _ _);refine wpList_append_run rfl (.tmp 46) (.tmp 49) 134 134 rfl (.slice a8 y.length c8) (.slice (some ⟨w4.heap.size,0,none⟩) 1 1) rfl rfl yo.out ?_));go_roundg gk;case measure=>omega
         case rel=>exact⟨y++[c],z++tG X c,xn,by simp;omega,rfl,bo.out,X8.1,X8.2,a6.out,bg.out⟩
        ·have HF:=ar (Ck.out w3 (aL.out.trans' V) (by rw[X6.out,aA (λh=>gW (RP.out.1 h))]))
         clear Ck J QN I0 gW V;go_wp2_with fail
         go_ret3
         exact HF.out
end Go.Proofs.YtcecbdeamjigiaaGreatDoor
