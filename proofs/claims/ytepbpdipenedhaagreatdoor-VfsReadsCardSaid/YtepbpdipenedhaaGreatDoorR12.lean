/- Lemmas. -/
import Derived.Test.YtepbpdipenedhaaGreatDoorR11
import Derived.Ground.SlsfProg
import Derived.Shelf.SlSortCmp.WholeK
import Derived.Sort.Grow
set_option maxHeartbeats 8000000
set_option maxRecDepth 100000
namespace Go.Proofs.YtepbpdipenedhaaGreatDoor
open Go.Proofs.Tryz
open Go.RowKit
variable{w:World}{T b b0 g gp k n sz:Nat}{xs z:List Value}{A B L X:List Int}{own:List Nat}{ps:List (Int×Int)}{v:Value}{E:List (ByteArray×Int)}
theorem aa3 (k:Nat)(h0:0<k)(hk:k<=1000)(z:Int)(Bp:z=(k:Int))(w:World):Calls prog 233 #[.slice none 0 0,.int .i64 z] w λe w'=>
  ∃c,e= .returned (.slice (some ⟨w.heap.size,0,none⟩) 0 c)/\w'.ownsRow w.heap.size 56 1 (.slice (some ⟨w.heap.size,0,none⟩) 0 c) 0 []/\az [] w w':=by
 obtain⟨i0,W,G,U,V⟩:=cP Tryz.info_u64;obtain⟨c,w',hr,hc,h,J⟩:=AU (P:= prog) w 71 3 56 i0 _ .i64 .i64 underlying71 underlying3 W G U rfl k h0 hk V;have h1:¬z<0:=by omega
 have h2:0<z:=by omega
 have h3:wrap64 z=z:=by unfold wrap64;omega
 simp only[<-Bp] at hr;have HO:=au h;have HK:=au J;have aa:c≠0:=by omega
 have ac:(0:Int)<=(c:Int):=by omega
 clear h J Bp W G U V hc;go_enter func233,ntmps233;go_wp2_with(at_builtin;refine wpList_append_run rfl (.tmp 20) (.tmp 21) 71 3 ?_ (.slice none 0 0) (.int .i64 z) ?_ ?_ (hr _) ?_;all_goals first|rfl|skip);go_ret;exact⟨c,rfl,HO.out,HK.out⟩
theorem Db{a:Option Addr}{m c:Nat}(h:Reads w (.slice a m c) g z)(U:m≠0):∃J,a=some J/\∀j u,z[j]? =some u->w.cell? (J.add j)=some u:=by
 obtain⟨a',c',V,h2,h3,h4⟩:=h;cases V;obtain⟨-,off,rfl,hc⟩:=h4 (by intro e;rw[e] at U;exact U rfl);refine⟨_,rfl,λj u G=> ?_⟩;have W:j<z.length:=(List.getElem?_eq_some_iff.1 G).1;rw[add_plain,hc j W,G]
def szC (j:Nat):Nat:=if j=0 then 0 else if j=1 then 5 else 13
def Px (h z:List Int) (j:Nat):List Int:=if j=0 then [] else if j=1 then h else h++z
theorem TE{gs g1 g2:Nat}{x1 x2:Value}{G z:List Int}(hb:bh w gs #[x1,x2] T)(h1:Reads w x1 g1 (aW G))(h2:Reads w x2 g2 (aW z))(GK:G.length=5)(af:z.length=8):
  Calls prog 222 #[.slice (some ⟨gs,0,none⟩) 2 2] w (jw w (G++z)):=by
 obtain⟨i0,hi,aa,ai,aj⟩:=cP Tryz.info_u64;obtain⟨a1,c1,rfl,av,VC,H1⟩:=iB h1;obtain⟨a2,c2,rfl,ar,ax,H2⟩:=iB h2;rw[GK] at hb av h1;rw[af] at hb ar h2;have Zb:=au h1;have Zc:=au h2;have HB:=au hb;clear h1 h2 hb H1 H2;have ag:∀J,az [] w J->J.cell? ⟨gs,0,none⟩=some (.slice a1 5 c1):=λJ hk=>by rw[(HB.out.keep hk (by simp)).cell];rfl
 have ak:∀J,az [] w J->J.cell? ⟨gs,1,none⟩=some (.slice a2 8 c2):=λJ hk=>by rw[(HB.out.keep hk (by simp)).cell];rfl
 have ah:=au ag;have ac:=au ak;clear ag ak;go_enter func222,ntmps222;go_wp2_with fail;go_loopg [3,11] 2 (λgh s3 KR J=>∃j:Nat,j+gh=2/\KR= .int .i64 (j:Int)/\s3= .int .i64 ((szC j:Nat):Int)/\w=J)
 case atStart=>exact⟨0,rfl,rfl,rfl,rfl⟩
 case round=>
  obtain⟨j,hj,rfl,rfl,rfl⟩:=hrel;have e0:=ah.out w (az.refl _ _);have e1:=ac.out w (az.refl _ _);rcases (show gk=0\/gk=1\/gk=2 by omega) with rfl|rfl|rfl
  ·obtain rfl:j=2:=by omega
   rw[show szC 2=13 from rfl];clear e0 e1;go_wp2_with fail;refine(aa3 13 (by omega) (by omega) 13 rfl w).mono ?_;rintro e w1 ⟨c,rfl,h,ae⟩;have HO:=au h;have HK:=au ae;clear h ae;go_wp2_with fail;go_loopg [6,27] 2 (λgh s6 s27 J=>∃j:Nat,j+gh=2/\s27= .int .i64 (j:Int)/\Hid (J.ownsRow w.heap.size 56 1 s6 (szC j) (aW (Px G z j))/\az [] w J))
   case atStart=>exact⟨0,rfl,rfl,HO.out,HK.out⟩
   case round=>
    clear HO HK;obtain⟨j,hj,rfl,HP⟩:=hrel;obtain⟨h,U⟩:=HP.out;have e0:=ah.out _ U;have e1:=ac.out _ U;rcases (show gk=0\/gk=1\/gk=2 by omega) with rfl|rfl|rfl
    ·obtain rfl:j=2:=by omega
     have HM:Hid (jw w (G++z) (.returned u6) wr):=by
      obtain⟨g,V,W⟩:=fp.of_row h;exact⟨u6,g,rfl,V.reads,(W (by decide)).1,U⟩
     clear e0 e1 h U HP;go_wp2_with fail;go_ret;exact HM.out
    ·obtain rfl:j=1:=by omega
     obtain⟨v',w',hr,V,W⟩:=lG (P:= prog) 71 56 71 i0 _ 1 8 underlying71 hi aa ai aj rfl (by omega) w.heap.size 5 _ _ h a2 8 c2 (aW z) (by rw[bp,af]) (Db (Zc.out.keep U (by simp))) (fh _) (by decide) (by omega) U.size;have HN:Hid (w'.ownsRow w.heap.size 56 1 v' 13 (aW (Px G z 2))/\az [] w w'):=by
      refine⟨?_,U.grown W (cZ h)⟩;have e:aW (Px G z 2)=aW (Px G z 1)++aW z:=by rw[<-nP];rfl
      rw[e];exact V
     clear h U HP V W e0;go_wp2_with(at_builtin;refine wpList_append_run rfl (.tmp 31) (.tmp 32) 71 71 ?_ u6 (.slice a2 8 c2) ?_ ?_ hr ?_;all_goals first|rfl|skip);go_roundg 0;case measure=>omega
     case rel=>exact⟨2,rfl,rfl,HN.out⟩
    ·obtain rfl:j=0:=by omega
     obtain⟨v',w',hr,V,W⟩:=lG (P:= prog) 71 56 71 i0 _ 1 8 underlying71 hi aa ai aj rfl (by omega) w.heap.size 0 _ _ h a1 5 c1 (aW G) (by rw[bp,GK]) (Db (Zb.out.keep U (by simp))) (fh _) (by decide) (by omega) U.size;have HN:Hid (w'.ownsRow w.heap.size 56 1 v' 5 (aW (Px G z 1))/\az [] w w'):=by
      refine⟨?_,U.grown W (cZ h)⟩;have e:aW (Px G z 1)=aW (Px G z 0)++aW G:=rfl;rw[e];exact V
     clear h U HP V W e1;go_wp2_with(at_builtin;refine wpList_append_run rfl (.tmp 31) (.tmp 32) 71 71 ?_ u6 (.slice a1 5 c1) ?_ ?_ hr ?_;all_goals first|rfl|skip);go_roundg 1;case measure=>omega
     case rel=>exact⟨1,rfl,rfl,HN.out⟩
  ·obtain rfl:j=1:=by omega
   rw[show szC 1=5 from rfl];clear e0;go_wp2_with fail;go_roundg 0;case measure=>omega
   case rel=>exact⟨2,rfl,rfl,rfl,rfl⟩
  ·obtain rfl:j=0:=by omega
   rw[show szC 0=0 from rfl];clear e1;go_wp2_with fail;go_roundg 1;case measure=>omega
   case rel=>exact⟨1,rfl,rfl,rfl,rfl⟩
def rR (X L l:List Int) (own:List Nat):Prop:=
 (L.getD 7 0<9223372036854775808/\own=[]/\jZ (L.drop 2) 6=some l)\/
 (∃b:Nat,L.getD 7 0=9223372036854775808+(b:Int)/\0<b/\b<256/\own=[b]/\jZ ((L.drop 2).take 5++eu X (1080+8*b)) 13=some l)
def pG (w:World) (X L:List Int) (e:Ending) (w':World):Prop:=
 ∃l z h own ok,e= .returned (.tuple #[.agg (zs l).toArray,z,.bool ok])/\l.length=13/\lq w' z h own/\w.heap.size<=h/\own.length<=1/\az [] w w'/\(ok=true->rR X L l own)/\(ok=false->∀l' G,¬rR X L l' G)
theorem rR.inj{l l':List Int}{V:List Nat}(h:rR X L l own)(W:rR X L l' V):l'=l/\V=own:=by
 rcases h with ⟨h1,h2,h3⟩|⟨b,h1,h2,h3,h4,h5⟩
 ·rcases W with ⟨J,G,z⟩|⟨b',J,G,z,g4,U⟩
  ·rw[h3] at z
   cases z;exact⟨rfl,by rw[G,h2]⟩
  ·omega
 ·rcases W with ⟨J,G,z⟩|⟨b',J,G,z,g4,U⟩
  ·omega
  ·obtain rfl:b'=b:=by omega
   rw[h5] at U;cases U;exact⟨rfl,by rw[g4,h4]⟩
def Cg (l:List Int):Prop:=∀k,0<=l.getD k 0/\l.getD k 0<18446744073709551616
theorem Cg.app(J:Cg A)(U:Cg B):Cg (A++B):=λk=>by
 have z:=J k;have G:=U (k-A.length);rw[aj] at z G ⊢;by_cases h:k<A.length
 ·rw[aY h];exact z
 ·rw[aQ (by omega)];exact G
theorem Cg.drop(h:Cg A)(n:Nat):Cg (A.drop n):=λk=>by
 have :=h (n+k);rwa[show(A.drop n).getD k 0=A.getD (n+k) 0 by simp]
theorem Cg.take(z:Cg A)(n:Nat):Cg (A.take n):=λk=>by
 have :=z k;by_cases h:k<n
 ·rwa[show(A.take n).getD k 0=A.getD k 0 by simp[h]]
 ·rw[aj,aT (by rw[aJ];omega)]
  exact⟨by decide,by decide⟩
theorem Cg.row(z:Cg X)(p:Nat):Cg (eu X p):=λk=>by
 by_cases h:k<8
 ·rw[j5 X p k h];exact z _
 ·rw[aj,aT (by rw[iD];omega)]
  exact⟨by decide,by decide⟩
theorem FL (w:World)(g:Nat):Reads w (.slice none 0 0) g (dE []):=⟨none,0,rfl,aI _,by unfold maxLen;omega,λh=>absurd rfl h⟩
theorem Hd (hL:L.length=8)(yA:∀k,0<=L.getD k 0/\L.getD k 0<18446744073709551616)(h7:L.getD 7 0<9223372036854775808):
  Calls prog 213 #[.pointer (some ⟨b0,0,none⟩),.agg (aW L).toArray] w (pG w X L):=by
 obtain⟨G,h⟩:∃G,G=(w.alloc (.cells (aW L).toArray 195)).alloc (.cells (zs (List.replicate 13 0)).toArray 109):=⟨_,rfl⟩;have J:bh G w.heap.size (aW L).toArray 195 :=by
  rw[h];exact(bh.new w _ _).alloc _
 have ah:bh G (w.heap.size+1) (zs (List.replicate 13 0)).toArray 109 :=by
  have :=bh.new (w.alloc (.cells (aW L).toArray 195)) (zs (List.replicate 13 0)).toArray 109;have e:(w.alloc (.cells (aW L).toArray 195)).heap.size=w.heap.size+1:=by simp
  rw[e] at this;rw[h];exact this
 have dt:az [] w G:=by
  rw[h];exact((az.refl _ _).alloc _).alloc _
 have c7:G.cell? ⟨w.heap.size,7,none⟩=some (.int .u64 (L.getD 7 0)):=by rw[J.cell,aF,dA (by omega)]
 rw[h] at c7;have aA:=oH;have ax:=rJ w.heap.size;have hr:Reads G (.slice (some ⟨w.heap.size,2,none⟩) 6 6) w.heap.size (aW (L.drop 2)):=by
  have :=J.reads (o:=2) (n:=6) (c:=6) (by omega) (aI _) (by omega);rwa[aV (by rw[bE,hL];omega)] at this
 have Hb:=au (Ms hr (by simp;omega) (λk=>by
  have :=yA (2+k);rwa[show(L.drop 2).getD k 0=L.getD (2+k) 0 by simp]))
 have AL:=au ah;have fW:=au dt;have qC:=au h;have aB:¬(9223372036854775808:Int)<=L.getD 7 0:=by omega
 have H7:=au h7;have HL:=au hL;clear J ah dt hr h yA hL h7;generalize Mc:L.getD 7 0=xi at *;have ac:=au Mc;clear Mc;generalize (aW L).toArray=ZL at *;generalize aa:(zs (List.replicate 13 0)).toArray=Z0 at *;have oz:=au aa;clear aa;go_enter func213,ntmps213;go_wp2_with fail;rw[<-qC.out];refine Hb.out.mono ?_;rintro e w1 ⟨l,ok,rfl,U,h1,h2,z⟩;obtain⟨w2,af,ai,W⟩:=bB (P:= prog) (ty:= 109) (cs:=zs l) (by rw[eF,U];exact kP) (bh.new w1 Z0 109) (by rw[<-oz.out];simp[eF,U]) (l9 _);have ar:=z.size;have ak:=AL.out.lt;have Xk:bh w2 (w.heap.size+1) Z0 109 :=((AL.out.keep z (by simp)).alloc _).keep W (by simp;omega);obtain⟨w3,ae,rI,ag⟩:=bB (P:= prog) (ty:= 109) (cs:=zs l) (by rw[eF,U];exact kP) Xk (by rw[<-oz.out];simp[eF,U]) (l9 _);have DF:=au af;have ov:=au ae;have yr:=au (fc (off:=0) ai U (λk hk=>by rw[aX,aF,fR (by omega)]));have qN:=au (fc (off:=0) rI U (λk hk=>by rw[aX,aF,fR (by omega)]));have Xl:(L.drop 2).length=6:=by rw[bE,HL.out]
 have HM:Hid (pG w X L (.returned (.tuple #[.agg (zs l).toArray,.slice none 0 0,.bool ok])) w3):=by
  refine⟨l,_,w.heap.size,[],ok,rfl,U,lq.nil _ _,aI _,by simp,?_,λV=> .inl ⟨by rw[ac.out];exact H7.out,rfl,by rw[<-Xl];exact h1 V⟩,λV l' cM hs=> ?_⟩
  ·exact(((fW.out.trans' z).alloc _).trans W (by intro x hx;simp at hx;omega)).trans ag (by intro x hx;rw[ay] at hx;omega)
  ·have h3:=(h2 V).1
   rcases hs with ⟨-,-,g3⟩|⟨b',g1,-⟩
   ·rw[<-Xl,h3] at g3
    cases g3
   ·rw[ac.out] at g1
    have :=H7.out;omega
 clear af ai W Xk ae rI ag h1 h2 z ar ak Xl;generalize av:w1.heap.size=g1 at *;go_wp2_with(first|(with_reducible refine gS 109 DF.out ?_)|(with_reducible refine gL 109 yr.out ?_)|(with_reducible refine gS 109 ov.out ?_));exact aL (bU results213 rfl qN.out rfl rfl) rfl HM.out
theorem J6 (hL:L.length=8){bi:Int}(h7:L.getD 7 0=9223372036854775808+bi)(h0:0<=bi)(hb:bi=0\/256<=bi)(ac:L.getD 7 0<18446744073709551616):
  Calls prog 213 #[.pointer (some ⟨b0,0,none⟩),.agg (aW L).toArray] w (pG w X L):=by
 obtain⟨G,h⟩:∃G,G=(w.alloc (.cells (aW L).toArray 195)).alloc (.cells (zs (List.replicate 13 0)).toArray 109):=⟨_,rfl⟩;have J:bh G w.heap.size (aW L).toArray 195 :=by
  rw[h];exact(bh.new w _ _).alloc _
 have U:bh G (w.heap.size+1) (zs (List.replicate 13 0)).toArray 109 :=by
  have :=bh.new (w.alloc (.cells (aW L).toArray 195)) (zs (List.replicate 13 0)).toArray 109;have e:(w.alloc (.cells (aW L).toArray 195)).heap.size=w.heap.size+1:=by simp
  rw[e] at this;rw[h];exact this
 have dt:az [] w G:=by
  rw[h];exact((az.refl _ _).alloc _).alloc _
 have c7:G.cell? ⟨w.heap.size,7,none⟩=some (.int .u64 (L.getD 7 0)):=by rw[J.cell,aF,dA (by omega)]
 rw[h] at c7;have aj:=oH;have ag:=rJ w.heap.size;obtain⟨w2,z,V,aa⟩:=bB (P:= prog) (ty:= 109) (cs:=zs (List.replicate 13 0)) (by rw[eF];exact kP) U (by simp[eF]) (l9 _);rw[h] at z;have DF:=au z;have yr:=au (fc (off:=0) (l:=List.replicate 13 0) V (by simp) (λk hk=>by rw[aX,aF,fR (by simpa using hk)]));have HM:Hid (pG w X L (.returned (.tuple #[.agg (zs (List.replicate 13 0)).toArray,.slice none 0 0,.bool false])) w2):=by
  refine⟨List.replicate 13 0,_,w.heap.size,[],false,rfl,by simp,lq.nil _ _,aI _,by simp,?_,λae=>(by cases ae),λ_ l' cM hs=> ?_⟩
  ·exact dt.trans aa (by intro x hx;rw[ay] at hx;omega)
  ·rcases hs with ⟨g1,-⟩|⟨b',g1,g2,g3,-⟩<;>omega
 have ah:(9223372036854775808:Int)<=L.getD 7 0:=by omega
 have af:L.getD 7 0-9223372036854775808=bi:=by omega
 have hw:IntKind.u64.wrap bi=bi:=mD h0 (by omega);clear J U dt h hL h7 ac z V aa;generalize L.getD 7 0=xi at *;generalize (aW L).toArray=ZL at *;generalize (zs (List.replicate 13 0)).toArray=Z0 at *;by_cases W:bi=0
 ·subst W
  clear hb;go_enter func213,ntmps213;go_wp2_with(first|(with_reducible refine gS 109 DF.out ?_));exact aL (bU results213 rfl yr.out rfl rfl) rfl HM.out
 ·have ai:=hb.resolve_left W
  clear hb;go_enter func213,ntmps213;go_wp2_with(first|(with_reducible refine gS 109 DF.out ?_));exact aL (bU results213 rfl yr.out rfl rfl) rfl HM.out
theorem He (Pb:eO w b gp B ps)(DK:∀k,0<=(aA B ps).getD k 0/\(aA B ps).getD k 0<18446744073709551616){L:List Int}(hL:L.length=8)(yA:∀k,0<=L.getD k 0/\L.getD k 0<18446744073709551616)
  {c:Nat} (h7:L.getD 7 0=9223372036854775808+(c:Int)) (aQ:0<c) (hc:c<256):
  Calls prog 213 #[.pointer (some ⟨b,0,none⟩),.agg (aW L).toArray] w (pG w (aA B ps) L):=by
 obtain⟨W0,G⟩:∃W0,W0=(w.alloc (.cells (aW L).toArray 195)).alloc (.cells (zs (List.replicate 13 0)).toArray 109):=⟨_,rfl⟩;have ax:bh W0 w.heap.size (aW L).toArray 195 :=by
  rw[G];exact(bh.new w _ _).alloc _
 have aG:bh W0 (w.heap.size+1) (zs (List.replicate 13 0)).toArray 109 :=by
  have :=bh.new (w.alloc (.cells (aW L).toArray 195)) (zs (List.replicate 13 0)).toArray 109;have e:(w.alloc (.cells (aW L).toArray 195)).heap.size=w.heap.size+1:=by simp
  rw[e] at this;rw[G];exact this
 have dt:az [] w W0:=by
  rw[G];exact((az.refl _ _).alloc _).alloc _
 have c7:W0.cell? ⟨w.heap.size,7,none⟩=some (.int .u64 (L.getD 7 0)):=by rw[ax.cell,aF,dA (by omega)]
 rw[G] at c7;have bq:=oH;have bG:=kC;have bz:=rJ w.heap.size;have uL:=au (λwx=>jU (c:Int) wx);have zx:Hid (iL (c:Int)=((1080+8*c:Nat):Int)):=by
  show _=_;rw[iL,aB (by omega)];omega
 have ma:=au (oL (Pb.keep dt (by simp) (by simp)) (1080+8*c) (by omega));have yw:Hid (∀k,0<=((L.drop 2).take 5++eu (aA B ps) (1080+8*c)).getD k 0/\((L.drop 2).take 5++eu (aA B ps) (1080+8*c)).getD k 0<18446744073709551616):=Cg.app ((Cg.drop yA 2).take 5) (Cg.row DK _);have Ch:=iD (aA B ps) (1080+8*c);have bu:(9223372036854775808:Int)<=L.getD 7 0:=by omega
 obtain⟨z,N5,bo,hw,bD,bC,bF⟩:∃z:Int,(c:Int)=z/\L.getD 7 0-9223372036854775808=z/\IntKind.u64.wrap z=z/\wrap64 z=z/\¬z=0/\¬256<=z:=⟨_,rfl,by omega,mD (by omega) (by omega),by unfold wrap64;omega,by omega,by omega⟩;have HC:Hid (L.getD 7 0=9223372036854775808+(c:Int)/\0<c/\c<256):=⟨h7,aQ,hc⟩;have rb:=au ax;have AL:=au aG;have fW:=au dt;have qC:=au G;have HL:=au hL;have IH:Hid (((L.drop 2).take 5).length=5):=by show _=_;rw[aJ,bE,hL];rfl
 rw[N5] at uL zx;generalize aZ:eu (aA B ps) (1080+8*c)=RX at *;have bf:=au aZ;clear ax aG dt G hL yA DK Pb h7 aZ;generalize bl:((1080+8*c:Nat):Int)=pi at *;generalize Mc:L.getD 7 0=xi at *;have aj:=au Mc;have KP:=au N5;clear Mc bl N5 hc aQ;generalize aP:(aW L).toArray=ZL at *;have QY:=au aP;clear aP;generalize aY:(zs (List.replicate 13 0)).toArray=Z0 at *;have oz:=au aY;clear aY;generalize wK:(aW (List.replicate 8 0)).toArray=Z8 at *;have xR:=au wK;clear wK;go_enter func213,ntmps213;go_wp2_with fail;refine(uL.out _).mono ?_;rintro e wy ⟨rfl,rfl⟩;rw[zx.out];go_wp2_with fail;rw[<-qC.out];refine ma.out.mono ?_;rintro e w1 ⟨rfl,aa⟩;obtain⟨U,V,TF,aM⟩:=bB (P:= prog) (ty:= 195) (cs:=aW RX) (by rw[bp,Ch];exact ja) (bh.new w1 Z8 195) (by rw[<-xR.out];simp[bp,Ch]) (fh _);have DF:=au V;have ae:=aa.size;have iM:az [] W0 U:=(aa.alloc (.cells Z8 195)).trans aM (by intro x hx;rw[ay] at hx;omega);have ak:=au iM;have bv:=au TF;have ar:=rb.out.keep iM (by simp);have aU:Hid (Reads U (.slice (some ⟨w.heap.size,2,none⟩) 5 6) w.heap.size (aW ((L.drop 2).take 5))):=by
  rw[<-QY.out] at ar;exact ar.reads (o:=2) (n:=5) (c:=6) (by rw[HL.out];omega) (by omega) (by omega)
 have aO:Hid (Reads U (.slice (some ⟨w1.heap.size,0,none⟩) 8 8) w1.heap.size (aW RX)):=by
  have :=bh.reads (o:=0) (n:=8) (c:=8) TF (by rw[Ch];omega) (aI _) (by omega);rwa[List.drop_zero,aV (by rw[Ch];exact aI _)] at this
 clear V TF aM iM aa ma ae ar;generalize bA:w1.heap.size=g1 at *;have bw:=Fg w.heap.size;have bt:=vh g1;go_wp2_with(first|(with_reducible refine gS 195 DF.out ?_));refine xq (S:=λwx=>az [] U wx) (l:=[_,_]) (tl:=[_,_,_]) (by kernel_rfl) rfl (by kernel_rfl) (by kernel_rfl) (by kernel_rfl) (λd _ _ _ _ h=>by cases d<;>exact h) (az.refl _ _).drew ?_;repeat (refine cN.cons ?_ (YieldsIf.val rfl ?h) ?_;(case h=>(intro wx hx;clear hx;go_simp;rfl));simp only[Act.put,ag,ah,ai])
 refine cN.done ?_;unfold gI;go_wp2_with fail;refine⟨((az.refl _ _).drew).alloc _,?_⟩;unfold gI;have Mt:Hid (∀wx,az [] U wx->bh wx U.heap.size #[.slice (some ⟨w.heap.size,2,none⟩) 5 6,.slice (some ⟨g1,0,none⟩) 8 8] 71->Calls prog 222 #[.slice (some ⟨U.heap.size,0,none⟩) 2 2] wx (jw wx ((L.drop 2).take 5++RX))):=λwx hk hb=>by
  refine TE hb ((aU.out).keep hk (by simp)) ((aO.out).keep hk (by simp)) IH.out Ch
 have aT:bh ((U.alloc (.cells #[.slice (some ⟨w.heap.size,2,none⟩) 5 6,.slice (some ⟨g1,0,none⟩) 8 8] 71)).drew) U.heap.size #[.slice (some ⟨w.heap.size,2,none⟩) 5 6,.slice (some ⟨g1,0,none⟩) 8 8] 71 :=(bh.new U _ _).drew;have G1:=au aT;clear aT aU aO;go_wp2_with fail;refine(Mt.out _ (((az.refl _ _).alloc _).drew) G1.out).mono ?_;rintro e J ⟨va,ga,rfl,KU,tv,ba⟩;have mH:az [] U J:=(((az.refl [] U).alloc (.cells #[.slice (some ⟨w.heap.size,2,none⟩) 5 6,.slice (some ⟨g1,0,none⟩) 8 8] 71)).drew).trans' ba;have Xm:=au mH;have af:=au KU;clear KU tv ba mH G1 Mt;go_wp2_with fail;refine⟨Xm.out,?_⟩;unfold gI;go_wp2_with fail;refine⟨Xm.out,?_⟩;unfold gI;have aR:Reads (J.alloc (.cells #[.int .i64 z] 3)) va ga (aW ((L.drop 2).take 5++RX)):=by
  by_cases h0:aW ((L.drop 2).take 5++RX)=[]
  ·exact absurd (cB List.length h0) (by rw[bp,aD,IH.out,Ch];decide)
  ·exact af.out.keep ((az.refl [] J).alloc _) (by simp)
 have Hb:=au (Ms aR (by rw[aD,IH.out,Ch];omega) yw.out);obtain⟨av,cv,bc,-,-,-⟩:=iB af.out;have Py:((L.drop 2).take 5++RX).length=13:=by rw[aD,IH.out,Ch]
 rw[Py] at bc;have bb:=bh.new J #[.int .i64 z] 3;have L6:=au bb;have aS:=au Py;clear aR bb af Py;subst bc;go_wp2_with fail;refine Hb.out.mono ?_;rintro e w4 ⟨l,ok,rfl,rQ,h1,h2,W⟩;rw[aS.out] at h1 h2;obtain⟨w5,V,aH,j6⟩:=bB (P:= prog) (ty:= 109) (cs:=zs l) (by rw[eF,rQ];exact kP) (bh.new w4 Z0 109) (by rw[<-oz.out];simp[eF,rQ]) (l9 _);have ae:=W.size;have bj:=Xm.out.size;have bk:=ak.out.size;have bn:=AL.out.lt;have bg:J.heap.size<(J.alloc (.cells #[.int .i64 z] 3)).heap.size:=L6.out.lt;have Xk:bh w5 (w.heap.size+1) Z0 109 :=(((((AL.out.keep ak.out (by simp)).keep Xm.out (by simp)).alloc _).keep W (by simp)).alloc _).keep j6 (by rw[ay];omega);have aK:bh w5 J.heap.size #[.int .i64 z] 3 :=((L6.out.keep W (by simp)).alloc _).keep j6 (by rw[ay];omega);obtain⟨w6,aN,rI,kG⟩:=bB (P:= prog) (ty:= 109) (cs:=zs l) (by rw[eF,rQ];exact kP) Xk (by rw[<-oz.out];simp[eF,rQ]) (l9 _);have aC:bh w6 J.heap.size #[.int .i64 z] 3 :=aK.keep kG (by rw[ay];omega);have DF:=au V;have ov:=au aN;have yr:=au (fc (off:=0) aH rQ (λk hk=>by rw[aX,aF,fR (by omega)]));have qN:=au (fc (off:=0) rI rQ (λk hk=>by rw[aX,aF,fR (by omega)]));have HM:Hid (pG w (aA B ps) L (.returned (.tuple #[.agg (zs l).toArray,.slice (some ⟨J.heap.size,0,none⟩) 1 1,.bool ok])) w6):=by
  refine⟨l,_,J.heap.size,[c],ok,rfl,rQ,⟨⟨rfl,.inr ⟨J.heap.size,1,#[.int .i64 z],rfl,aI _,aC,aI _,by unfold maxLen;omega,by simp,?_⟩⟩,λk hk=>by cases hk;rfl⟩,by omega,by simp,?_,λac=> .inr ⟨c,by rw[aj.out];exact HC.out.1,HC.out.2.1,HC.out.2.2,rfl,by rw[bf.out];exact h1 ac⟩,λac l' cM hs=> ?_⟩
  ·rw[<-KP.out]
   rfl
  ·refine(((fW.out.trans' ak.out).trans' Xm.out).trans' ((((az.refl [] J).alloc (.cells #[.int .i64 z] 3)).trans' W).alloc (.cells Z0 109))).trans j6 (by intro x hx;rw[ay] at hx;omega) |>.trans kG (by intro x hx;rw[ay] at hx;omega)
  ·have h3:=(h2 ac).1
   have hc:=HC.out;rcases hs with ⟨g1,-⟩|⟨b',g1,g2,g3,-,g5⟩
   ·rw[aj.out] at g1
    omega
   ·rw[aj.out] at g1
    obtain rfl:b'=c:=by omega
    rw[bf.out,h3] at g5;cases g5
 clear V aH j6 Xk aN rI kG h1 h2 W ae bj bk bg bn aK aC;generalize br:w4.heap.size=g4 at *;go_wp2_with(first|(with_reducible refine gS 109 DF.out ?_)|(with_reducible refine gL 109 yr.out ?_)|(with_reducible refine gS 109 ov.out ?_));exact aL (bU results213 rfl qN.out rfl rfl) rfl HM.out
def nG (r:List Int):Nat:=if r.getD 1 0=0 then 0 else if r.getD 3 0=0 then 1 else if r.getD 5 0=0 then 2 else 3
theorem Ri (r:List Int):nG r<=3:=by
 unfold nG;split
 ·omega
 ·split
  ·omega
  ·split<;>omega
theorem IM{r:List Int}(V:k<=3)(h:∀j,j<k->r.getD (2*j+1) 0≠0)(J:k=3\/r.getD (2*k+1) 0=0):nG r=k:=by
 rcases (show k=0\/k=1\/k=2\/k=3 by omega) with rfl|rfl|rfl|rfl
 ·have z:r.getD 1 0=0:=J.resolve_left (by omega)
  unfold nG;rw[aC z]
 ·have z:r.getD 1 0≠0:=h 0 (by omega)
  have G:r.getD 3 0=0:=J.resolve_left (by omega);unfold nG;rw[aB z,aC G]
 ·have z:r.getD 1 0≠0:=h 0 (by omega)
  have G:r.getD 3 0≠0:=h 1 (by omega);have U:r.getD 5 0=0:=J.resolve_left (by omega);unfold nG;rw[aB z,aB G,aC U]
 ·have z:r.getD 1 0≠0:=h 0 (by omega)
  have G:r.getD 3 0≠0:=h 1 (by omega);have U:r.getD 5 0≠0:=h 2 (by omega);unfold nG;rw[aB z,aB G,aB U]
def ka (r:List Int):List Int:=(r.drop 1).take (2*nG r)
theorem Pz (b c:Nat)(h:1<=c)(z:c<=7)(w:World):(Instr.sliceAt 195 (.pointer (some ⟨b,0,none⟩)) (some (.int .i64 1)) (some (.int .i64 (c:Int))) none).run prog w= .ok (.slice (some ⟨b,1,none⟩) (c-1) 7) w:=by
 rcases (show c=1\/c=2\/c=3\/c=4\/c=5\/c=6\/c=7 by omega) with rfl|rfl|rfl|rfl|rfl|rfl|rfl
 all_goals (show Sem.run _ _ _=_;kernel_rfl)
theorem J7 (r:List Int)(wN:r.length=8)(ac:∀k,0<=r.getD k 0/\r.getD k 0<18446744073709551616)(w:World):
  Calls prog 224 #[.agg (aW r).toArray] w (nU w (ka r) (nG r)):=by
 have J:=bh.new w (aW r).toArray 195;obtain⟨W0,U⟩:∃W0,W0=w.alloc (.cells (aW r).toArray 195):=⟨_,rfl⟩;rw[<-U] at J;have oK:=au J;have fW:Hid (az [] w W0):=by
  rw[U];exact(az.refl [] w).alloc _
 have qC:=au U;have BS:=au wN;have DL:Hid (∀k,k<=3->(∀j,j<k->r.getD (2*j+1) 0≠0)->(k=3\/r.getD (2*k+1) 0=0)->∀n,n=2*k->Calls prog 210 #[.slice (some ⟨w.heap.size,1,none⟩) n 7] W0 λe w'=>nU w (ka r) (nG r) e w'):=λk hk h he n W=>by
  have hc:=IM hk h he;have wP:=J.reads (o:=1) (n:=n) (c:=7) (by omega) (by omega) (by omega);have KS:((r.drop 1).take n).length=n:=by rw[aJ,bE];omega
  have h6:∀j,0<=((r.drop 1).take n).getD j 0/\((r.drop 1).take n).getD j 0<18446744073709551616:=λj=>by
   by_cases hj:j<n
   ·have e0:((r.drop 1).take n).getD j 0=r.getD (1+j) 0:=by simp[hj,Nat.add_comm]
    rw[e0];exact ac _
   ·rw[aj,aT (by omega)]
    simp
  refine(wh wP (by omega) k (by omega) h6).mono λe w' hp=> ?_
  have e1:ka r=(r.drop 1).take n:=by rw[ka,hc,W]
  rw[e1,hc];have hw:=fW.out.size;rcases hp with ⟨g,a1,z,G,a4,a5⟩|⟨a1,z,G⟩
  ·exact .inl ⟨g,a1,z,by omega,a4,fW.out.trans' a5⟩
  ·exact .inr ⟨a1,z,fW.out.trans' G⟩
 have Wy:Hid (∀j,j<8->W0.cell? ⟨w.heap.size,j,none⟩=some (.int .u64 (r.getD j 0))):=λj hj=>by
  rw[J.cell,aF,dA (by omega)]
 clear J U wN ac oK BS;generalize (aW r).toArray=Z at *;go_enter func224,ntmps224;go_wp2_with fail;rw[<-qC.out];go_loopg [4] 3 (λgh s4 wx=>∃k b:Nat,k+gh=3/\b=2*k+1/\s4= .int .i64 (b:Int)/\Hid (∀j,j<k->r.getD (2*j+1) 0≠0)/\wx=W0)
 case atStart=>exact⟨0,1,by omega,by omega,rfl,λj hj=>by omega,rfl⟩
 case round=>
  obtain⟨k,b,hk,hb,rfl,HP,rfl⟩:=hrel;have J:(0:Int)<=(b:Int):=by omega
  have af:(1:Int)<=(b:Int):=by omega
  have aa:=Pz w.heap.size b (by omega) (by omega);obtain⟨n,W⟩:∃n,n=2*k:=⟨_,rfl⟩;rw[show b-1=n by omega] at aa;by_cases h7:b<7
  ·have ae:(b:Int)<7:=by omega
   have hc:=Wy.out b (by omega);by_cases hx:r.getD b 0=0
   ·have HE:=au (DL.out k (by omega) HP.out (.inr (by rw[<-hb];exact hx)) n W)
    rw[hx] at hc;clear hx hk W hb;go_wp2_with fail;refine HE.out.mono ?_;rintro e w' hp;rcases hp with ⟨g,rfl,z,G,a4,a5⟩|⟨rfl,z,G⟩
    ·have V:Hid (nU w (ka r) (nG r) (.returned (.tuple #[.slice (some ⟨g,0,none⟩) (nG r) (nG r),.bool true])) w'):= .inl ⟨g,rfl,z,G,a4,a5⟩
     clear z G a4 a5;go_wp2_with fail;go_ret2;exact V.out
    ·have V:Hid (nU w (ka r) (nG r) (.returned (.tuple #[.slice none 0 0,.bool false])) w'):= .inr ⟨rfl,z,G⟩
     clear z G;go_wp2_with fail;go_ret2;exact V.out
   ·have HN:Hid (∀j,j<k+1->r.getD (2*j+1) 0≠0):=λj hj=>by
     by_cases e:j=k
     ·subst e;rw[<-hb];exact hx
     ·exact HP.out j (by omega)
    have ag:(r.getD b 0 != 0)=true:=bne_iff_ne.2 hx;clear hx;generalize r.getD b 0=x at *;have D8:Hid (b=2*k+1/\k+gk=3):=⟨hb,hk⟩;clear aa hb hk W;go_wp2_with fail;go_roundg (gk-1);case measure=>have :=D8.out;omega
    case rel=>exact⟨k+1,b+2,by have :=D8.out;omega,by have :=D8.out;omega,by go_num,HN.out,rfl⟩
  ·have ae:¬(b:Int)<7:=by omega
   have HE:=au (DL.out k (by omega) HP.out (.inl (by omega)) n W);clear hk W hb;go_wp2_with fail;refine HE.out.mono ?_;rintro e w' hp;rcases hp with ⟨g,rfl,z,G,a4,a5⟩|⟨rfl,z,G⟩
   ·have V:Hid (nU w (ka r) (nG r) (.returned (.tuple #[.slice (some ⟨g,0,none⟩) (nG r) (nG r),.bool true])) w'):= .inl ⟨g,rfl,z,G,a4,a5⟩
    clear z G a4 a5;go_wp2_with fail;go_ret2;exact V.out
   ·have V:Hid (nU w (ka r) (nG r) (.returned (.tuple #[.slice none 0 0,.bool false])) w'):= .inr ⟨rfl,z,G⟩
    clear z G;go_wp2_with fail;go_ret2;exact V.out
end Go.Proofs.YtepbpdipenedhaaGreatDoor
namespace Go.Proofs.YtepbpdipenedhaaGreatDoor
open Go.Proofs.Tryz
open Go.Shelf
variable{w:World}{T b b0 g gp k n sz:Nat}{xs z:List Value}{A B L X:List Int}{own:List Nat}{ps:List (Int×Int)}{v:Value}{E:List (ByteArray×Int)}
def Dc:Go.Shelf.Ren:=⟨λ|6=> 225|15=> 235|14=> 234|28=> 246|29=> 247|20=> 238|21=> 239|22=> 240|23=> 241|24=> 242|25=> 243|26=> 244|27=> 245|46=> 248|47=> 249|48=> 250|49=> 251|50=> 252|57=> 253|n=>n,λ|22=> 32|24=> 87|25=> 277|3=> 3|39=> 176|0=> 0|53=> 177|55=> 56|4=> 4|46=> 291|45=> 290|50=> 48|5=> 5|9=> 9|66=> 297|70=> 301|76=> 303|77=> 304|n=>n,λ|n=>n⟩
theorem Rj:Go.Proofs.SlLaysF0.n6 prog Dc:={
 mixed:=by kernel_rfl
 f6:=⟨Tryz.f225.name,by decide,func225.trans (cB some (by kernel_rfl))⟩
 f14:=⟨Tryz.f234.name,by decide,func234.trans (cB some (by kernel_rfl))⟩
 f15:= func235.trans (cB some (by kernel_rfl))
 f20:=⟨Tryz.f238.name,by decide,func238.trans (cB some (by kernel_rfl))⟩
 f21:=⟨Tryz.f239.name,by decide,func239.trans (cB some (by kernel_rfl))⟩
 f22:=⟨Tryz.f240.name,by decide,func240.trans (cB some (by kernel_rfl))⟩
 f23:=⟨Tryz.f241.name,by decide,func241.trans (cB some (by kernel_rfl))⟩
 f24:=⟨Tryz.f242.name,by decide,func242.trans (cB some (by kernel_rfl))⟩
 f25:=⟨Tryz.f243.name,by decide,func243.trans (cB some (by kernel_rfl))⟩
 f26:=⟨Tryz.f244.name,by decide,func244.trans (cB some (by kernel_rfl))⟩
 f27:=⟨Tryz.f245.name,by decide,func245.trans (cB some (by kernel_rfl))⟩
 f28:= func246.trans (cB some (by kernel_rfl))
 f29:= func247.trans (cB some (by kernel_rfl))
 f46:=⟨Tryz.f248.name,by decide,func248.trans (cB some (by kernel_rfl))⟩
 f47:= func249.trans (cB some (by kernel_rfl))
 f48:= func250.trans (cB some (by kernel_rfl))
 f49:=⟨Tryz.f251.name,by decide,func251.trans (cB some (by kernel_rfl))⟩
 f50:=⟨Tryz.f252.name,by decide,func252.trans (cB some (by kernel_rfl))⟩
 f57:=⟨Tryz.f253.name,by decide,func253.trans (cB some (by kernel_rfl))⟩
 t0:= underlying0
 a0:= Tryz.isAgg0
 z0:= Tryz.sizeOf0
 v0:= Tryz.zeroValue0
 t3:= underlying3
 a3:= Tryz.isAgg3
 z3:= Tryz.sizeOf3
 v3:= Tryz.zeroValue3
 t4:= underlying4
 a4:= Tryz.isAgg4
 z4:= Tryz.sizeOf4
 v4:= Tryz.zeroValue4
 t5:= underlying5
 a5:= Tryz.isAgg5
 z5:= Tryz.sizeOf5
 v5:= Tryz.zeroValue5
 t9:= underlying9
 a9:= Tryz.isAgg9
 z9:= Tryz.sizeOf9
 v9:= Tryz.zeroValue9
 t22:= underlying32
 a22:= Tryz.isAgg32
 z22:= Tryz.sizeOf32
 v22:= Tryz.zeroValue32
 t25:= underlying277
 a25:= Tryz.isAgg277
 z25:= Tryz.sizeOf277
 v25:= Tryz.zeroValue277
 t39:= underlying176
 a39:= Tryz.isAgg176
 z39:= Tryz.sizeOf176
 v39:= Tryz.zeroValue176
 t45:= underlying290
 a45:= Tryz.isAgg290
 z45:= Tryz.sizeOf290
 v45:= Tryz.zeroValue290
 t46:= underlying291
 a46:= Tryz.isAgg291
 z46:= Tryz.sizeOf291
 v46:= Tryz.zeroValue291
 t50:= underlying48
 a50:= Tryz.isAgg48
 z50:= Tryz.sizeOf48
 v50:= Tryz.zeroValue48
 t53:= underlying177
 a53:= Tryz.isAgg177
 z53:= Tryz.sizeOf177
 v53:= Tryz.zeroValue177
 t55:= underlying56
 a55:= Tryz.isAgg56
 z55:= Tryz.sizeOf56
 v55:= Tryz.zeroValue56
 t66:= underlying297
 a66:= Tryz.isAgg297
 z66:= Tryz.sizeOf297
 v66:= Tryz.zeroValue297
 t70:= underlying301
 a70:= Tryz.isAgg301
 z70:= Tryz.sizeOf301
 v70:= Tryz.zeroValue301
 t76:= underlying303
 a76:= Tryz.isAgg303
 z76:= Tryz.sizeOf303
 v76:= Tryz.zeroValue303
 t77:= underlying304
 a77:= Tryz.isAgg304
 z77:= Tryz.sizeOf304
 v77:= Tryz.zeroValue304 }
end Go.Proofs.YtepbpdipenedhaaGreatDoor
namespace Go.Proofs.YtepbpdipenedhaaGreatDoor
open Go.Proofs.Tryz
open Go.RowKit
variable{w:World}{T b b0 g gp k n sz:Nat}{xs z:List Value}{A B L X:List Int}{own:List Nat}{ps:List (Int×Int)}{v:Value}{E:List (ByteArray×Int)}
def AV (a b:ByteArray):Int:=if Op.bytesLess a.toList b.toList=true then -1 else if (a.toList==b.toList)=true then 0 else 1
theorem uh (a:ByteArray)(w:World):Calls prog 236 #[.string a] w λe w'=>e= .returned (.bool false)/\w=w':=by
 go_enter func236,ntmps236;go_wp2_with fail;go_ret;exact⟨by simp,rfl⟩
theorem PA (a b:ByteArray)(w:World):Calls prog 227 #[.string a,.string b] w λe w'=>e= .returned (.int .i64 (AV a b))/\w=w':=by
 by_cases h:Op.bytesLess a.toList b.toList=true
 ·rw[show AV a b= -1 from aC h]
  go_enter func227,ntmps227;go_wp2_with fail;refine(uh _ _).mono ?_;rintro e w' ⟨rfl,rfl⟩;go_wp2_with fail;refine(uh _ _).mono ?_;rintro e w' ⟨rfl,rfl⟩;go_wp2_with fail;go_ret;exact⟨rfl,rfl⟩
 ·by_cases z:(a.toList==b.toList)=true
  ·rw[show AV a b=0 by unfold AV;rw[aB h,aC z]]
   go_enter func227,ntmps227;go_wp2_with fail;refine(uh _ _).mono ?_;rintro e w' ⟨rfl,rfl⟩;go_wp2_with fail;refine(uh _ _).mono ?_;rintro e w' ⟨rfl,rfl⟩;go_wp2_with fail;go_ret;exact⟨rfl,rfl⟩
  ·rw[show AV a b=1 by unfold AV;rw[aB h,aB z]]
   have G:(a.toList==b.toList)=false:=by simpa using z
   go_enter func227,ntmps227;go_wp2_with fail;refine(uh _ _).mono ?_;rintro e w' ⟨rfl,rfl⟩;go_wp2_with fail;refine(uh _ _).mono ?_;rintro e w' ⟨rfl,rfl⟩;go_wp2_with fail;go_ret;exact⟨rfl,rfl⟩
theorem TG (a b:ByteArray)(x y:Int)(w:World):Calls prog 226 #[.agg #[.string a,.int .i64 x],.agg #[.string b,.int .i64 y]] w λe w'=>e= .returned (.int .i64 (AV a b))/\∃q z,w'=Go.Sort.grow (w.drewN q) z:=by
 have h:=λG=>PA a b G
 generalize AV a b=r at h ⊢;go_enter func226,ntmps226;go_wp2_with fail;refine(h _).mono ?_;rintro e w' ⟨rfl,rfl⟩;go_wp2_with fail;go_ret;exact⟨rfl,0,_,by rw[Go.Sort.alloc_eq_grow,Go.Sort.alloc_eq_grow,Go.Sort.grow_grow];rfl⟩
theorem ltN (x y:ByteArray×Int):Go.Proofs.ltOf (λa b:ByteArray×Int=>AV a.1 b.1) x y=Op.bytesLess x.1.toList y.1.toList:=by
 show decide (AV x.1 y.1<0)=_;unfold AV;cases h:Op.bytesLess x.1.toList y.1.toList with
 |true=>rw[aC rfl];rfl
 |false=>
  rw[aB (by decide)];by_cases z:(x.1.toList==y.1.toList)=true
  ·rw[aC z];rfl
  ·rw[aB z];rfl
theorem ahF:Go.Sort.SWO (Go.Proofs.ltOf λa b:ByteArray×Int=>AV a.1 b.1) where
 irrefl x:=by rw[ltN];exact nZ _
 trans x y z h1 h2:=by rw[ltN] at *;exact nE _ _ _ h1 h2
 ntrans x y z h1 h2:=by
  rw[ltN] at *;by_cases e:y.1.toList=z.1.toList
  ·rw[<-e];exact h1
  ·have h3:=rO _ _ h2 e
   cases h4:Op.bytesLess x.1.toList z.1.toList with
   |false=>rfl
   |true=>
    have h5:=nE _ _ _ h4 h3;rw[h1] at h5;cases h5
end Go.Proofs.YtepbpdipenedhaaGreatDoor
namespace Go.Proofs.YtepbpdipenedhaaGreatDoor
open Go.Proofs.Tryz
open Go.RowKit Go.Shelf Go.Sort
variable{w:World}{T b b0 g gp k n sz:Nat}{xs z:List Value}{A B L X:List Int}{own:List Nat}{ps:List (Int×Int)}{v:Value}{E:List (ByteArray×Int)}
theorem insert_nil(w:World)(h:Value):Calls prog 238 #[.slice none 0 0,.int .i64 0,.int .i64 0,h] w λe w'=>e= .returned (.tuple #[])/\w=w':=by
 go_enter func238,ntmps238;go_wp2_with fail;go_loopg [8] 0 (λG s8 z=>G=0/\s8= .int .i64 1/\w=z)
 case atStart=>exact⟨rfl,rfl,rfl⟩
 case round=>
  obtain⟨-,rfl,rfl⟩:=hrel;go_wp2_with fail;go_end0;exact⟨rfl,rfl⟩
theorem aa4 (w:World)(h:Value):Calls prog 234 #[.slice none 0 0,.int .i64 0,.int .i64 0,.int .i64 0,h] w λe w'=>e= .returned (.tuple #[])/\w=w':=by
 go_enter func234,ntmps234;go_wp2_with fail;go_loopg [1,2,3] 0 (λG s1 s2 s3 z=>G=0/\s1= .int .i64 0/\s2= .int .i64 0/\s3= .int .i64 0/\w=z)
 case atStart=>exact⟨rfl,rfl,rfl,rfl,rfl⟩
 case round=>
  obtain⟨-,rfl,rfl,rfl,rfl⟩:=hrel;go_wp2_with fail;refine(insert_nil _ _).mono ?_;rintro e w' ⟨rfl,rfl⟩;go_wp2_with fail;refine aL (results_none rfl _ _ _) rfl ?_;exact⟨rfl,rfl⟩
theorem Xn (w:World)(z:Value):Calls prog 225 #[.slice none 0 0,z] w λe w'=>e= .returned (.tuple #[])/\w=w':=by
 have h:Calls prog 235 #[.int .u64 0] w λe w'=>e= .returned (.int .i64 (Lib.bitLen 0:Nat))/\w'=w:=Any.bits_Len (SlLaysF0.n15.bits (P:= prog) (ρ:=Dc) { Rj with }) 0 w (by omega) (by omega)
 rw[show Lib.bitLen 0=0 from rfl] at h;go_enter func225,ntmps225;go_wp2_with fail;refine h.mono ?_;rintro e w' ⟨rfl,rfl⟩;go_wp2_with fail;refine(aa4 _ _).mono ?_;rintro e w' ⟨rfl,rfl⟩;go_wp2_with fail;go_end0;exact⟨rfl,rfl⟩
def J8 (p:ByteArray×Int):List Value:=[.string p.1,.int .i64 p.2]
theorem IP (E:List (ByteArray×Int))(t:Nat)(h:t<E.length*2):(eH E)[t]? =some (flatK J8 2 E.toArray)[t]! :=by
 have J:t/2<E.length:=by omega
 rw[get_flatK _ _ _ _ (by simpa using h)];have U:E.toArray[t/2]! =(eU E (t/2),jl E (t/2)):=by
  rw[getElem!_pos _ _ (by simpa using J)];simp[eU,jl,J]
 rw[U];have z:=py E (t/2) J;rcases (show t%2=0\/t%2=1 by omega) with G|G
 ·rw[show t/2*2=t by omega] at z
  rw[G,z.1];rfl
 ·rw[show t/2*2+1=t by omega] at z
  rw[G,z.2];rfl
theorem Xo (p q:ByteArray×Int):ltOf (λa b:ByteArray×Int=>AV a.1 b.1) p q=Op.bytesLess p.1.toList q.1.toList:=ltN p q
theorem Mu{V:Nat}(h:w.ownsRow V 87 2 v E.length (eH E))(aF:E.length<=10000):
  Calls prog 225 #[v,.func (.func 226) #[] #[]] w λe w'=>e= .returned (.tuple #[])/\∃E',E'.Perm E/\
   (∀i j,i<j->j<E'.length->Op.bytesLess (eU E' j).toList (eU E' i).toList=false)/\w'.ownsRow V 87 2 v E'.length (eH E')/\∃l,az l w w'/\∀k,k∈l->v.ownBlock=some k:=by
 obtain⟨hl,h⟩:=h;rcases h with ⟨rfl,hn⟩|⟨g,cap,J,rfl,hg,hh,ag,af,ai,au⟩
 ·have hE:E=[]:=bg hn
  subst hE;refine(Xn w _).mono λe w' he=>⟨he.1,[],List.Perm.refl _,λi j _ hj=>by simp at hj,he.2▸⟨rfl,.inl ⟨rfl,rfl⟩⟩,[],he.2▸az.refl _ _,λk U=>by cases U⟩
 ·have W:∀t,t<E.length*2->w.cell? ⟨g,t,none⟩=some (flatK J8 2 E.toArray)[t]! :=λt ht=>by
   have hb:bh w g J 87 :=hh;rw[hb.cell,<-IP E t ht,<-au,ij ht,dw]
  have hH:HoldsK J8 2 w g 0 E.toArray:=λj hj=>by
   rw[size_flatK] at hj;rw[aX];exact⟨W j (by simpa using hj),bh.frozen (c:=J) (T:= 87) hh j⟩
  have hs:=AnyQ.slices_SortFunc Rj 2 (λw=>by kernel_rfl) (λw=>by kernel_rfl) J8 (λ_=>rfl) (λx u hu=>by
   simp only[J8,aP,aM,bz] at hu;rcases hu with rfl|rfl<;>rfl) (λa b:ByteArray×Int=>AV a.1 b.1) ahF 226 #[] g 0 cap E.toArray w (enters_of func226 (by kernel_rfl) rfl) (λm os dk _ x y=>TG x.1 y.1 x.2 y.2 _) hH (Array.getElem?_eq_some_iff.1 hh).1 (by simp;omega)
  refine(show Calls _ _ _ _ _ from hs).mono ?_;rintro e w' ⟨rfl,z,m,os,hp,ah,rfl⟩;obtain⟨ae,-,G⟩:=hp;have ac:z.size=E.length:=by simpa using ae
  have ar:z.extract 0 E.toArray.size=z:=by rw[<-ae];exact Array.extract_size
  have ak:E.toArray.extract 0 E.toArray.size=E.toArray:=Array.extract_size;rw[ar,ak] at G;have av:=(Array.getElem?_eq_some_iff.1 hh).1;have aa:(sortWorldK J8 2 w g 0 m z os).heap[g]? =some (.cells (putCells id 0 (flatK J8 2 z) J) 87 (0,0)):=by
   show((w.heap.modify g _)++os)[g]? =_;rw[Array.getElem?_append_left (by rw[Array.size_modify];exact av),Array.getElem?_modify,aC rfl,hh];rfl
  have qm:az [g] w (sortWorldK J8 2 w g 0 m z os):=by
   refine⟨rfl,rfl,rfl,?_,λk U aD=> ?_⟩
   ·show w.heap.size<=((w.heap.modify g _)++os).size
    rw[Array.size_append,Array.size_modify];omega
   ·show((w.heap.modify g _)++os)[k]? =_
    rw[Array.getElem?_append_left (by rw[Array.size_modify];exact U),Array.getElem?_modify,aB (λe=>aD (by rw[<-e];simp))]
  have ax:(flatK J8 2 z).size=E.length*2:=by rw[size_flatK,ac]
  have SA:z.toList.length=E.length:=by rw[dm,ac]
  refine⟨rfl,z.toList,G,λi j aA hj=> ?_,⟨by rw[jV],.inr ⟨g,cap,_,by rw[SA],hg,aa,by rw[SA];exact ag,af,by simp[putCells,ai],?_⟩⟩,[g],qm,λk U=>by rw[ay] at U;rw[U];rfl⟩
  ·have h1:=ah i j (fC _) aA (by rw[bN];omega)
   rw[Xo] at h1;have e:∀k:Nat,k<z.size->z[k]! =(eU z.toList k,jl z.toList k):=λk U=>by
    rw[getElem!_pos z k U];simp[eU,jl,U]
   rw[e j (by omega),e i (by omega)] at h1;exact h1
  ·apply ck
   intro t;rw[SA];by_cases ht:t<E.length*2
   ·rw[ij ht,IP z.toList t (by rw[SA];exact ht)]
    have hc:t<J.size:=by omega
    simp only[putCells,dw,Array.getElem?_mapIdx,fC,true_and,aX,Nat.sub_zero,Array.toArray_toList];rw[Array.getElem?_eq_getElem hc,fV,ax,aC ht];rfl
   ·rw[aT (by rw[aJ];omega),aT (by rw[jV,SA];omega)]
end Go.Proofs.YtepbpdipenedhaaGreatDoor
namespace Go.Proofs.YtepbpdipenedhaaGreatDoor
open Go.Proofs.Tryz
open Go.RowKit
variable{w:World}{T b b0 g gp k n sz:Nat}{xs z:List Value}{A B L X:List Int}{own:List Nat}{ps:List (Int×Int)}{v:Value}{E:List (ByteArray×Int)}
instance TH (L:List Int) (n:Nat):Decidable (pY L n):=inferInstanceAs (Decidable (∀k,k<n->_))
def xz (X:List Int) (b:Nat):List (ByteArray×Int):=kY (ka (eu X (1080+8*b))) (nG (eu X (1080+8*b)))
def IQ (X:List Int) (b:Nat):Prop:=pY (ka (eu X (1080+8*b))) (nG (eu X (1080+8*b)))
instance (X:List Int) (b:Nat):Decidable (IQ X b):=TH _ _
def lR (X:List Int):Nat->Int->List Nat->List (ByteArray×Int)->Option (List Nat×List (ByteArray×Int))
 |0,_,_,_=>none
 |n+1,b,own,E=>if b=0 then some (own,E) else if 256<=b\/own.length=24 then none else
   if IQ X b.toNat then lR X n (X.getD (1080+8*b.toNat) 0) (own++[b.toNat]) (E++xz X b.toNat) else none
def rS (X L:List Int):Nat->Option (List Nat×List (ByteArray×Int))
 |0=>some ([],[])
 |q+1=>(rS X L q).bind λr=>lR X (25-r.1.length) (L.getD (2+q) 0) r.1 r.2
def Xp (X L:List Int):Option (List Nat×List (ByteArray×Int)):=rS X L 4
theorem Mv (h:rS X L k=none):∀{n:Nat},k<=n->rS X L n=none:=by
 intro n z;induction z with
 |refl=>exact h
 |step _ ih=>rw[rS,ih];rfl
structure sY (own:List Nat) (E:List (ByteArray×Int)):Prop where
 len:own.length<=24
 num:∀c,c∈own->0<c/\c<256
 ents:E.length<=3*own.length
 size:∀p,p∈E->p.1.size<=7
theorem Xq (X:List Int)(b:Nat):(xz X b).length<=3:=by rw[xz,jm];exact Ri _
theorem TI (X:List Int)(b:Nat):∀p,p∈xz X b->p.1.size<=7:=by
 intro p h;unfold xz at h;obtain⟨k,z,rfl⟩:=cj h;rw[yM _ _ k (by rwa[jm] at z)];exact xS _
theorem sY.step(h:sY own E)(X:List Int){b:Nat}(U:0<b)(V:b<256)(W:own.length<24):sY (own++[b]) (E++xz X b):=by
 have :=Xq X b;have :=h.ents;refine⟨by simp;omega,λc J=> ?_,by simp;omega,λp G=> ?_⟩
 ·rcases aU.1 J with z|z
  ·exact h.num c z
  ·rw[ay] at z;omega
 ·rcases aU.1 G with z|z
  ·exact h.size p z
  ·exact TI X b p z
theorem sY.nil:sY [] []:=⟨by simp,λc h=>by simp at h,by simp,λp h=>by simp at h⟩
def x8 (w:World) (X L:List Int) (e:Ending) (w':World):Prop:=
 (∃own E h z ge J G,e= .returned (.tuple #[z,J,.bool true])/\Xp X L=some (own,E)/\sY own E/\h.Perm E/\(∀i j,i<j->j<h.length->Op.bytesLess (eU h j).toList (eU h i).toList=false)/\
  bC w' z ge h/\w.heap.size<=ge/\lq w' J G own/\w.heap.size<=G/\az [] w w')\/
 (e= .returned (.tuple #[.slice none 0 0,.slice none 0 0,.bool false])/\Xp X L=none/\az [] w w')
theorem ads (b:Nat)(w:World):(Instr.sliceAt 195 (.pointer (some ⟨b,0,none⟩)) (some (.int .i64 2)) (some (.int .i64 6)) none).run prog w= .ok (.slice (some ⟨b,2,none⟩) 4 6) w:=by show Sem.run _ _ _=_;kernel_rfl
structure FM (w wx:World) (v7 v8:Value) (own:List Nat) (E:List (ByteArray×Int)):Prop where
 ents:wx.ownsRow (w.heap.size+1) 87 2 v7 E.length (eH E)
 nums:wx.ownsRow (w.heap.size+1) 3 1 v8 own.length (dE own)
 keep:az [] w wx
 ok:sY own E
theorem zF{b1 b2 U T2 z1 z2 n1 n2:Nat}{v1 v2:Value}{aa:List Value}(V:w.ownsRow b1 U z1 v1 n1 z)(h2:w.ownsRow b2 T2 z2 v2 n2 aa)(hT:U≠T2):∀g,v1.ownBlock=some g->v2.ownBlock≠some g:=by
 intro g e1 e2;obtain⟨-,V⟩:=V;obtain⟨-,h2⟩:=h2;rcases V with ⟨rfl,-⟩|⟨g1,c1,ac,rfl,-,J,-⟩
 ·cases e1
 ·rcases h2 with ⟨rfl,-⟩|⟨g2,c2,G,rfl,-,W,-⟩
  ·cases e2
  ·cases e1
   cases e2;have ae:w.heap[g1]? =some (.cells ac U (0,0)):=J;have h:w.heap[g1]? =some (.cells G T2 (0,0)):=W;rw[ae] at h;cases h;exact hT rfl
theorem yT{w':World}{z:Nat}{row:Option Nat}(h:w.ownsRow z T sz v n xs)(hg:w.grownBy w' row)(J:∀g,v.ownBlock=some g->row≠some g):w'.ownsRow z T sz v n xs:=by
 obtain⟨h0,h1⟩:=h;refine⟨h0,?_⟩;rcases h1 with ⟨G,U⟩|⟨W,cap,V,G,U,hh,e3⟩
 ·exact .inl ⟨G,U⟩
 ·refine .inr ⟨W,cap,V,G,U,?_,e3⟩
  rw[<-hh];exact hg.block W (Array.getElem?_eq_some_iff.1 hh).1 λe4=>J W (by rw[G];rfl) e4.symm
theorem FM.keeps{G J:World}{V U:Value}(h:FM w G V U own E)(z:az [] G J):FM w J V U own E:=
 ⟨dB h.ents z (by simp),dB h.nums z (by simp),h.keep.trans' z,h.ok⟩
theorem fp.cellsA{cap:Nat}(h:fp w (.slice (some ⟨g,0,none⟩) n cap) g T sz n xs):n≠0->∃J,some (⟨g,0,none⟩:Addr)=some J/\∀j u,xs[j]? =some u->w.cell? (J.add j)=some u:=λU=>by
 obtain⟨-,-,V,-⟩:=h.cell U;refine⟨_,rfl,λj u z=> ?_⟩;have G:j<xs.length:=(List.getElem?_eq_some_iff.1 z).1;rw[h.len] at G;rw[add_plain,aX,V j G,z]
theorem PB (Pb:eO w b gp B ps)(DK:Cg (aA B ps)){L:List Int}(hL:L.length=8)(yA:Cg L):
  Calls prog 214 #[.pointer (some ⟨b,0,none⟩),.agg (aW L).toArray] w (x8 w (aA B ps) L):=by
 obtain⟨ie,bz,bM,bP,bK⟩:=cP Tryz.info_entry;obtain⟨ii,bD,bO,bQ,bw⟩:=cP Tryz.info_int;have ar:=bh.new w (aW L).toArray 195;obtain⟨W0,ag⟩:∃W0,W0=w.alloc (.cells (aW L).toArray 195):=⟨_,rfl⟩;rw[<-ag] at ar;have dt:az [] w W0:=by
  rw[ag];exact(az.refl _ _).alloc _
 have b9:W0.heap.size=w.heap.size+1:=by rw[ag];simp
 have qC:=au ag;have rb:=au ar;have wC:=au Pb;have TJ:=au DK;have J:Hid (FM w W0 (.slice none 0 0) (.slice none 0 0) [] []):=⟨⟨rfl,.inl ⟨rfl,rfl⟩⟩,⟨rfl,.inl ⟨rfl,rfl⟩⟩,dt,sY.nil⟩;have HC:Hid (∀q wx,q<4->az [] W0 wx->wx.cell? ⟨w.heap.size,2+q,none⟩=some (.int .u64 (L.getD (2+q) 0))):=λq wx hq hk=>by rw[(ar.keep hk (by simp)).cell,aF,dA (by omega)]
 have bF:=au yA;have b8:=ads w.heap.size;clear ar dt ag Pb DK hL yA;generalize bt:aA B ps=X at *;have Mw:=au bt;clear bt;generalize (aW L).toArray=ZL at *;go_enter func214,ntmps214;go_wp2_with fail;rw[<-qC.out];go_loopg [7,8,17] 4 (λgh s7 s8 s17 wx=>∃(q:Nat) (own:List Nat) (E:List (ByteArray×Int)),q+gh=4/\s17= .int .i64 (q:Int)/\Hid (rS X L q=some (own,E)/\FM w wx s7 s8 own E/\az [] W0 wx))
 case atStart=>exact⟨0,[],[],rfl,rfl,rfl,J.out,az.refl _ _⟩
 case round=>
  clear J;obtain⟨q,own,E,hq,rfl,HP⟩:=hrel;obtain⟨aj,hR,ou⟩:=HP.out;cases gk with
  |zero=>
   obtain rfl:q=4:=by omega
   have br:=au (Mu hR.ents (by have :=hR.ok.ents;have :=hR.ok.len;omega));have HR:=au hR;have J:=au aj;clear aj hR ou HP;go_wp2_with fail;refine br.out.mono ?_;rintro e w1 ⟨rfl,G,ac,av,ax,l,aH,hl⟩;have HF:Hid (x8 w X L (.returned (.tuple #[u7,u8,.bool true])) w1):=by
    have V:w1.ownsRow (w.heap.size+1) 3 1 u8 own.length (dE own):=dB HR.out.nums aH λk hk hm=>zF HR.out.ents HR.out.nums (by decide) k (hl k hm) hk
    obtain⟨ge,bn,aL⟩:=fp.of_row ax;obtain⟨go,bv,b6⟩:=lq.of_row V;have bR:az [] w w1:=HR.out.keep.trans aH λk hk=> .inr (by have :=cZ HR.out.ents k (hl k hk);omega)
    have he:∃ai,bC w1 u7 ai G/\w.heap.size<=ai:=by
     by_cases h0:G.length=0
     ·exact⟨w.heap.size,(bn.ereads rfl).anyG h0 _,aI _⟩
     ·exact⟨ge,bn.ereads rfl,by have :=(aL h0).1;omega⟩
    have ho:∃ah,lq w1 u8 ah own/\w.heap.size<=ah:=⟨go,bv,by omega⟩;obtain⟨ai,h1,h2⟩:=he;obtain⟨ah,h3,h4⟩:=ho;exact .inl ⟨own,E,G,u7,ai,u8,ah,rfl,J.out,HR.out.ok,ac,av,h1,h2,h3,h4,bR⟩
   clear ac av ax aH hl HR J br;go_wp2_with fail
   go_ret3
   exact HF.out
  |succ gg=>
   have bG:q<4:=by omega
   have bY:(q:Int)<4:=by omega
   have bW:(0:Int)<=(q:Int):=by omega
   have c2:=HC.out q wr bG ou;have HF:Hid (L.getD (2+q) 0=L.getD (2+q) 0):=rfl;have bu:=bF.out (2+q);have J:=au aj;have HR:=au hR;have nD:=au ou;clear aj hR ou HP;generalize bq:L.getD (2+q) 0=fi at *;have uN:=au bq;clear bq;go_wp2_with fail;go_loopg [7,8,11] (25-own.length) (λgh s7 s8 KR wx=>∃(z:List Nat) (G:List (ByteArray×Int)) (bi:Int),z.length+gh=25/\KR= .int .u64 bi/\Hid (lR X gh bi z G=lR X (25-own.length) fi own E/\0<=bi/\bi<18446744073709551616/\FM w wx s7 s8 z G/\az [] W0 wx))
   case atStart=>exact⟨own,E,fi,by have :=HR.out.ok.len;omega,rfl,rfl,bu.1,bu.2,HR.out,nD.out⟩
   case round=>
    obtain⟨z,G,bi,bS,rfl,HP⟩:=hrel;obtain⟨ba,bZ,Fl,aJ,aX⟩:=HP.out;have bX:=aJ.ok.len;cases gk with
    |zero=>omega
    |succ gk=>
     have U:=au ba;have VD:=au aJ;have Mx:=au aX;have FN:Hid (∀wz,az [] wr wz->lR X (gk+1) bi z G=none->x8 w X L (.returned (.tuple #[.slice none 0 0,.slice none 0 0,.bool false])) wz):=λwz bL hn=>by
      refine .inr ⟨rfl,?_,VD.out.keep.trans' bL⟩;refine Mv (k:=q+1) ?_ (by omega);rw[rS,J.out,uN.out];show lR X (25-own.length) fi own E=none;rw[<-U.out];exact hn
     clear ba aJ aX HP;by_cases hz:bi=0
     ·subst hz
      go_wp2_with fail;go_roundg gg;case measure=>omega
      case rel=>
       refine⟨q+1,z,G,by omega,by simp,?_,VD.out,Mx.out⟩;rw[rS,J.out,uN.out];show lR X (25-own.length) fi own E=_;rw[<-U.out,lR,aC rfl]
     ·have CX:(bi==0)=false:=by simpa using hz
      obtain⟨a8,c8,rfl,bU,cd⟩:=iV VD.out.nums;by_cases vv:(256:Int)<=bi
      ·have HF:=au (FN.out _ (az.refl _ _) (by rw[lR,aB hz,aC (.inl vv)]))
       clear FN U VD Mx;go_wp2_with fail
       go_ret3
       exact HF.out
      ·by_cases N8:z.length=24
       ·have HF:=au (FN.out _ (az.refl _ _) (by rw[lR,aB hz,aC (.inr N8)]))
        clear FN U VD Mx;rw[N8];go_wp2_with fail
        go_ret3
        exact HF.out
       ·have bN:¬(z.length:Int)=24:=by omega
        have cf:((z.length:Int)==24)=false:=by simpa using bN
        obtain⟨c,hc⟩:∃c:Nat,bi=(c:Int):=⟨bi.toNat,by omega⟩;have bf:0<c:=by omega
        have af:c<256:=by omega
        have cg:wrap64 bi=bi:=by unfold wrap64;omega
        have uL:=au (λwx=>jU bi wx);have zx:Hid (iL bi=((1080+8*c:Nat):Int)):=by
         show _=_;rw[hc,iL,aB (by omega)];omega
        have ma:=au (oL (wC.out.keep VD.out.keep (by simp) (by simp)) (1080+8*c) (by omega));rw[Mw.out] at ma;have aU:Hid (lR X (gk+1) bi z G=if IQ X c then lR X gk (X.getD (1080+8*c) 0) (z++[c]) (G++xz X c) else none):=by
         show _=_;rw[lR,aB hz,aB (by omega),show bi.toNat=c by omega]
        have PC:Hid (bi=(c:Int)/\0<c/\c<256):=⟨hc,bf,af⟩;have Ch:=iD X (1080+8*c);have yw:Hid (Cg (eu X (1080+8*c))):=Cg.row TJ.out _;have bo:X.getD (1080+8*c) 0=(eu X (1080+8*c)).getD 0 0:=(j5 X (1080+8*c) 0 (by omega)).symm;have bE:=au bo;have Wn:Hid (IQ X c↔pY (ka (eu X (1080+8*c))) (nG (eu X (1080+8*c)))):=Iff.rfl;have Zg:Hid (xz X c=kY (ka (eu X (1080+8*c))) (nG (eu X (1080+8*c)))):=rfl;have bT:=Ri (eu X (1080+8*c));clear hc bf af bo;generalize bH:((1080+8*c:Nat):Int)=pi at *;generalize eu X (1080+8*c)=RX at *;clear bH;have cj:=kC;generalize wK:(aW (List.replicate 8 0)).toArray=Z8 at *;have xR:=au wK;clear wK;go_wp2_with fail;refine(uL.out _).mono ?_;rintro e wy ⟨rfl,rfl⟩;rw[zx.out];go_wp2_with fail;refine ma.out.mono ?_;rintro e w1 ⟨rfl,aG⟩;obtain⟨w2,aN,aK,aS⟩:=bB (P:= prog) (ty:= 195) (cs:=aW RX) (by rw[bp,Ch];exact ja) (bh.new w1 Z8 195) (by rw[<-xR.out];simp[bp,Ch]) (fh _);have DF:=au aN;have yr:=au (eY aK Ch);have aP:=aG.size;have bb:az [] wr w2:=(aG.alloc (.cells Z8 195)).trans aS (by intro x hx;rw[ay] at hx;omega);have Fe:=au (J7 RX Ch yw.out w2);have aO:=au aK;have aY:=au bb;have aQ:Hid (wr.heap.size<=w1.heap.size):=aP;clear aN aK aS bb aG ma aP;generalize b7:w1.heap.size=aa at *;go_wp2_with(first|(with_reducible refine gS 195 DF.out ?_)|(with_reducible refine gL 195 yr.out ?_));refine Fe.out.mono ?_;rintro e w3 (⟨ge,rfl,ak,aL,ae,W⟩|⟨rfl,ae,W⟩)
        ·have bV:=au ak
         have mV:Hid (az [] wr w3):=aY.out.trans' W;have Zm:=VD.out.keeps mV.out;obtain⟨aM,w4,bc,bj,Vz⟩:=lG (P:= prog) 32 87 32 ie _ 2 24 underlying32 bz bM bP bK rfl (by omega) _ _ u7 _ Zm.ents (some ⟨ge,0,none⟩) (nG RX) (nG RX) _ ak.len (fp.cellsA ak) (uV _) (by have :=Zm.ok.ents;unfold maxLen;omega) (by have :=Zm.ok.ents;omega) (by have :=mV.out.size;have :=Mx.out.size;omega);have ck:w.heap.size+1<=w3.heap.size:=by have :=mV.out.size;have :=Mx.out.size;omega
         have V:w4.ownsRow (w.heap.size+1) 3 1 (.slice a8 z.length c8) z.length (dE z):=yT Zm.nums Vz λg e8 e7=>zF Zm.ents Zm.nums (by decide) g e7 e8
         have AW:az [] w w4:=Zm.keep.grown Vz λk hk=>by have :=cZ Zm.ents k hk;omega
         have Xr:bh w4 aa (aW RX).toArray 195 :=(Vz.block aa ((aO.out.keep W (by simp)).lt) λe7=>by
          have h1:=zr VD.out.ents aa e7.symm;have h2:=aQ.out;omega).trans (aO.out.keep W (by simp))
         have aZ:=bh.new w4 #[.int .i64 bi] 3;obtain⟨bl,w6,wN,bk,LO⟩:=lG (P:= prog) 141 3 141 ii _ 1 8 underlying141 bD bO bQ bw rfl (by omega) _ _ (.slice a8 z.length c8) _ (dB V ((az.refl [] w4).alloc (.cells #[.int .i64 bi] 3)) (by simp)) (some ⟨w4.heap.size,0,none⟩) 1 1 [.int .i64 bi] rfl (λ_=>⟨_,rfl,λj u hu=>by
          have hj:j<1:=(List.getElem?_eq_some_iff.1 hu).1;obtain rfl:j=0:=by omega
          rw[add_plain,aZ.cell];exact hu⟩) (λu hu=>by rw[ay] at hu;rw[hu];rfl) (by unfold maxLen;omega) (by omega) (by have :=Vz.size;simp;omega)
         have aV:w6.ownsRow (w.heap.size+1) 87 2 aM (G++xz X c).length (eH (G++xz X c)):=by
          have h1:w4.ownsRow (w.heap.size+1) 87 2 aM (G++xz X c).length (eH (G++xz X c)):=by
           rw[Zg.out,nr,aD,jm];exact bj
          have h2:=dB h1 ((az.refl [] w4).alloc (.cells #[.int .i64 bi] 3)) (by simp);exact yT h2 LO λg e7 e8=>zF h2 (dB V ((az.refl [] w4).alloc (.cells #[.int .i64 bi] 3)) (by simp)) (by decide) g e7 e8
         have bg:w6.ownsRow (w.heap.size+1) 3 1 bl (z++[c]).length (dE (z++[c])):=by
          have e:dE (z++[c])=dE z++[.int .i64 bi]:=by rw[PC.out.1];simp[dE]
          rw[e,aD];exact bk
         have G9:az [] w w6:=(AW.alloc (.cells #[.int .i64 bi] 3)).grown LO λk hk=>by have :=cZ V k hk;omega
         have aR:bh w6 aa (aW RX).toArray 195 :=(LO.block aa ((Xr.alloc _).lt) λe8=>by
          have h1:=zr VD.out.nums aa e8.symm;have h2:=aQ.out;omega).trans (Xr.alloc _)
         have bI:Hid (FM w w6 aM bl (z++[c]) (G++xz X c)):=⟨aV,bg,G9,VD.out.ok.step X PC.out.2.1 PC.out.2.2 (by omega)⟩;have TK:Hid (az [] W0 w6):=by
          have h1:az [] W0 w4:=(Mx.out.trans' mV.out).grown Vz λk hk=>by have :=cZ Zm.ents k hk;omega
          exact(h1.alloc (.cells #[.int .i64 bi] 3)).grown LO λk hk=>by have :=cZ V k hk;omega
         have cx:w6.cell? ⟨aa,0,none⟩=some (.int .u64 (RX.getD 0 0)):=by rw[aR.cell,aF,dA (by omega)]
         have bJ:=au bc;have BS:=au wN;have bA:Hid (lR X gk (RX.getD 0 0) (z++[c]) (G++xz X c)=lR X (25-own.length) fi own E):=by
          show _=_;rw[<-U.out,aU.out,aC (Wn.out.2 ae),bE.out]
         have aT:=yw.out 0;clear Zm bj Vz V AW Xr aZ bk LO aV bg G9 aR ak aL ae W bc wN FN U VD Mx Fe;generalize RX.getD 0 0=xn at *;go_wp2_with(first|((with_reducible show wpList _ _ _ (⟨some 45,_,_,_,_,_⟩::_) _ _);refine wpList_append_run rfl (.tmp 43) (.tmp 44) 32 32 rfl u7 (.slice (some ⟨ge,0,none⟩) (nG RX) (nG RX)) rfl rfl bJ.out ?_)|((with_reducible show wpList _ _ _ (⟨some 50,_,_,_,_,_⟩::_) _ _);refine wpList_append_run rfl (.tmp 46) (.tmp 49) 141 141 rfl (.slice a8 z.length c8) (.slice (some ⟨w4.heap.size,0,none⟩) 1 1) rfl rfl BS.out ?_));go_roundg gk;case measure=>omega
         case rel=>exact⟨z++[c],G++xz X c,xn,by simp;omega,rfl,bA.out,aT.1,aT.2,bI.out,TK.out⟩
        ·have HF:=au (FN.out w3 (aY.out.trans' W) (by rw[aU.out,aB (λh=>ae (Wn.out.1 h))]))
         clear FN U VD Mx ae W;go_wp2_with fail
         go_ret3
         exact HF.out
end Go.Proofs.YtepbpdipenedhaaGreatDoor
