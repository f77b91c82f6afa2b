/- Lemmas. -/
import Derived.Test.YtimcfdnbpkiniaaGreatDoorM11
import Derived.Ground.SlsfProg
import Derived.Shelf.SlSortCmp.WholeK
import Derived.Sort.Grow
set_option maxHeartbeats 8000000
set_option maxRecDepth 100000
namespace Go.Proofs.YtimcfdnbpkiniaaGreatDoor
open Go.Proofs.Tryz
section
open Go.RowKit
variable{A B L X l:List Int}{own:List Nat}{w:World}{T b b0 gp k n sz:Nat}{ps:List (Int×Int)}{v:Value}{E:List (ByteArray×Int)}{xs:List Value}
def tu (X L l:List Int) (own:List Nat):Prop:=
 (L.getD 7 0<9223372036854775808/\own=[]/\kA (L.drop 2) 6=some l)\/
 (∃b:Nat,L.getD 7 0=9223372036854775808+(b:Int)/\0<b/\b<256/\own=[b]/\kA ((L.drop 2).take 5++eo X (1080+8*b)) 13=some l)
def qz (w:World) (X L:List Int) (e:Ending) (w':World):Prop:=
 ∃l h z own ok,e= .returned (.tuple #[(zs l).toArray,h,.bool ok])/\l.length=13/\ma w' h z own/\w.heap.size<=z/\own.length<=1/\ay [] w w'/\(ok=true->tu X L l own)/\(ok=false->∀l' G,¬tu X L l' G)
theorem tu.inj{l':List Int}{cX:List Nat}(h:tu X L l own)(h':tu X L l' cX):l'=l/\cX=own:=by
 rcases h with ⟨h1,h2,h3⟩|⟨b,h1,h2,h3,h4,h5⟩
 ·rcases h' with ⟨J,G,z⟩|⟨W,J,G,z,V,U⟩
  ·rw[h3] at z
   cases z;exact⟨rfl,by rw[G,h2]⟩
  ·omega
 ·rcases h' with ⟨J,G,z⟩|⟨W,J,G,z,V,U⟩
  ·omega
  ·obtain rfl:W=b:=by omega
   rw[h5] at U;cases U;exact⟨rfl,by rw[V,h4]⟩
def C5 (l:List Int):Prop:=∀k,0<=l.getD k 0/\l.getD k 0<18446744073709551616
theorem C5.app(J:C5 A)(U:C5 B):C5 (A++B):=λk=>by
 have z:=J k;have G:=U (k-A.length);rw[aj] at z G ⊢;by_cases h:k<A.length
 ·rw[ba h];exact z
 ·rw[aR (by omega)];exact G
theorem C5.drop(h:C5 A)(n:Nat):C5 (A.drop n):=λk=>by
 have :=h (n+k);rwa[show(A.drop n).getD k 0=A.getD (n+k) 0 by simp]
theorem C5.take(z:C5 A)(n:Nat):C5 (A.take n):=λk=>by
 have :=z k;by_cases h:k<n
 ·rwa[show(A.take n).getD k 0=A.getD k 0 by simp[h]]
 ·rw[aj,aP (by rw[aJ];omega)]
  exact⟨by decide,by decide⟩
theorem C5.row(z:C5 X)(p:Nat):C5 (eo X p):=λk=>by
 by_cases h:k<8
 ·rw[kD X p k h];exact z _
 ·rw[aj,aP (by rw[iF];omega)]
  exact⟨by decide,by decide⟩
theorem GV (w:World)(g:Nat):Reads w (.slice none 0 0) g (dL []):=⟨none,0,rfl,aH _,by unfold maxLen;omega,λh=>absurd rfl h⟩
theorem IZ (hL:L.length=8)(zG:∀k,0<=L.getD k 0/\L.getD k 0<18446744073709551616)(h7:L.getD 7 0<9223372036854775808):
  Calls prog 208 #[b0,(aY L).toArray] w (qz w X L):=by
 obtain⟨V,h⟩:∃V,V=(w.alloc (.cells (aY L).toArray 132)).alloc (.cells (zs (List.replicate 13 0)).toArray 73):=⟨_,rfl⟩;have U:bh V w.heap.size (aY L).toArray 132 :=by
  rw[h];exact(bh.new w _ _).alloc _
 have ah:bh V (w.heap.size+1) (zs (List.replicate 13 0)).toArray 73 :=by
  have :=bh.new (w.alloc (.cells (aY L).toArray 132)) (zs (List.replicate 13 0)).toArray 73;have e:(w.alloc (.cells (aY L).toArray 132)).heap.size=w.heap.size+1:=by simp
  rw[e] at this;rw[h];exact this
 have cM:ay [] w V:=by
  rw[h];exact((ay.refl _ _).alloc _).alloc _
 have c7:V.cell? ⟨w.heap.size,7,none⟩=some (.int .u64 (L.getD 7 0)):=by rw[U.cell,aF,dF (by omega)]
 rw[h] at c7;have ax:=pC;have aA:=sU w.heap.size;have hr:Reads V (.slice (some ⟨w.heap.size,2,none⟩) 6 6) w.heap.size (aY (L.drop 2)):=by
  have :=U.reads (o:=2) (n:=6) (c:=6) (by omega) (aH _) (by omega);rwa[aW (by rw[bM,hL];omega)] at this
 have IX:=ar (NJ hr (by simp;omega) (λk=>by
  have :=zG (2+k);rwa[show(L.drop 2).getD k 0=L.getD (2+k) 0 by simp]))
 obtain⟨CX,fJ,ry⟩:=hh3 ah cM h;have aB:¬(9223372036854775808:Int)<=L.getD 7 0:=by omega
 obtain⟨H7,HL⟩:=hh2 h7 hL;clear U ah cM hr h zG hL h7;generalize Nr:L.getD 7 0=xi at *;have ai:=ar Nr;clear Nr;generalize (aY L).toArray=ZL,ae:(zs (List.replicate 13 0)).toArray=Z0 at *;have jy:=ar ae;clear ae;go_in;go_wp2_with fail;rw[<-ry.out];refine IX.out.mono ?_;rintro e w1 ⟨l,ok,rfl,W,h1,h2,z⟩;obtain⟨w2,af,ac,J⟩:=bG (P:= prog) (ty:= 73) (cs:=zs l) (by rw[eO,W];exact mf) (bh.new w1 Z0 73) (by rw[<-jy.out];simp[eO,W]) (nB _);have av:=z.size;have ak:=CX.out.lt;have YB:bh w2 (w.heap.size+1) Z0 73 :=((CX.out.keep z (by simp)).alloc _).keep J (by simp;omega);obtain⟨w3,ag,rT,aa⟩:=bG (P:= prog) (ty:= 73) (cs:=zs l) (by rw[eO,W];exact mf) YB (by rw[<-jy.out];simp[eO,W]) (nB _);obtain⟨EO,jw,xC,rN⟩:=hh4 af ag (fA (off:=0) ac W (λk hk=>by rw[bc,aF,gK (by omega)])) (fA (off:=0) rT W (λk hk=>by rw[bc,aF,gK (by omega)]));have YC:(L.drop 2).length=6:=by rw[bM,HL.out]
 have HM:Hid (qz w X L (.returned (.tuple #[(zs l).toArray,(),ok])) w3):=by
  refine⟨l,_,w.heap.size,[],ok,rfl,W,ma.nil _ _,aH _,by simp,?_,λG=> .inl ⟨by rw[ai.out];exact H7.out,rfl,by rw[<-YC];exact h1 G⟩,λG l' cX hs=> ?_⟩
  ·exact(((fJ.out.trans' z).alloc _).trans J (by intro x hx;simp at hx;omega)).trans aa (by intro x hx;rw[au] at hx;omega)
  ·have h3:=(h2 G).1
   rcases hs with ⟨-,-,g3⟩|⟨b',g1,-⟩
   ·rw[<-YC,h3] at g3
    cases g3
   ·rw[ai.out] at g1
    have :=H7.out;omega
 clear af ac J YB ag rT aa h1 h2 z av ak YC;generalize az:w1.heap.size=g1 at *;go_wp2_with(with_reducible first|refine gS 73 EO.out ?_|refine gL 73 xC.out ?_|refine gS 73 jw.out ?_);exact aI (cJ results208 rfl rN.out rfl rfl) rfl HM.out
theorem Lj (hL:L.length=8){bi:Int}(h7:L.getD 7 0=9223372036854775808+bi)(h0:0<=bi)(hb:bi=0\/256<=bi)(ae:L.getD 7 0<18446744073709551616):
  Calls prog 208 #[b0,(aY L).toArray] w (qz w X L):=by
 obtain⟨G,h⟩:∃G,G=(w.alloc (.cells (aY L).toArray 132)).alloc (.cells (zs (List.replicate 13 0)).toArray 73):=⟨_,rfl⟩;have W:bh G w.heap.size (aY L).toArray 132 :=by
  rw[h];exact(bh.new w _ _).alloc _
 have aa:bh G (w.heap.size+1) (zs (List.replicate 13 0)).toArray 73 :=by
  have :=bh.new (w.alloc (.cells (aY L).toArray 132)) (zs (List.replicate 13 0)).toArray 73;have e:(w.alloc (.cells (aY L).toArray 132)).heap.size=w.heap.size+1:=by simp
  rw[e] at this;rw[h];exact this
 have cM:ay [] w G:=by
  rw[h];exact((ay.refl _ _).alloc _).alloc _
 have c7:G.cell? ⟨w.heap.size,7,none⟩=some (.int .u64 (L.getD 7 0)):=by rw[W.cell,aF,dF (by omega)]
 rw[h] at c7;have ag:=pC;have ah:=sU w.heap.size;obtain⟨w2,z,V,U⟩:=bG (P:= prog) (ty:= 73) (cs:=zs (List.replicate 13 0)) (by rw[eO];exact mf) aa (by simp[eO]) (nB _);rw[h] at z;obtain⟨EO,xC⟩:=hh2 z (fA (off:=0) (l:=List.replicate 13 0) V (by simp) (λk hk=>by rw[bc,aF,gK (by simpa using hk)]));have HM:Hid (qz w X L (.returned (.tuple #[(zs (List.replicate 13 0)).toArray,(),false])) w2):=by
  refine⟨List.replicate 13 0,_,w.heap.size,[],false,rfl,by simp,ma.nil _ _,aH _,by simp,?_,λac=>(by cases ac),λ_ l' cX hs=> ?_⟩
  ·exact cM.trans U (by intro x hx;rw[au] at hx;omega)
  ·rcases hs with ⟨g1,-⟩|⟨b',g1,g2,g3,-⟩<;>omega
 have ai:(9223372036854775808:Int)<=L.getD 7 0:=by omega
 have af:L.getD 7 0-9223372036854775808=bi:=by omega
 have hw:IntKind.u64.wrap bi=bi:=nC h0 (by omega);clear W aa cM h hL h7 ae z V U;generalize L.getD 7 0=xi,(aY L).toArray=ZL,(zs (List.replicate 13 0)).toArray=Z0 at *;by_cases J:bi=0
 ·subst J
  clear hb;go_in;go_wp2_with(first|(with_reducible refine gS 73 EO.out ?_));exact aI (cJ results208 rfl xC.out rfl rfl) rfl HM.out
 ·have aj:=hb.resolve_left J
  clear hb;go_in;go_wp2_with(first|(with_reducible refine gS 73 EO.out ?_));exact aI (cJ results208 rfl xC.out rfl rfl) rfl HM.out
theorem I0 (QA:eK w b gp B ps)(ES:∀k,0<=(az B ps).getD k 0/\(az B ps).getD k 0<18446744073709551616){L:List Int}(hL:L.length=8)(zG:∀k,0<=L.getD k 0/\L.getD k 0<18446744073709551616)
  {c:Nat} (h7:L.getD 7 0=9223372036854775808+(c:Int)) (aR:0<c) (hc:c<256):
  Calls prog 208 #[b,(aY L).toArray] w (qz w (az B ps) L):=by
 obtain⟨W0,G⟩:∃W0,W0=(w.alloc (.cells (aY L).toArray 132)).alloc (.cells (zs (List.replicate 13 0)).toArray 73):=⟨_,rfl⟩;have aa:bh W0 w.heap.size (aY L).toArray 132 :=by
  rw[G];exact(bh.new w _ _).alloc _
 have aG:bh W0 (w.heap.size+1) (zs (List.replicate 13 0)).toArray 73 :=by
  have :=bh.new (w.alloc (.cells (aY L).toArray 132)) (zs (List.replicate 13 0)).toArray 73;have e:(w.alloc (.cells (aY L).toArray 132)).heap.size=w.heap.size+1:=by simp
  rw[e] at this;rw[G];exact this
 have cM:ay [] w W0:=by
  rw[G];exact((ay.refl _ _).alloc _).alloc _
 have c7:W0.cell? ⟨w.heap.size,7,none⟩=some (.int .u64 (L.getD 7 0)):=by rw[aa.cell,aF,dF (by omega)]
 rw[G] at c7;have bv:=pC;have bu:=lq;have bD:=sU w.heap.size;have ou:=ar (λwx=>kv (c:Int) wx);have Br:Hid (iN (c:Int)=((1080+8*c:Nat):Int)):=by
  show _=_;rw[iN,aA];omega
 have nt:=ar (pH (QA.keep cM (by simp) (by simp)) (1080+8*c) (by omega));have zD:Hid (∀k,0<=((L.drop 2).take 5++eo (az B ps) (1080+8*c)).getD k 0/\((L.drop 2).take 5++eo (az B ps) (1080+8*c)).getD k 0<18446744073709551616):=C5.app ((C5.drop zG 2).take 5) (C5.row ES _);have C7:=iF (az B ps) (1080+8*c);have br:(9223372036854775808:Int)<=L.getD 7 0:=by omega
 obtain⟨z,PB,bo,hw,bC,bt,bq⟩:∃z:Int,(c:Int)=z/\L.getD 7 0-9223372036854775808=z/\IntKind.u64.wrap z=z/\wrap64 z=z/\¬z=0/\¬256<=z:=⟨_,rfl,by omega,nC (by omega) (by omega),by unfold wrap64;omega,by omega,by omega⟩;have HC:Hid (L.getD 7 0=9223372036854775808+(c:Int)/\0<c/\c<256):=⟨h7,aR,hc⟩;obtain⟨qK,CX,fJ,ry,HL⟩:=hh5 aa aG cM G hL;have Iz:Hid (((L.drop 2).take 5).length=5):=by show _=_;rw[aJ,bM,hL];rfl
 rw[PB] at ou Br;generalize aN:eo (az B ps) (1080+8*c)=RX at *;have ba:=ar aN;clear aa aG cM G hL zG ES QA h7 aN;generalize bj:((1080+8*c:Nat):Int)=pi,Nr:L.getD 7 0=xi at *;obtain⟨aB,Me⟩:=hh2 Nr PB;clear Nr bj PB hc aR;generalize aQ:(aY L).toArray=ZL at *;have Sy:=ar aQ;clear aQ;generalize aZ:(zs (List.replicate 13 0)).toArray=Z0 at *;have jy:=ar aZ;clear aZ;generalize vZ:(aY (List.replicate 8 0)).toArray=Z8 at *;have xE:=ar vZ;clear vZ;go_in;go_wp2_with fail;refine C' (ou.out _) ?_;rw[Br.out];go_wp2_with fail;rw[<-ry.out];refine Rr nt.out λw1 af=> ?_;obtain⟨U,V,U5,aO⟩:=bG (P:= prog) (ty:= 132) (cs:=aY RX) (by rw[bB,C7];exact ja) (bh.new w1 Z8 132) (by rw[<-xE.out];simp[bB,C7]) (fk _);have EO:=ar V;have ac:=af.size;have eV:ay [] W0 U:=(af.alloc (.cells Z8 132)).trans aO (by intro x hx;rw[au] at hx;omega);obtain⟨ax,bz⟩:=hh2 eV U5;have ak:=qK.out.keep eV (by simp);have aX:Hid (Reads U (.slice (some ⟨w.heap.size,2,none⟩) 5 6) w.heap.size (aY ((L.drop 2).take 5))):=by
  rw[<-Sy.out] at ak;exact ak.reads (o:=2) (n:=5) (c:=6) (by rw[HL.out];omega) (by omega) (by omega)
 have aL:Hid (Reads U (.slice w1.heap.size 8 8) w1.heap.size (aY RX)):=by
  have :=bh.reads (o:=0) (n:=8) (c:=8) U5 (by rw[C7];omega) (aH _) (by omega);rwa[List.drop_zero,aW (by rw[C7];exact aH _)] at this
 clear V U5 aO eV af nt ac ak;generalize bA:w1.heap.size=g1 at *;have bw:=Gl w.heap.size;have bp:=wq g1;go_wp2_with(first|(with_reducible refine gS 132 EO.out ?_));refine ye (S:=λwx=>ay [] U wx) (l:=[_,_]) (tl:=[_,_,_]) (by kernel_rfl) rfl (by kernel_rfl) (by kernel_rfl) (by kernel_rfl) (λd _ _ _ _ h=>by cases d<;>exact h) (ay.refl _ _).drew ?_;repeat (refine cU.cons ?_ (YieldsIf.val rfl ?h) ?_;(case h=>(intro wx hx;clear hx;go_simp;rfl));simp only[Act.put,ag,ah,ai])
 refine cU.done ?_;unfold gH;go_wp2_with fail;refine⟨((ay.refl _ _).drew).alloc _,?_⟩;unfold gH;have NK:Hid (∀wx,ay [] U wx->bh wx U.heap.size #[.slice (some ⟨w.heap.size,2,none⟩) 5 6,.slice g1 8 8] 65->Calls prog 223 #[.slice U.heap.size 2 2] wx (jJ wx ((L.drop 2).take 5++RX))):=λwx hk hb=>by
  refine U4 hb ((aX.out).keep hk (by simp)) ((aL.out).keep hk (by simp)) Iz.out C7
 have aV:bh ((U.alloc (.cells #[.slice (some ⟨w.heap.size,2,none⟩) 5 6,.slice g1 8 8] 65)).drew) U.heap.size #[.slice (some ⟨w.heap.size,2,none⟩) 5 6,.slice g1 8 8] 65 :=(bh.new U _ _).drew;have Qv:=ar aV;clear aV aX aL;go_wp2_with fail;refine(NK.out _ (((ay.refl _ _).alloc _).drew) Qv.out).mono ?_;rintro e J ⟨va,ga,rfl,JQ,xh,aS⟩;have nD:ay [] U J:=(((ay.refl [] U).alloc (.cells #[.slice (some ⟨w.heap.size,2,none⟩) 5 6,.slice g1 8 8] 65)).drew).trans' aS;obtain⟨YD,ae⟩:=hh2 nD JQ;clear JQ xh aS nD Qv NK;go_wp2_with fail;refine⟨YD.out,?_⟩;unfold gH;go_wp2_with fail;refine⟨YD.out,?_⟩;unfold gH;have aT:Reads (J.alloc (.cells #[z] 3)) va ga (aY ((L.drop 2).take 5++RX)):=by
  by_cases h0:aY ((L.drop 2).take 5++RX)=[]
  ·exact absurd (cP List.length h0) (by rw[bB,aC,Iz.out,C7];decide)
  ·exact ae.out.keep ((ay.refl [] J).alloc _) (by simp)
 have IX:=ar (NJ aT (by rw[aC,Iz.out,C7];omega) zD.out);obtain⟨av,cv,aU,-,-,-⟩:=fW ae.out;have QS:((L.drop 2).take 5++RX).length=13:=by rw[aC,Iz.out,C7]
 rw[QS] at aU;have aM:=bh.new J #[z] 3;obtain⟨Nl,aK⟩:=hh2 aM QS;clear aT aM ae QS;subst aU;go_wp2_with fail;refine IX.out.mono ?_;rintro e w4 ⟨l,ok,rfl,tq,h1,h2,W⟩;rw[aK.out] at h1 h2;obtain⟨w5,V,aP,lh⟩:=bG (P:= prog) (ty:= 73) (cs:=zs l) (by rw[eO,tq];exact mf) (bh.new w4 Z0 73) (by rw[<-jy.out];simp[eO,tq]) (nB _);have ac:=W.size;have bl:=YD.out.size;have bg:=ax.out.size;have bn:=CX.out.lt;have bk:J.heap.size<(J.alloc (.cells #[z] 3)).heap.size:=Nl.out.lt;have YB:bh w5 (w.heap.size+1) Z0 73 :=(((((CX.out.keep ax.out (by simp)).keep YD.out (by simp)).alloc _).keep W (by simp)).alloc _).keep lh (by rw[au];omega);have aD:bh w5 J.heap.size #[z] 3 :=((Nl.out.keep W (by simp)).alloc _).keep lh (by rw[au];omega);obtain⟨w6,bf,rT,jv⟩:=bG (P:= prog) (ty:= 73) (cs:=zs l) (by rw[eO,tq];exact mf) YB (by rw[<-jy.out];simp[eO,tq]) (nB _);have bb:bh w6 J.heap.size #[z] 3 :=aD.keep jv (by rw[au];omega);obtain⟨EO,jw,xC,rN⟩:=hh4 V bf (fA (off:=0) aP tq (λk hk=>by rw[bc,aF,gK (by omega)])) (fA (off:=0) rT tq (λk hk=>by rw[bc,aF,gK (by omega)]));have HM:Hid (qz w (az B ps) L (.returned (.tuple #[(zs l).toArray,.slice J.heap.size 1 1,ok])) w6):=by
  refine⟨l,_,J.heap.size,[c],ok,rfl,tq,⟨⟨rfl,.inr ⟨J.heap.size,1,#[z],rfl,aH _,bb,aH _,by unfold maxLen;omega,by simp,?_⟩⟩,λk hk=>by cases hk;rfl⟩,by omega,by simp,?_,λaj=> .inr ⟨c,by rw[aB.out];exact HC.out.1,HC.out.2.1,HC.out.2.2,rfl,by rw[ba.out];exact h1 aj⟩,λaj l' cX hs=> ?_⟩
  ·rw[<-Me.out]
   rfl
  ·refine(((fJ.out.trans' ax.out).trans' YD.out).trans' ((((ay.refl [] J).alloc (.cells #[z] 3)).trans' W).alloc (.cells Z0 73))).trans lh (by intro x hx;rw[au] at hx;omega) |>.trans jv (by intro x hx;rw[au] at hx;omega)
  ·have h3:=(h2 aj).1
   have hc:=HC.out;rcases hs with ⟨g1,-⟩|⟨b',g1,g2,g3,-,g5⟩
   ·rw[aB.out] at g1
    omega
   ·rw[aB.out] at g1
    obtain rfl:b'=c:=by omega
    rw[ba.out,h3] at g5;cases g5
 clear V aP lh YB bf rT jv h1 h2 W ac bl bg bk bn aD bb;generalize bE:w4.heap.size=g4 at *;go_wp2_with(with_reducible first|refine gS 73 EO.out ?_|refine gL 73 xC.out ?_|refine gS 73 jw.out ?_);exact aI (cJ results208 rfl rN.out rfl rfl) rfl HM.out
def oL (r:List Int):Nat:=if r.getD 1 0=0 then 0 else if r.getD 3 0=0 then 1 else if r.getD 5 0=0 then 2 else 3
theorem SR (r:List Int):oL r<=3:=by
 unfold oL;split
 ·omega
 ·split
  ·omega
  ·split<;>omega
theorem JV{r:List Int}(V:k<=3)(h:∀j,j<k->r.getD (2*j+1) 0≠0)(J:k=3\/r.getD (2*k+1) 0=0):oL r=k:=by
 rcases (show k=0\/k=1\/k=2\/k=3 by omega) with rfl|rfl|rfl|rfl
 ·have z:r.getD 1 0=0:=J.resolve_left (by omega)
  unfold oL;rw[aB z]
 ·have z:r.getD 1 0≠0:=h 0 (by omega)
  have G:r.getD 3 0=0:=J.resolve_left (by omega);unfold oL;rw[aA z,aB G]
 ·have z:r.getD 1 0≠0:=h 0 (by omega)
  have G:r.getD 3 0≠0:=h 1 (by omega);have U:r.getD 5 0=0:=J.resolve_left (by omega);unfold oL;rw[aA z,aA G,aB U]
 ·have z:r.getD 1 0≠0:=h 0 (by omega)
  have G:r.getD 3 0≠0:=h 1 (by omega);have U:r.getD 5 0≠0:=h 2 (by omega);unfold oL;rw[aA z,aA G,aA U]
def kF (r:List Int):List Int:=(r.drop 1).take (2*oL r)
theorem QT (b c:Nat)(h:1<=c)(z:c<=7)(w:World):(Instr.sliceAt 132 (.pointer (some ⟨b,0,none⟩)) (some (.int .i64 1)) (some (.int .i64 (c:Int))) none).run prog w= .ok (.slice (some ⟨b,1,none⟩) (c-1) 7) w:=by
 rcases (show c=1\/c=2\/c=3\/c=4\/c=5\/c=6\/c=7 by omega) with rfl|rfl|rfl|rfl|rfl|rfl|rfl
 all_goals (show Sem.run _ _ _=_;kernel_rfl)
theorem Ll (r:List Int)(xG:r.length=8)(ac:∀k,0<=r.getD k 0/\r.getD k 0<18446744073709551616)(w:World):
  Calls prog 225 #[(aY r).toArray] w (oW w (kF r) (oL r)):=by
 have J:=bh.new w (aY r).toArray 132;obtain⟨W0,U⟩:∃W0,W0=w.alloc (.cells (aY r).toArray 132):=⟨_,rfl⟩;rw[<-U] at J;have p9:=ar J;have fJ:Hid (ay [] w W0):=by
  rw[U];exact(ay.refl [] w).alloc _
 obtain⟨ry,Gq⟩:=hh2 U xG;have ET:Hid (∀k,k<=3->(∀j,j<k->r.getD (2*j+1) 0≠0)->(k=3\/r.getD (2*k+1) 0=0)->∀n,n=2*k->Calls prog 205 #[.slice (some ⟨w.heap.size,1,none⟩) n 7] W0 λe w'=>oW w (kF r) (oL r) e w'):=λk hk h he n hn=>by
  have hc:=JV hk h he;have ER:=J.reads (o:=1) (n:=n) (c:=7) (by omega) (by omega) (by omega);have K5:((r.drop 1).take n).length=n:=by rw[aJ,bM];omega
  have h6:∀j,0<=((r.drop 1).take n).getD j 0/\((r.drop 1).take n).getD j 0<18446744073709551616:=λj=>by
   by_cases hj:j<n
   ·have e0:((r.drop 1).take n).getD j 0=r.getD (1+j) 0:=by simp[hj,Nat.add_comm]
    rw[e0];exact ac _
   ·rw[aj,aP (by omega)]
    simp
  refine(xf ER (by omega) k (by omega) h6).mono λe w' hp=> ?_
  have e1:kF r=(r.drop 1).take n:=by rw[kF,hc,hn]
  rw[e1,hc];have hw:=fJ.out.size;rcases hp with ⟨g,a1,z,G,a4,V⟩|⟨a1,z,G⟩
  ·exact .inl ⟨g,a1,z,by omega,a4,fJ.out.trans' V⟩
  ·exact .inr ⟨a1,z,fJ.out.trans' G⟩
 have XW:Hid (∀j,j<8->W0.cell? ⟨w.heap.size,j,none⟩=some (.int .u64 (r.getD j 0))):=λj hj=>by
  rw[J.cell,aF,dF (by omega)]
 clear J U xG ac p9 Gq;generalize (aY r).toArray=Z at *;go_in;go_wp2_with fail;rw[<-ry.out];go_loopg [4] 3 (λgh s4 wx=>∃k b:Nat,k+gh=3/\b=2*k+1/\s4= .int .i64 (b:Int)/\Hid (∀j,j<k->r.getD (2*j+1) 0≠0)/\wx=W0)
 case atStart=>exact⟨0,1,by omega,by omega,rfl,λj hj=>by omega,rfl⟩
 case round=>
  obtain⟨k,b,hk,hb,rfl,HP,rfl⟩:=hrel;have J:(0:Int)<=(b:Int):=by omega
  have af:(1:Int)<=(b:Int):=by omega
  have aa:=QT w.heap.size b (by omega) (by omega);obtain⟨n,hn⟩:∃n,n=2*k:=⟨_,rfl⟩;rw[show b-1=n by omega] at aa;by_cases h7:b<7
  ·have ae:(b:Int)<7:=by omega
   have hc:=XW.out b (by omega);by_cases hx:r.getD b 0=0
   ·have HE:=ar (ET.out k (by omega) HP.out (.inr (by rw[<-hb];exact hx)) n hn)
    rw[hx] at hc;clear hx hk hn hb;go_wp2_with fail;refine HE.out.mono ?_;rintro e w' hp;rcases hp with ⟨g,rfl,z,G,a4,V⟩|⟨rfl,z,G⟩
    ·have W:Hid (oW w (kF r) (oL r) (.returned (.tuple #[.slice g (oL r) (oL r),true])) w'):= .inl ⟨g,rfl,z,G,a4,V⟩
     clear z G a4 V;go_wp2_with fail;go_ret2;exact W.out
    ·have W:Hid (oW w (kF r) (oL r) (.returned (.tuple #[(),false])) w'):= .inr ⟨rfl,z,G⟩
     clear z G;go_wp2_with fail;go_ret2;exact W.out
   ·have HN:Hid (∀j,j<k+1->r.getD (2*j+1) 0≠0):=λj hj=>by
     by_cases e:j=k
     ·subst e;rw[<-hb];exact hx
     ·exact HP.out j (by omega)
    have ag:(r.getD b 0 != 0)=true:=bne_iff_ne.2 hx;clear hx;generalize r.getD b 0=x at *;have D8:Hid (b=2*k+1/\k+gk=3):=⟨hb,hk⟩;clear aa hb hk hn;go_wp2_with fail;go_roundg (gk-1);case measure=>have :=D8.out;omega
    case rel=>exact⟨k+1,b+2,by have :=D8.out;omega,by have :=D8.out;omega,by go_num,HN.out,rfl⟩
  ·have ae:¬(b:Int)<7:=by omega
   have HE:=ar (ET.out k (by omega) HP.out (.inl (by omega)) n hn);clear hk hn hb;go_wp2_with fail;refine HE.out.mono ?_;rintro e w' hp;rcases hp with ⟨g,rfl,z,G,a4,V⟩|⟨rfl,z,G⟩
   ·have W:Hid (oW w (kF r) (oL r) (.returned (.tuple #[.slice g (oL r) (oL r),true])) w'):= .inl ⟨g,rfl,z,G,a4,V⟩
    clear z G a4 V;go_wp2_with fail;go_ret2;exact W.out
   ·have W:Hid (oW w (kF r) (oL r) (.returned (.tuple #[(),false])) w'):= .inr ⟨rfl,z,G⟩
    clear z G;go_wp2_with fail;go_ret2;exact W.out
end
section
open Go.Shelf
variable{A B L X l:List Int}{own:List Nat}{w:World}{T b b0 gp k n sz:Nat}{ps:List (Int×Int)}{v:Value}{E:List (ByteArray×Int)}{xs:List Value}
def Eg:Go.Shelf.Ren:=⟨λ|6=> 226|15=> 236|14=> 235|28=> 248|29=> 249|20=> 240|21=> 241|22=> 242|23=> 243|24=> 244|25=> 245|26=> 246|27=> 247|46=> 250|47=> 251|48=> 252|49=> 253|50=> 254|57=> 255|n=>n,λ|22=> 30|24=> 99|25=> 277|3=> 3|39=> 162|0=> 0|53=> 185|55=> 70|4=> 4|46=> 292|45=> 291|50=> 47|5=> 5|9=> 9|66=> 298|70=> 302|76=> 304|77=> 305|n=>n,λ|n=>n⟩
theorem SS:Go.Proofs.SlLaysF0.n6 prog Eg:={
 mixed:=by kernel_rfl
 f6:=⟨Tryz.f226.name,by decide,func226.trans (cP some (by kernel_rfl))⟩
 f14:=⟨Tryz.f235.name,by decide,func235.trans (cP some (by kernel_rfl))⟩
 f15:= func236.trans (cP some (by kernel_rfl))
 f20:=⟨Tryz.f240.name,by decide,func240.trans (cP some (by kernel_rfl))⟩
 f21:=⟨Tryz.f241.name,by decide,func241.trans (cP some (by kernel_rfl))⟩
 f22:=⟨Tryz.f242.name,by decide,func242.trans (cP some (by kernel_rfl))⟩
 f23:=⟨Tryz.f243.name,by decide,func243.trans (cP some (by kernel_rfl))⟩
 f24:=⟨Tryz.f244.name,by decide,func244.trans (cP some (by kernel_rfl))⟩
 f25:=⟨Tryz.f245.name,by decide,func245.trans (cP some (by kernel_rfl))⟩
 f26:=⟨Tryz.f246.name,by decide,func246.trans (cP some (by kernel_rfl))⟩
 f27:=⟨Tryz.f247.name,by decide,func247.trans (cP some (by kernel_rfl))⟩
 f28:= func248.trans (cP some (by kernel_rfl))
 f29:= func249.trans (cP some (by kernel_rfl))
 f46:=⟨Tryz.f250.name,by decide,func250.trans (cP some (by kernel_rfl))⟩
 f47:= func251.trans (cP some (by kernel_rfl))
 f48:= func252.trans (cP some (by kernel_rfl))
 f49:=⟨Tryz.f253.name,by decide,func253.trans (cP some (by kernel_rfl))⟩
 f50:=⟨Tryz.f254.name,by decide,func254.trans (cP some (by kernel_rfl))⟩
 f57:=⟨Tryz.f255.name,by decide,func255.trans (cP some (by kernel_rfl))⟩
 t0:= underlying0
 a0:= Tryz.isAgg0
 z0:= Tryz.sizeOf0
 v0:= Tryz.zeroValue0
 t3:= underlying3
 a3:= Tryz.isAgg3
 z3:= Tryz.sizeOf3
 v3:= Tryz.zeroValue3
 t4:= underlying4
 a4:= Tryz.isAgg4
 z4:= Tryz.sizeOf4
 v4:= Tryz.zeroValue4
 t5:= underlying5
 a5:= Tryz.isAgg5
 z5:= Tryz.sizeOf5
 v5:= Tryz.zeroValue5
 t9:= underlying9
 a9:= Tryz.isAgg9
 z9:= Tryz.sizeOf9
 v9:= Tryz.zeroValue9
 t22:= underlying30
 a22:= Tryz.isAgg30
 z22:= Tryz.sizeOf30
 v22:= Tryz.zeroValue30
 t25:= underlying277
 a25:= Tryz.isAgg277
 z25:= Tryz.sizeOf277
 v25:= Tryz.zeroValue277
 t39:= underlying162
 a39:= Tryz.isAgg162
 z39:= Tryz.sizeOf162
 v39:= Tryz.zeroValue162
 t45:= underlying291
 a45:= Tryz.isAgg291
 z45:= Tryz.sizeOf291
 v45:= Tryz.zeroValue291
 t46:= underlying292
 a46:= Tryz.isAgg292
 z46:= Tryz.sizeOf292
 v46:= Tryz.zeroValue292
 t50:= underlying47
 a50:= Tryz.isAgg47
 z50:= Tryz.sizeOf47
 v50:= Tryz.zeroValue47
 t53:= underlying185
 a53:= Tryz.isAgg185
 z53:= Tryz.sizeOf185
 v53:= Tryz.zeroValue185
 t55:= underlying70
 a55:= Tryz.isAgg70
 z55:= Tryz.sizeOf70
 v55:= Tryz.zeroValue70
 t66:= underlying298
 a66:= Tryz.isAgg298
 z66:= Tryz.sizeOf298
 v66:= Tryz.zeroValue298
 t70:= underlying302
 a70:= Tryz.isAgg302
 z70:= Tryz.sizeOf302
 v70:= Tryz.zeroValue302
 t76:= underlying304
 a76:= Tryz.isAgg304
 z76:= Tryz.sizeOf304
 v76:= Tryz.zeroValue304
 t77:= underlying305
 a77:= Tryz.isAgg305
 z77:= Tryz.sizeOf305
 v77:= Tryz.zeroValue305 }
end
section
open Go.RowKit
variable{A B L X l:List Int}{own:List Nat}{w:World}{T b b0 gp k n sz:Nat}{ps:List (Int×Int)}{v:Value}{E:List (ByteArray×Int)}{xs:List Value}
def BF (a b:ByteArray):Int:=if Op.bytesLess a.toList b.toList=true then -1 else if (a.toList==b.toList)=true then 0 else 1
theorem vz (a:ByteArray)(w:World):Calls prog 237 #[.string a] w λe w'=>e=false/\w=w':=by
 go_in;go_wp2_with fail;go_ret;exact⟨by simp,rfl⟩
theorem QU (a b:ByteArray)(w:World):Calls prog 228 #[.string a,.string b] w λe w'=>e=(BF a b:Int)/\w=w':=by
 by_cases h:Op.bytesLess a.toList b.toList=true
 ·rw[show BF a b= -1 from aB h]
  go_in;go_wp2_with fail;refine C' (vz _ _) ?_;go_wp2_with fail;refine C' (vz _ _) ?_;go_wp2_with fail;go_ret;exact⟨rfl,rfl⟩
 ·by_cases z:(a.toList==b.toList)=true
  ·rw[show BF a b=0 by unfold BF;rw[aA h,aB z]]
   go_in;go_wp2_with fail;refine C' (vz _ _) ?_;go_wp2_with fail;refine C' (vz _ _) ?_;go_wp2_with fail;go_ret;exact⟨rfl,rfl⟩
  ·rw[show BF a b=1 by unfold BF;rw[aA h,aA z]]
   have G:(a.toList==b.toList)=false:=by simpa using z
   go_in;go_wp2_with fail;refine C' (vz _ _) ?_;go_wp2_with fail;refine C' (vz _ _) ?_;go_wp2_with fail;go_ret;exact⟨rfl,rfl⟩
theorem U6 (a b:ByteArray)(x y:Int)(w:World):Calls prog 227 #[.agg #[.string a,x],.agg #[.string b,y]] w λe w'=>e=(BF a b:Int)/\∃q z,w'=Go.Sort.grow (w.drewN q) z:=by
 have h:=λG=>QU a b G
 generalize BF a b=r at h ⊢;go_in;go_wp2_with fail;refine C' (h _) ?_;go_wp2_with fail;go_ret;exact⟨rfl,0,_,by rw[Go.Sort.alloc_eq_grow,Go.Sort.alloc_eq_grow,Go.Sort.grow_grow];rfl⟩
theorem ltN (x y:ByteArray×Int):Go.Proofs.ltOf (λa b:ByteArray×Int=>BF a.1 b.1) x y=Op.bytesLess x.1.toList y.1.toList:=by
 show decide (BF x.1 y.1<0)=_;unfold BF;cases h:Op.bytesLess x.1.toList y.1.toList with
 |true=>rw[aB rfl];rfl
 |false=>
  rw[aA (by decide)];by_cases z:(x.1.toList==y.1.toList)=true
  ·rw[aB z];rfl
  ·rw[aA z];rfl
theorem ai3:Go.Sort.SWO (Go.Proofs.ltOf λa b:ByteArray×Int=>BF a.1 b.1) where
 irrefl x:=by rw[ltN];exact o5 _
 trans x y z h1 h2:=by rw[ltN] at *;exact oK _ _ _ h1 h2
 ntrans x y z h1 h2:=by
  rw[ltN] at *;by_cases e:y.1.toList=z.1.toList
  ·rw[<-e];exact h1
  ·have h3:=td _ _ h2 e
   cases h4:Op.bytesLess x.1.toList z.1.toList with
   |false=>rfl
   |true=>
    have h5:=oK _ _ _ h4 h3;rw[h1] at h5;cases h5
end
section
open Go.RowKit Go.Shelf Go.Sort
variable{A B L X l:List Int}{own:List Nat}{w:World}{T b b0 gp k n sz:Nat}{ps:List (Int×Int)}{v:Value}{E:List (ByteArray×Int)}{xs:List Value}
theorem insert_nil(w:World)(G:Value):Calls prog 240 #[(),(0:Int),(0:Int),G] w λe w'=>e= .returned (.tuple #[])/\w=w':=by
 go_in;go_wp2_with fail;go_loopg [8] 0 (λz s8 h=>z=0/\s8= .int .i64 1/\w=h)
 case atStart=>exact⟨rfl,rfl,rfl⟩
 case round=>
  obtain⟨-,rfl,rfl⟩:=hrel;go_wp2_with fail;go_end0;exact⟨rfl,rfl⟩
theorem abM (w:World)(G:Value):Calls prog 235 #[(),(0:Int),(0:Int),(0:Int),G] w λe w'=>e= .returned (.tuple #[])/\w=w':=by
 go_in;go_wp2_with fail;go_loopg [1,2,3] 0 (λz s1 s2 s3 h=>z=0/\s1= .int .i64 0/\s2= .int .i64 0/\s3= .int .i64 0/\w=h)
 case atStart=>exact⟨rfl,rfl,rfl,rfl,rfl⟩
 case round=>
  obtain⟨-,rfl,rfl,rfl,rfl⟩:=hrel;go_wp2_with fail;refine C' (insert_nil _ _) ?_;go_wp2_with fail;refine aI (results_none rfl _ _ _) rfl ?_;exact⟨rfl,rfl⟩
theorem YE (w:World)(z:Value):Calls prog 226 #[(),z] w λe w'=>e= .returned (.tuple #[])/\w=w':=by
 have h:Calls prog 236 #[.int .u64 0] w λe w'=>e= .returned (.int .i64 (Lib.bitLen 0:Nat))/\w'=w:=Any.bits_Len (SlLaysF0.n15.bits (P:= prog) (ρ:=Eg) { SS with }) 0 w (by omega) (by omega)
 rw[show Lib.bitLen 0=0 from rfl] at h;go_in;go_wp2_with fail;refine C' (h.mono λ_ _ h=>⟨h.1,h.2.symm⟩) ?_;go_wp2_with fail;refine C' (abM _ _) ?_;go_wp2_with fail;go_end0;exact⟨rfl,rfl⟩
def Lm (p:ByteArray×Int):List Value:=[.string p.1,.int .i64 p.2]
theorem JW (E:List (ByteArray×Int))(t:Nat)(h:t<E.length*2):(fe E)[t]? =some (flatK Lm 2 E.toArray)[t]! :=by
 have G:t/2<E.length:=by omega
 rw[get_flatK _ _ _ _ (by simpa using h)];have U:E.toArray[t/2]! =(eX E (t/2),jm E (t/2)):=by
  rw[getElem!_pos _ _ (by simpa using G)];simp[eX,jm,G]
 rw[U];have z:=ql E (t/2) G;rcases (show t%2=0\/t%2=1 by omega) with J|J
 ·rw[show t/2*2=t by omega] at z
  rw[J,z.1];rfl
 ·rw[show t/2*2+1=t by omega] at z
  rw[J,z.2];rfl
theorem YF (p q:ByteArray×Int):ltOf (λa b:ByteArray×Int=>BF a.1 b.1) p q=Op.bytesLess p.1.toList q.1.toList:=ltN p q
theorem NL{V:Nat}(h:w.ownsRow V 99 2 v E.length (fe E))(aF:E.length<=10000):
  Calls prog 226 #[v,.func (.func 227) #[] #[]] w λe w'=>e= .returned (.tuple #[])/\∃E',E'.Perm E/\
   (∀i j,i<j->j<E'.length->Op.bytesLess (eX E' j).toList (eX E' i).toList=false)/\w'.ownsRow V 99 2 v E'.length (fe E')/\∃l,ay l w w'/\∀k,k∈l->v.ownBlock=some k:=by
 obtain⟨hl,h⟩:=h;rcases h with ⟨rfl,hn⟩|⟨g,cap,U,rfl,hg,hh,af,ag,ah,aC⟩
 ·have hE:E=[]:=bo hn
  subst hE;refine(YE w _).mono λe w' he=>⟨he.1,[],List.Perm.refl _,λi j _ hj=>by simp at hj,he.2▸⟨rfl,.inl ⟨rfl,rfl⟩⟩,[],he.2▸ay.refl _ _,λk J=>by cases J⟩
 ·have W:∀t,t<E.length*2->w.cell? ⟨g,t,none⟩=some (flatK Lm 2 E.toArray)[t]! :=λt ht=>by
   have hb:bh w g U 99 :=hh;rw[hb.cell,<-JW E t ht,<-aC,ij ht,dH]
  have hH:HoldsK Lm 2 w g 0 E.toArray:=λj hj=>by
   rw[size_flatK] at hj;rw[bc];exact⟨W j (by simpa using hj),bh.frozen (c:=U) (T:= 99) hh j⟩
  have hs:=AnyQ.slices_SortFunc SS 2 (λw=>by kernel_rfl) (λw=>by kernel_rfl) Lm (λ_=>rfl) (λx u hu=>by
   simp only[Lm,aL,aK,bC] at hu;rcases hu with rfl|rfl<;>rfl) (λa b:ByteArray×Int=>BF a.1 b.1) ai3 227 #[] g 0 cap E.toArray w (enters_of func227 (by kernel_rfl) rfl) (λm os dk _ x y=>U6 x.1 y.1 x.2 y.2 _) hH (Array.getElem?_eq_some_iff.1 hh).1 (by simp;omega)
  refine Rr (show Calls _ _ _ _ _ from hs) ?_;rintro w' ⟨z,m,os,hp,aD,rfl⟩;obtain⟨ae,-,G⟩:=hp;have ac:z.size=E.length:=by simpa using ae
  have ak:z.extract 0 E.toArray.size=z:=by rw[<-ae];exact Array.extract_size
  have av:E.toArray.extract 0 E.toArray.size=E.toArray:=Array.extract_size;rw[ak,av] at G;have az:=(Array.getElem?_eq_some_iff.1 hh).1;have aa:(sortWorldK Lm 2 w g 0 m z os).heap[g]? =some (.cells (putCells id 0 (flatK Lm 2 z) U) 99 (0,0)):=by
   show((w.heap.modify g _)++os)[g]? =_;rw[Array.getElem?_append_left (by rw[Array.size_modify];exact az),Array.getElem?_modify,aB rfl,hh];rfl
  have o6:ay [g] w (sortWorldK Lm 2 w g 0 m z os):=by
   refine⟨rfl,rfl,rfl,?_,λk J ar=> ?_⟩
   ·show w.heap.size<=((w.heap.modify g _)++os).size
    rw[Array.size_append,Array.size_modify];omega
   ·show((w.heap.modify g _)++os)[k]? =_
    rw[Array.getElem?_append_left (by rw[Array.size_modify];exact J),Array.getElem?_modify,aA (λe=>ar (by rw[<-e];simp))]
  have ai:(flatK Lm 2 z).size=E.length*2:=by rw[size_flatK,ac]
  have T9:z.toList.length=E.length:=by rw[dO,ac]
  refine⟨rfl,z.toList,G,λi j ax hj=> ?_,⟨by rw[lT],.inr ⟨g,cap,_,by rw[T9],hg,aa,by rw[T9];exact af,ag,by simp[putCells,ah],?_⟩⟩,[g],o6,λk J=>by rw[au] at J;rw[J];rfl⟩
  ·have h1:=aD i j (fD _) ax (by rw[bN];omega)
   rw[YF] at h1;have e:∀k:Nat,k<z.size->z[k]! =(eX z.toList k,jm z.toList k):=λk J=>by
    rw[getElem!_pos z k J];simp[eX,jm,J]
   rw[e j (by omega),e i (by omega)] at h1;exact h1
  ·apply cE
   intro t;rw[T9];by_cases ht:t<E.length*2
   ·rw[ij ht,JW z.toList t (by rw[T9];exact ht)]
    have hc:t<U.size:=by omega
    simp only[putCells,dH,Array.getElem?_mapIdx,fD,true_and,bc,Nat.sub_zero,Array.toArray_toList];rw[Array.getElem?_eq_getElem hc,fU,ai,aB ht];rfl
   ·rw[aP (by rw[aJ];omega),aP (by rw[lT,T9];omega)]
end
section
open Go.RowKit
variable{A B L X l:List Int}{own:List Nat}{w:World}{T b b0 gp k n sz:Nat}{ps:List (Int×Int)}{v:Value}{E:List (ByteArray×Int)}{xs:List Value}
instance U7 (L:List Int) (n:Nat):Decidable (qL L n):=inferInstanceAs (Decidable (∀k,k<n->_))
def yl (X:List Int) (b:Nat):List (ByteArray×Int):=mJ (kF (eo X (1080+8*b))) (oL (eo X (1080+8*b)))
def JX (X:List Int) (b:Nat):Prop:=qL (kF (eo X (1080+8*b))) (oL (eo X (1080+8*b)))
instance (X:List Int) (b:Nat):Decidable (JX X b):=U7 _ _
def mG (X:List Int):Nat->Int->List Nat->List (ByteArray×Int)->Option (List Nat×List (ByteArray×Int))
 |0,_,_,_=>none
 |n+1,b,own,E=>if b=0 then some (own,E) else if 256<=b\/own.length=24 then none else
   if JX X b.toNat then mG X n (X.getD (1080+8*b.toNat) 0) (own++[b.toNat]) (E++yl X b.toNat) else none
def tv (X L:List Int):Nat->Option (List Nat×List (ByteArray×Int))
 |0=>some ([],[])
 |q+1=>(tv X L q).bind λr=>mG X (25-r.1.length) (L.getD (2+q) 0) r.1 r.2
def YG (X L:List Int):Option (List Nat×List (ByteArray×Int)):=tv X L 4
theorem NM (h:tv X L k=none):∀{n:Nat},k<=n->tv X L n=none:=by
 intro n z;induction z with
 |refl=>exact h
 |step _ ih=>rw[tv,ih];rfl
structure uE (own:List Nat) (E:List (ByteArray×Int)):Prop where
 len:own.length<=24
 num:∀c,c∈own->0<c/\c<256
 ents:E.length<=3*own.length
 size:∀p,p∈E->p.1.size<=7
theorem YH (X:List Int)(b:Nat):(yl X b).length<=3:=by rw[yl,kf];exact SR _
theorem U8 (X:List Int)(b:Nat):∀p,p∈yl X b->p.1.size<=7:=by
 intro p h;unfold yl at h;obtain⟨k,z,rfl⟩:=bW h;rw[zR _ _ k (by rwa[kf] at z)];exact CO _
theorem uE.step(h:uE own E)(X:List Int){b:Nat}(U:0<b)(W:b<256)(V:own.length<24):uE (own++[b]) (E++yl X b):=by
 have :=YH X b;have :=h.ents;refine⟨by simp;omega,λc G=> ?_,by simp;omega,λp J=> ?_⟩
 ·rcases aT.1 G with z|z
  ·exact h.num c z
  ·rw[au] at z;omega
 ·rcases aT.1 J with z|z
  ·exact h.size p z
  ·exact U8 X b p z
theorem uE.nil:uE [] []:=⟨by simp,λc h=>by simp at h,by simp,λp h=>by simp at h⟩
def y8 (w:World) (X L:List Int) (e:Ending) (w':World):Prop:=
 (∃own E h G U J z,e= .returned (.tuple #[G,J,true])/\YG X L=some (own,E)/\uE own E/\h.Perm E/\(∀i j,i<j->j<h.length->Op.bytesLess (eX h j).toList (eX h i).toList=false)/\
  bD w' G U h/\w.heap.size<=U/\ma w' J z own/\w.heap.size<=z/\ay [] w w')\/
 (e= .returned (.tuple #[(),(),false])/\YG X L=none/\ay [] w w')
theorem aen (b:Nat)(w:World):(Instr.sliceAt 132 (.pointer (some ⟨b,0,none⟩)) (some (.int .i64 2)) (some (.int .i64 6)) none).run prog w= .ok (.slice (some ⟨b,2,none⟩) 4 6) w:=by show Sem.run _ _ _=_;kernel_rfl
structure GW (w wx:World) (v7 v8:Value) (own:List Nat) (E:List (ByteArray×Int)):Prop where
 ents:wx.ownsRow (w.heap.size+1) 99 2 v7 E.length (fe E)
 nums:wx.ownsRow (w.heap.size+1) 3 1 v8 own.length (dL own)
 keep:ay [] w wx
 ok:uE own E
theorem Ay{b1 b2 J T2 z1 z2 n1 n2:Nat}{v1 v2:Value}{aa W:List Value}(G:w.ownsRow b1 J z1 v1 n1 aa)(V:w.ownsRow b2 T2 z2 v2 n2 W)(hT:J≠T2):∀g,v1.ownBlock=some g->v2.ownBlock≠some g:=by
 intro g e1 e2;obtain⟨-,G⟩:=G;obtain⟨-,V⟩:=V;rcases G with ⟨rfl,-⟩|⟨g1,c1,ac,rfl,-,ae,-⟩
 ·cases e1
 ·rcases V with ⟨rfl,-⟩|⟨g2,c2,af,rfl,-,U,-⟩
  ·cases e2
  ·cases e1
   cases e2;have z:w.heap[g1]? =some (.cells ac J (0,0)):=ae;have h:w.heap[g1]? =some (.cells af T2 (0,0)):=U;rw[z] at h;cases h;exact hT rfl
theorem zW{w':World}{z:Nat}{row:Option Nat}(h:w.ownsRow z T sz v n xs)(hg:w.grownBy w' row)(V:∀g,v.ownBlock=some g->row≠some g):w'.ownsRow z T sz v n xs:=by
 obtain⟨h0,h1⟩:=h;refine⟨h0,?_⟩;rcases h1 with ⟨G,U⟩|⟨J,cap,W,G,U,hh,e3⟩
 ·exact .inl ⟨G,U⟩
 ·refine .inr ⟨J,cap,W,G,U,?_,e3⟩
  rw[<-hh];exact hg.block J (Array.getElem?_eq_some_iff.1 hh).1 λe4=>V J (by rw[G];rfl) e4.symm
theorem GW.keeps{U V:World}{J G:Value}(h:GW w U J G own E)(z:ay [] U V):GW w V J G own E:=
 ⟨eu h.ents z (by simp),eu h.nums z (by simp),h.keep.trans' z,h.ok⟩
theorem eZ.cellsA{g cap:Nat}(h:eZ w (.slice g n cap) g T sz n xs):n≠0->∃z,some (⟨g,0,none⟩:Addr)=some z/\∀j u,xs[j]? =some u->w.cell? (z.add j)=some u:=λU=>by
 obtain⟨-,-,V,-⟩:=h.cell U;refine⟨_,rfl,λj u J=> ?_⟩;have G:j<xs.length:=(List.getElem?_eq_some_iff.1 J).1;rw[h.len] at G;rw[add_plain,bc,V j G,J]
theorem QV (QA:eK w b gp B ps)(ES:C5 (az B ps)){L:List Int}(hL:L.length=8)(zG:C5 L):
  Calls prog 209 #[b,(aY L).toArray] w (y8 w (az B ps) L):=by
 obtain⟨ie,bT,bR,bM,bN⟩:=df Tryz.info_entry;obtain⟨ii,bC,bK,bS,bE⟩:=df Tryz.info_int;have ak:=bh.new w (aY L).toArray 132;obtain⟨W0,ag⟩:∃W0,W0=w.alloc (.cells (aY L).toArray 132):=⟨_,rfl⟩;rw[<-ag] at ak;have cM:ay [] w W0:=by
  rw[ag];exact(ay.refl _ _).alloc _
 have b7:W0.heap.size=w.heap.size+1:=by rw[ag];simp
 obtain⟨ry,qK,vT,U9⟩:=hh4 ag ak QA ES;have U:Hid (GW w W0 (.slice none 0 0) (.slice none 0 0) [] []):=⟨⟨rfl,.inl ⟨rfl,rfl⟩⟩,⟨rfl,.inl ⟨rfl,rfl⟩⟩,cM,uE.nil⟩;have HC:Hid (∀q wx,q<4->ay [] W0 wx->wx.cell? ⟨w.heap.size,2+q,none⟩=some (.int .u64 (L.getD (2+q) 0))):=λq wx hq hk=>by rw[(ak.keep hk (by simp)).cell,aF,dF (by omega)]
 have bI:=ar zG;have cf:=aen w.heap.size;clear ak cM ag QA ES hL zG;generalize br:az B ps=X at *;have SU:=ar br;clear br;generalize (aY L).toArray=ZL at *;go_in;go_wp2_with fail;rw[<-ry.out];go_loopg [7,8,17] 4 (λgh s7 s8 s17 wx=>∃(q:Nat) (own:List Nat) (E:List (ByteArray×Int)),q+gh=4/\s17= .int .i64 (q:Int)/\Hid (tv X L q=some (own,E)/\GW w wx s7 s8 own E/\ay [] W0 wx))
 case atStart=>exact⟨0,[],[],rfl,rfl,rfl,U.out,ay.refl _ _⟩
 case round=>
  clear U;obtain⟨q,own,E,hq,rfl,HP⟩:=hrel;obtain⟨aD,hR,kg⟩:=HP.out;cases gk with
  |zero=>
   obtain rfl:q=4:=by omega
   obtain⟨aP,HR,U⟩:=hh3 (NL hR.ents (by have :=hR.ok.ents;have :=hR.ok.len;omega)) hR aD;clear aD hR kg HP;go_wp2_with fail;refine Rr aP.out ?_;rintro w1 ⟨J,ai,aG,aI,l,aJ,hl⟩;have HF:Hid (y8 w X L (.returned (.tuple #[u7,u8,true])) w1):=by
    have aa:w1.ownsRow (w.heap.size+1) 3 1 u8 own.length (dL own):=eu HR.out.nums aJ λk hk hm=>Ay HR.out.ents HR.out.nums (by decide) k (hl k hm) hk
    obtain⟨ge,bf,aN⟩:=eZ.of_row aI;obtain⟨go,bP,ck⟩:=ma.of_row aa;have bQ:ay [] w w1:=HR.out.keep.trans aJ λk hk=> .inr (by have :=dQ HR.out.ents k (hl k hk);omega)
    have he:∃aj,bD w1 u7 aj J/\w.heap.size<=aj:=by
     by_cases h0:J.length=0
     ·exact⟨w.heap.size,(bf.ereads rfl).anyG h0 _,aH _⟩
     ·exact⟨ge,bf.ereads rfl,by have :=(aN h0).1;omega⟩
    have ho:∃av,ma w1 u8 av own/\w.heap.size<=av:=⟨go,bP,by omega⟩;obtain⟨aj,h1,h2⟩:=he;obtain⟨av,h3,h4⟩:=ho;exact .inl ⟨own,E,J,u7,aj,u8,av,rfl,U.out,HR.out.ok,ai,aG,h1,h2,h3,h4,bQ⟩
   clear ai aG aI aJ hl HR U aP;go_wp2_with fail
   go_ret3
   exact HF.out
  |succ gg=>
   have bU:q<4:=by omega
   have cr:(q:Int)<4:=by omega
   have bY:(0:Int)<=(q:Int):=by omega
   have c2:=HC.out q wr bU kg;have HF:Hid (L.getD (2+q) 0=L.getD (2+q) 0):=rfl;have bn:=bI.out (2+q);obtain⟨U,HR,nK⟩:=hh3 aD hR kg;clear aD hR kg HP;generalize bp:L.getD (2+q) 0=fi at *;have qV:=ar bp;clear bp;go_wp2_with fail;go_loopg [7,8,11] (25-own.length) (λgh s7 s8 K3 wx=>∃(z:List Nat) (J:List (ByteArray×Int)) (bi:Int),z.length+gh=25/\K3= .int .u64 bi/\Hid (mG X gh bi z J=mG X (25-own.length) fi own E/\0<=bi/\bi<18446744073709551616/\GW w wx s7 s8 z J/\ay [] W0 wx))
   case atStart=>exact⟨own,E,fi,by have :=HR.out.ok.len;omega,rfl,rfl,bn.1,bn.2,HR.out,nK.out⟩
   case round=>
    obtain⟨z,J,bi,bV,rfl,HP⟩:=hrel;obtain⟨bc,b6,Gt,aO,aS⟩:=HP.out;have cp:=aO.ok.len;cases gk with
    |zero=>omega
    |succ gk=>
     obtain⟨ac,WX,NP⟩:=hh3 bc aO aS;have GY:Hid (∀wz,ay [] wr wz->mG X (gk+1) bi z J=none->y8 w X L (.returned (.tuple #[(),(),false])) wz):=λwz bH hn=>by
      refine .inr ⟨rfl,?_,WX.out.keep.trans' bH⟩;refine NM (k:=q+1) ?_ (by omega);rw[tv,U.out,qV.out];show mG X (25-own.length) fi own E=none;rw[<-ac.out];exact hn
     clear bc aO aS HP;by_cases hz:bi=0
     ·subst hz
      go_wp2_with fail;go_roundg gg;case measure=>omega
      case rel=>
       refine⟨q+1,z,J,by omega,by simp,?_,WX.out,NP.out⟩;rw[tv,U.out,qV.out];show mG X (25-own.length) fi own E=_;rw[<-ac.out,mG,aB rfl]
     ·have DY:(bi==0)=false:=by simpa using hz
      obtain⟨a8,c8,rfl,bX,cn⟩:=iV WX.out.nums;by_cases wC:(256:Int)<=bi
      ·have HF:=ar (GY.out _ (ay.refl _ _) (by rw[mG,aA hz,aB (.inl wC)]))
       clear GY ac WX NP;go_wp2_with fail
       go_ret3
       exact HF.out
      ·by_cases PC:z.length=24
       ·have HF:=ar (GY.out _ (ay.refl _ _) (by rw[mG,aA hz,aB (.inr PC)]))
        clear GY ac WX NP;rw[PC];go_wp2_with fail
        go_ret3
        exact HF.out
       ·have bL:¬(z.length:Int)=24:=by omega
        have cd:((z.length:Int)==24)=false:=by simpa using bL
        obtain⟨c,hc⟩:∃c:Nat,bi=(c:Int):=⟨bi.toNat,by omega⟩;have aZ:0<c:=by omega
        have af:c<256:=by omega
        have bW:wrap64 bi=bi:=by unfold wrap64;omega
        have ou:=ar (λwx=>kv bi wx);have Br:Hid (iN bi=((1080+8*c:Nat):Int)):=by
         show _=_;rw[hc,iN,aA];omega
        have nt:=ar (pH (vT.out.keep WX.out.keep (by simp) (by simp)) (1080+8*c) (by omega));rw[SU.out] at nt;have bt:Hid (mG X (gk+1) bi z J=if JX X c then mG X gk (X.getD (1080+8*c) 0) (z++[c]) (J++yl X c) else none):=by
         show _=_;rw[mG,aA hz,aA,show bi.toNat=c by omega]
        have Mk:Hid (bi=(c:Int)/\0<c/\c<256):=⟨hc,aZ,af⟩;have C7:=iF X (1080+8*c);have zD:Hid (C5 (eo X (1080+8*c))):=C5.row U9.out _;have bq:X.getD (1080+8*c) 0=(eo X (1080+8*c)).getD 0 0:=(kD X (1080+8*c) 0 (by omega)).symm;have bz:=ar bq;have XQ:Hid (JX X c↔qL (kF (eo X (1080+8*c))) (oL (eo X (1080+8*c)))):=Iff.rfl;have bw:Hid (yl X c=mJ (kF (eo X (1080+8*c))) (oL (eo X (1080+8*c)))):=rfl;have cm:=SR (eo X (1080+8*c));clear hc aZ af bq;generalize bO:((1080+8*c:Nat):Int)=pi,eo X (1080+8*c)=RX at *;clear bO;have bZ:=lq;generalize vZ:(aY (List.replicate 8 0)).toArray=Z8 at *;have xE:=ar vZ;clear vZ;go_wp2_with fail;refine C' (ou.out _) ?_;rw[Br.out];go_wp2_with fail;refine Rr nt.out λw1 aK=> ?_;obtain⟨w2,bg,aL,aU⟩:=bG (P:= prog) (ty:= 132) (cs:=aY RX) (by rw[bB,C7];exact ja) (bh.new w1 Z8 132) (by rw[<-xE.out];simp[bB,C7]) (fk _);obtain⟨EO,xC⟩:=hh2 bg (fN aL C7);have aT:=aK.size;have bo:ay [] wr w2:=(aK.alloc (.cells Z8 132)).trans aU (by intro x hx;rw[au] at hx;omega);obtain⟨Gi,aR,bb⟩:=hh3 (Ll RX C7 zD.out w2) aL bo;have bj:Hid (wr.heap.size<=w1.heap.size):=aT;clear bg aL aU bo aK nt aT;generalize cg:w1.heap.size=V at *;go_wp2_with(with_reducible first|refine gS 132 EO.out ?_|refine gL 132 xC.out ?_);refine Gi.out.mono ?_;rintro e w3 (⟨ge,rfl,ax,aN,ah,W⟩|⟨rfl,ah,W⟩)
        ·have b9:=ar ax
         have oI:Hid (ay [] wr w3):=bb.out.trans' W;have G:=WX.out.keeps oI.out;obtain⟨aM,w4,bv,aW,ae⟩:=mi (P:= prog) 30 99 30 ie _ 2 24 underlying30 bT bR bM bN rfl (by omega) _ _ u7 _ G.ents (some ⟨ge,0,none⟩) (oL RX) (oL RX) _ ax.len (eZ.cellsA ax) (Ak _) (by have :=G.ok.ents;unfold maxLen;omega) (by have :=G.ok.ents;omega) (by have :=oI.out.size;have :=NP.out.size;omega);have cj:w.heap.size+1<=w3.heap.size:=by have :=oI.out.size;have :=NP.out.size;omega
         have aa:w4.ownsRow (w.heap.size+1) 3 1 (.slice a8 z.length c8) z.length (dL z):=zW G.nums ae λg e8 e7=>Ay G.ents G.nums (by decide) g e7 e8
         have wI:ay [] w w4:=G.keep.grown ae λk hk=>by have :=dQ G.ents k hk;omega
         have YI:bh w4 V (aY RX).toArray 132 :=(ae.block V ((aR.out.keep W (by simp)).lt) λe7=>by
          have h1:=Ao WX.out.ents V e7.symm;have h2:=bj.out;omega).trans (aR.out.keep W (by simp))
         have bl:=bh.new w4 #[bi] 3;obtain⟨aX,w6,xG,ba,Sw⟩:=mi (P:= prog) 76 3 76 ii _ 1 8 underlying76 bC bK bS bE rfl (by omega) _ _ (.slice a8 z.length c8) _ (eu aa ((ay.refl [] w4).alloc (.cells #[bi] 3)) (by simp)) (some ⟨w4.heap.size,0,none⟩) 1 1 [.int .i64 bi] rfl (λ_=>⟨_,rfl,λj u hu=>by
          have hj:j<1:=(List.getElem?_eq_some_iff.1 hu).1;obtain rfl:j=0:=by omega
          rw[add_plain,bl.cell];exact hu⟩) (λu hu=>by rw[au] at hu;rw[hu];rfl) (by unfold maxLen;omega) (by omega) (by have :=ae.size;simp;omega)
         have aV:w6.ownsRow (w.heap.size+1) 99 2 aM (J++yl X c).length (fe (J++yl X c)):=by
          have h1:w4.ownsRow (w.heap.size+1) 99 2 aM (J++yl X c).length (fe (J++yl X c)):=by
           rw[bw.out,qJ,aC,kf];exact aW
          have h2:=eu h1 ((ay.refl [] w4).alloc (.cells #[bi] 3)) (by simp);exact zW h2 Sw λg e7 e8=>Ay h2 (eu aa ((ay.refl [] w4).alloc (.cells #[bi] 3)) (by simp)) (by decide) g e7 e8
         have bu:w6.ownsRow (w.heap.size+1) 3 1 aX (z++[c]).length (dL (z++[c])):=by
          have e:dL (z++[c])=dL z++[.int .i64 bi]:=by rw[Mk.out.1];simp[dL]
          rw[e,aC];exact ba
         have IW:ay [] w w6:=(wI.alloc (.cells #[bi] 3)).grown Sw λk hk=>by have :=dQ aa k hk;omega
         have bk:bh w6 V (aY RX).toArray 132 :=(Sw.block V ((YI.alloc _).lt) λe8=>by
          have h1:=Ao WX.out.nums V e8.symm;have h2:=bj.out;omega).trans (YI.alloc _)
         have bJ:Hid (GW w w6 aM aX (z++[c]) (J++yl X c)):=⟨aV,bu,IW,WX.out.ok.step X Mk.out.2.1 Mk.out.2.2 (by omega)⟩;have Va:Hid (ay [] W0 w6):=by
          have h1:ay [] W0 w4:=(NP.out.trans' oI.out).grown ae λk hk=>by have :=dQ G.ents k hk;omega
          exact(h1.alloc (.cells #[bi] 3)).grown Sw λk hk=>by have :=dQ aa k hk;omega
         have cx:w6.cell? V=some (.int .u64 (RX.getD 0 0)):=by rw[bk.cell,aF,dF (by omega)]
         obtain⟨bF,Gq⟩:=hh2 bv xG;have bA:Hid (mG X gk (RX.getD 0 0) (z++[c]) (J++yl X c)=mG X (25-own.length) fi own E):=by
          show _=_;rw[<-ac.out,bt.out,aB (XQ.out.2 ah),bz.out]
         have aQ:=zD.out 0;clear G aW ae aa wI YI bl ba Sw aV bu IW bk ax aN ah W bv xG GY ac WX NP Gi;generalize RX.getD 0 0=xn at *;go_wp2_with(first|((with_reducible show wpList _ _ _ (⟨some 45,_,_,_,_,_⟩::_) _ _);refine wpList_append_run rfl (.tmp 43) (.tmp 44) 30 30 rfl u7 (.slice ge (oL RX) (oL RX)) rfl rfl bF.out ?_)|((with_reducible show wpList _ _ _ (⟨some 50,_,_,_,_,_⟩::_) _ _);refine wpList_append_run rfl (.tmp 46) (.tmp 49) 76 76 rfl (.slice a8 z.length c8) (.slice w4.heap.size 1 1) rfl rfl Gq.out ?_));go_roundg gk;case measure=>omega
         case rel=>exact⟨z++[c],J++yl X c,xn,by simp;omega,rfl,bA.out,aQ.1,aQ.2,bJ.out,Va.out⟩
        ·have HF:=ar (GY.out w3 (bb.out.trans' W) (by rw[bt.out,aA (λh=>ah (XQ.out.1 h))]))
         clear GY ac WX NP ah W;go_wp2_with fail
         go_ret3
         exact HF.out
def ym (X L:List Int) (n:bT) (own:List Nat):Prop:=
 ((iR L).K=1/\∃l,tu X L l own/\n={ iR L with B:=l })\/
 ((iR L).K=2/\∃E h,YG X L=some (own,E)/\uE own E/\h.Perm E/\(∀i j,i<j->j<h.length->Op.bytesLess (eX h j).toList (eX h i).toList=false)/\n={ iR L with E:=h })
def Eh (w:World) (X L:List Int) (e:Ending) (w':World):Prop:=
 ∃n v g own h z ok,e= .returned (.tuple #[aM n v,h,.bool ok])/\n.B.length=13/\bD w' v g n.E/\w.heap.size<=g/\ma w' h z own/\w.heap.size<=z/\ay [] w w'/\
  (ok=true->ym X L n own/\own.length<=24/\(∀c,c∈own->0<c/\c<256)/\n.E.length<=72/\∀k,k<n.E.length->(eX n.E k).size<=7)/\(ok=false->∀n' G,¬ym X L n' G)
theorem Vb{z:List (ByteArray×Int)}(h:uE own E)(G:z.Perm E):z.length<=72/\∀k,k<z.length->(eX z k).size<=7:=by
 refine⟨by have :=G.length_eq;have :=h.ents;have :=h.len;omega,λk J=> ?_⟩;exact h.size _ (G.mem_iff.1 (Xy J))
theorem JY (h:tu X L l own):own.length<=24/\∀c,c∈own->0<c/\c<256:=by
 rcases h with ⟨-,rfl,-⟩|⟨b,-,G,J,rfl,-⟩
 ·exact⟨by simp,λc z=>by simp at z⟩
 ·exact⟨by simp,λc z=>by rw[au] at z;omega⟩
theorem QW (QA:eK w b gp B ps)(ES:C5 (az B ps)){L:List Int}(hL:L.length=8)(zG:C5 L):
  Calls prog 185 #[b,(aY L).toArray] w (Eh w (az B ps) L):=by
 obtain⟨W0,aa⟩:∃W0,W0=(w.alloc (.cells (aY L).toArray 132)).alloc (.cells (aM ck (.slice none 0 0)) 75):=⟨_,rfl⟩;have av:bh W0 w.heap.size (aY L).toArray 132 :=by
  rw[aa];exact(bh.new w _ _).alloc _
 have jL:bh W0 (w.heap.size+1) (aM ck (.slice none 0 0)) 75 :=by
  have :=bh.new (w.alloc (.cells (aY L).toArray 132)) (aM ck (.slice none 0 0)) 75;have e:(w.alloc (.cells (aY L).toArray 132)).heap.size=w.heap.size+1:=by simp
  rw[e] at this;rw[aa];exact this
 have cM:ay [] w W0:=by
  rw[aa];exact((ay.refl _ _).alloc _).alloc _
 have bg:=dA;obtain⟨F9,UQ,ry,fJ,qK,EN⟩:=hh6 (fN av hL) (CR L hL (zG 0) (zG 1) W0) aa cM av jL;have aZ:Hid (∀wx,ay [] w wx->Calls prog 208 #[b,(aY L).toArray] wx (qz wx (az B ps) L)):=λwx hk=>by
  have h7:=zG 7;by_cases h:L.getD 7 0<9223372036854775808
  ·exact IZ hL zG h
  ·by_cases hb:L.getD 7 0-9223372036854775808=0\/256<=L.getD 7 0-9223372036854775808
   ·exact Lj hL (bi:=L.getD 7 0-9223372036854775808) (by omega) (by omega) hb h7.2
   ·exact I0 (QA.keep hk (by simp) (by simp)) ES hL zG (c:=(L.getD 7 0-9223372036854775808).toNat) (by omega) (by omega) (by omega)
 have aT:Hid (∀wx,ay [] w wx->Calls prog 209 #[b,(aY L).toArray] wx (y8 wx (az B ps) L)):=λwx hk=>QV (QA.keep hk (by simp) (by simp)) ES hL zG
 have HL:=ar hL;have bj:W0.heap.size=w.heap.size+1+1:=by rw[aa];simp
 have wJ:(iR L).B.length=13:=by simp[iR]
 have CK:Hid ((iR L).E=[]/\(iR L).B=List.replicate 13 0):=⟨rfl,rfl⟩;clear av jL cM aa QA ES hL zG;generalize az B ps=X,aJ:(aY L).toArray=ZL at *;have Sy:=ar aJ;clear aJ;obtain⟨J,aA⟩:∃J,J=iR L:=⟨_,rfl⟩;rw[<-aA] at UQ wJ CK;have Ye:=ar aA;clear aA;generalize aP:aM ck (.slice none 0 0)=Z0 at *;have jy:=ar aP;clear aP;have Vc:Z0.size=18:=by rw[<-jy.out];rfl
 go_in;go_wp2_with((with_reducible show wpList _ _ _ (⟨_,.load 132 (.tmp 3),_,_,_,_⟩::_) _ _);rw[<-ry.out];refine gJ rfl 132 (.tmp 3) rfl _ rfl _ F9.out ?_);refine Rr UQ.out λw1 ax=> ?_;obtain⟨w2,aL,Mf,aG⟩:=bG (P:= prog) (ty:= 75) (cs:=mZ J (.slice none 0 0)) (by rw[gM,wJ];exact iX) (bh.new w1 Z0 75) (by rw[Vc,gM,wJ]) (kY rfl);have aF:=ax.size;have aD:bh w2 w1.heap.size (aM J (.slice none 0 0)) 75 :=Mf;have cK:w2.cell? ⟨w1.heap.size,1,none⟩=some (.int .i64 J.K):=by rw[aD.cell];exact(gG _ wJ).f1
 have fo:Hid (ay [] W0 w2):=(ax.alloc (.cells Z0 75)).trans aG (by intro x hx;rw[au] at hx;omega);have mn:Hid (∀wz n v g own vo go ok,ay [w1.heap.size] w2 wz->bh wz w1.heap.size (aM n v) 75->n.B.length=13->bD wz v g n.E->w.heap.size<=g->(n.E.length≠0->g≠w.heap.size+1)->ma wz vo go own->w.heap.size<=go->go≠w.heap.size+1->
   (ok=true->ym X L n own/\own.length<=24/\(∀c,c∈own->0<c/\c<256)/\n.E.length<=72/\∀k,k<n.E.length->(eX n.E k).size<=7)->(ok=false->∀n' cX,¬ym X L n' cX)->
   (loadVar 75 w1.heap.size).run prog wz= .ok (.agg (aM n v)) wz/\∃w',(storeVar 75 (w.heap.size+1:Nat) (.agg (aM n v))).run prog wz= .ok () w'/\(loadVar 75 (w.heap.size+1:Nat)).run prog w'= .ok (.agg (aM n v)) w'/\Eh w X L (.returned (.tuple #[aM n v,vo,.bool ok])) w'):=by
  intro wz n v g own vo go ok hk hb hn hE hg aS hO ag aU h1 h2;have aX:v.oneCell'=true:=by
   obtain⟨a,c,rfl,-⟩:=hE;rfl
  obtain⟨w',q1,q2,q3⟩:=bG (P:= prog) (ty:= 75) (cs:=mZ n v) (by rw[gM,hn];exact iX) ((EN.out.keep fo.out (by simp)).keep hk (by rw[au];omega)) (by rw[Vc,gM,hn]) (kY aX);refine⟨cg hb hn,w',q1,cg q2 hn,n,v,g,own,vo,go,ok,rfl,hn,hE.keep q3 (λh0=>by rw[au];exact aS h0),hg,hO.keep q3 (by rw[au];exact aU),ag,?_,h1,h2⟩;exact((fJ.out.trans' fo.out).trans hk (by intro x hx;rw[au] at hx;omega)).trans q3 (by intro x hx;rw[au] at hx;omega)
 obtain⟨EO,Qj⟩:=hh2 aL aD;have uJ:Hid ((loadVar 132 w.heap.size).run prog w2= .ok (.agg ZL) w2):=by
  have :=qK.out.keep fo.out (by simp);rw[<-Sy.out] at this ⊢;exact fN this HL.out
 obtain⟨bk,GZ⟩:=hh2 aF (fJ.out.trans' fo.out);clear aL Mf aD aG ax aF UQ F9;generalize bc:w1.heap.size=g7 at *;by_cases SA:J.K=1
 ·rw[SA] at cK
  go_wp2_with(with_reducible first|refine gS 75 EO.out ?_|refine gL 132 uJ.out ?_);refine(aZ.out _ GZ.out).mono ?_;rintro e w3 ⟨l,vo,go,own,ok,rfl,tq,af,ag,aN,z,h1,h2⟩;obtain⟨w4,aO,U,G⟩:=SI (Qj.out.keep z (by simp)) wJ tq;have ba:w.heap.size+1<w2.heap.size:=by have :=fo.out.size;omega
  obtain⟨ot,w5,YJ,YK,YL⟩:=mn.out w4 { J with B:=l } (.slice none 0 0) w.heap.size own vo go ok ((z.mono (by simp)).trans' G) U tq (by
   show bD w4 _ _ J.E;rw[CK.out.1];exact bD.nil _ _) (aH _) (by
   show J.E.length≠0->_;rw[CK.out.1];intro h;exact absurd rfl h) (af.keep G (by have :=Qj.out.lt;rw[au];omega)) (by have :=GZ.out.size;omega) (by omega) (λaB=>by
    have W:=h1 aB;refine⟨.inl ⟨by rw[<-Ye.out];exact SA,l,W,by rw[<-Ye.out]⟩,(JY W).1,(JY W).2,?_,?_⟩
    ·show J.E.length<=72
     rw[CK.out.1];simp
    ·show ∀k,k<J.E.length->_
     rw[CK.out.1];intro k hk;simp at hk) (λaB n' cX W=>by
    rcases W with ⟨-,l',W,-⟩|⟨ac,-⟩
    ·exact h2 aB l' cX W
    ·rw[<-Ye.out] at ac;omega)
  obtain⟨tT,mY,rA,Iz,V⟩:=hh5 aO ot YJ YK YL;clear aO U G ot YJ YK YL af ag aN z h1 h2;generalize aM { J with B:=l } (.slice none 0 0)=ZN at *;go_wp2_with(with_reducible first|refine gS 73 tT.out ?_|refine gL 75 mY.out ?_|refine gS 75 rA.out ?_);exact aI (cJ results185 rfl Iz.out rfl rfl) rfl V.out
 ·by_cases ac:J.K=2
  ·rw[ac] at cK
   have ba:w.heap.size+1<w2.heap.size:=by have :=fo.out.size;omega
   go_wp2_with(with_reducible first|refine gS 75 EO.out ?_|refine gL 132 uJ.out ?_);refine(aT.out _ GZ.out).mono ?_;rintro e w3 (⟨own,E,E',ve,ge,vo,go,rfl,ai,ah,aj,aQ,aC,aW,af,ag,z⟩|⟨rfl,ai,z⟩)
   ·have Ge:=Qj.out.keep z (by simp)
    have U:=Lh (u:=ve) (E:=E') Ge wJ;have G:ay [g7] w3 (w3.setCell ⟨g7,17,none⟩ ve):=(ay.refl _ _).setCell (.inl (by simp)) _;have ak:=Vb ah aj;have bb:=Qj.out.lt;obtain⟨ot,w5,YJ,YK,YL⟩:=mn.out (w3.setCell ⟨g7,17,none⟩ ve) { J with E:=E' } ve ge own vo go true ((z.mono (by simp)).trans' G) U wJ (aC.keep G (λ_=>by rw[au];omega)) (by omega) (λ_=>by omega) (af.keep G (by rw[au];omega)) (by omega) (by omega) (λ_=>⟨.inr ⟨by rw[<-Ye.out];exact ac,E,E',ai,ah,aj,aQ,by rw[<-Ye.out]⟩,ah.len,ah.num,ak.1,ak.2⟩) (λh=>by cases h);have aV:w3.cell? ⟨g7,17,none⟩=some (.slice none 0 0):=by rw[Ge.cell];exact Al _ wJ
    have aR:w3.frozen? ⟨g7,17,none⟩=false:=Ge.frozen 17;obtain⟨ae,ce,rfl,-,-,-⟩:=aC.open;obtain⟨mY,rA,Iz,V⟩:=hh4 ot YJ YK YL;clear Ge U G ak ot YJ YK YL ai ah aj aQ aC aW af ag z;generalize aM { J with E:=E' } (.slice ae E'.length ce)=ZN at *;go_wp2_with(with_reducible first|refine gL 75 mY.out ?_|refine gS 75 rA.out ?_);exact aI (cJ results185 rfl Iz.out rfl rfl) rfl V.out
   ·have Ge:=Qj.out.keep z (by simp)
    have U:=Lh (u:= .slice none 0 0) (E:=[]) Ge wJ;have G:ay [g7] w3 (w3.setCell ⟨g7,17,none⟩ (.slice none 0 0)):=(ay.refl _ _).setCell (.inl (by simp)) _;obtain⟨ot,w5,YJ,YK,YL⟩:=mn.out (w3.setCell ⟨g7,17,none⟩ (.slice none 0 0)) { J with E:=[] } (.slice none 0 0) w.heap.size [] (.slice none 0 0) w.heap.size false ((z.mono (by simp)).trans' G) U wJ (bD.nil _ _) (aH _) (λh=>absurd rfl h) (ma.nil _ _) (aH _) (by omega) (λh=>by cases h) (λ_ n' cX W=>by
     rcases W with ⟨aK,-⟩|⟨-,E,E',W,-⟩
     ·rw[<-Ye.out] at aK;omega
     ·rw[ai] at W;cases W)
    have aV:w3.cell? ⟨g7,17,none⟩=some (.slice none 0 0):=by rw[Ge.cell];exact Al _ wJ
    have aR:w3.frozen? ⟨g7,17,none⟩=false:=Ge.frozen 17;obtain⟨mY,rA,Iz,V⟩:=hh4 ot YJ YK YL;clear Ge U G ot YJ YK YL ai z;generalize aM { J with E:=[] } (.slice none 0 0)=ZN at *;go_wp2_with(with_reducible first|refine gL 75 mY.out ?_|refine gS 75 rA.out ?_);exact aI (cJ results185 rfl Iz.out rfl rfl) rfl V.out
  ·have aK:(J.K==1)=false:=by simpa using SA
   have bf:(J.K==2)=false:=by simpa using ac
   obtain⟨ot,w5,YJ,YK,YL⟩:=mn.out w2 J (.slice none 0 0) w.heap.size [] (.slice none 0 0) w.heap.size false (ay.refl _ _) Qj.out wJ (by rw[CK.out.1];exact bD.nil _ _) (aH _) (by rw[CK.out.1];intro h;exact absurd rfl h) (ma.nil _ _) (aH _) (by omega) (λh=>by cases h) (λ_ n' cX W=>by
    rcases W with ⟨h1,-⟩|⟨h1,-⟩
    ·rw[<-Ye.out] at h1;exact SA h1
    ·rw[<-Ye.out] at h1;exact ac h1)
   obtain⟨mY,rA,Iz,V⟩:=hh4 ot YJ YK YL;clear ot YJ YK YL;generalize J.K=K at *;go_wp2_with(with_reducible first|refine gS 75 EO.out ?_|refine gL 75 mY.out ?_|refine gS 75 rA.out ?_);exact aI (cJ results185 rfl Iz.out rfl rfl) rfl V.out
end
end Go.Proofs.YtimcfdnbpkiniaaGreatDoor
