/- Lemmas. -/
import Derived.Test.YtepbpdipenedhaaGreatDoorM11
import Derived.Ground.SlsfProg
import Derived.Shelf.SlSortCmp.WholeK
import Derived.Sort.Grow
set_option maxHeartbeats 8000000
set_option maxRecDepth 100000
namespace Go.Proofs.YtepbpdipenedhaaGreatDoor
open Go.Proofs.Tryz
section
open Go.RowKit
variable{A B L X l:List Int}{own:List Nat}{w:World}{T V b b0 gp k n sz:Nat}{ps:List (Int×Int)}{v:Value}{E:List (ByteArray×Int)}{xs:List Value}
def tA (X L l:List Int) (own:List Nat):Prop:=
 (L.getD 7 0<9223372036854775808/\own=[]/\kD (L.drop 2) 6=some l)\/
 (∃b:Nat,L.getD 7 0=9223372036854775808+(b:Int)/\0<b/\b<256/\own=[b]/\kD ((L.drop 2).take 5++dZ X (1080+8*b)) 13=some l)
def qz (w:World) (X L:List Int) (e:Ending) (w':World):Prop:=
 ∃l z h own ok,e= .returned (.tuple #[(zs l).toArray,z,.bool ok])/\l.length=13/\l9 w' z h own/\w.heap.size<=h/\own.length<=1/\ay [] w w'/\(ok=true->tA X L l own)/\(ok=false->∀l' G,¬tA X L l' G)
theorem tA.inj{l':List Int}{cW:List Nat}(h:tA X L l own)(V:tA X L l' cW):l'=l/\cW=own:=by
 rcases h with ⟨h1,h2,h3⟩|⟨b,h1,h2,h3,h4,h5⟩
 ·rcases V with ⟨J,G,z⟩|⟨W,J,G,z,g4,U⟩
  ·rw[h3] at z
   cases z;exact⟨rfl,by rw[G,h2]⟩
  ·omega
 ·rcases V with ⟨J,G,z⟩|⟨W,J,G,z,g4,U⟩
  ·omega
  ·obtain rfl:W=b:=by omega
   rw[h5] at U;cases U;exact⟨rfl,by rw[g4,h4]⟩
def CY (l:List Int):Prop:=∀k,0<=l.getD k 0/\l.getD k 0<18446744073709551616
theorem CY.app(J:CY A)(U:CY B):CY (A++B):=λk=>by
 have G:=J k;have z:=U (k-A.length);rw[aj] at G z ⊢;by_cases h:k<A.length
 ·rw[ba h];exact G
 ·rw[aR (by omega)];exact z
theorem CY.drop(h:CY A)(n:Nat):CY (A.drop n):=λk=>by
 have :=h (n+k);rwa[show(A.drop n).getD k 0=A.getD (n+k) 0 by simp]
theorem CY.take(z:CY A)(n:Nat):CY (A.take n):=λk=>by
 have :=z k;by_cases h:k<n
 ·rwa[show(A.take n).getD k 0=A.getD k 0 by simp[h]]
 ·rw[aj,aP (by rw[aJ];omega)]
  exact⟨by decide,by decide⟩
theorem CY.row(z:CY X)(p:Nat):CY (dZ X p):=λk=>by
 by_cases h:k<8
 ·rw[kH X p k h];exact z _
 ·rw[aj,aP (by rw[iG];omega)]
  exact⟨by decide,by decide⟩
theorem GQ (w:World)(g:Nat):Reads w (.slice none 0 0) g (dK []):=⟨none,0,rfl,aH _,by unfold maxLen;omega,λh=>absurd rfl h⟩
theorem I1 (hL:L.length=8)(zF:∀k,0<=L.getD k 0/\L.getD k 0<18446744073709551616)(h7:L.getD 7 0<9223372036854775808):
  Calls prog 213 #[b0,(aY L).toArray] w (qz w X L):=by
 obtain⟨W,h⟩:∃W,W=(w.alloc (.cells (aY L).toArray 195)).alloc (.cells (zs (List.replicate 13 0)).toArray 109):=⟨_,rfl⟩;have V:bh W w.heap.size (aY L).toArray 195 :=by
  rw[h];exact(bh.new w _ _).alloc _
 have ae:bh W (w.heap.size+1) (zs (List.replicate 13 0)).toArray 109 :=by
  have :=bh.new (w.alloc (.cells (aY L).toArray 195)) (zs (List.replicate 13 0)).toArray 109;have e:(w.alloc (.cells (aY L).toArray 195)).heap.size=w.heap.size+1:=by simp
  rw[e] at this;rw[h];exact this
 have cJ:ay [] w W:=by
  rw[h];exact((ay.refl _ _).alloc _).alloc _
 have c7:W.cell? ⟨w.heap.size,7,none⟩=some (.int .u64 (L.getD 7 0)):=by rw[V.cell,aF,dO (by omega)]
 rw[h] at c7;have ax:=pD;have aB:=sW w.heap.size;have hr:Reads W (.slice (some ⟨w.heap.size,2,none⟩) 6 6) w.heap.size (aY (L.drop 2)):=by
  have :=V.reads (o:=2) (n:=6) (c:=6) (by omega) (aH _) (by omega);rwa[aW (by rw[bM,hL];omega)] at this
 have IZ:=ar (NJ hr (by simp;omega) (λk=>by
  have :=zF (2+k);rwa[show(L.drop 2).getD k 0=L.getD (2+k) 0 by simp]))
 obtain⟨CQ,fI,ru⟩:=hh3 ae cJ h;have aA:¬(9223372036854775808:Int)<=L.getD 7 0:=by omega
 obtain⟨H7,HL⟩:=hh2 h7 hL;clear V ae cJ hr h zF hL h7;generalize Nr:L.getD 7 0=xi at *;have af:=ar Nr;clear Nr;generalize (aY L).toArray=ZL,ag:(zs (List.replicate 13 0)).toArray=Z0 at *;have jt:=ar ag;clear ag;go_in;go_wp2_with fail;rw[<-ru.out];refine IZ.out.mono ?_;rintro e w1 ⟨l,ok,rfl,U,h1,h2,z⟩;obtain⟨w2,aa,ah,J⟩:=bH (P:= prog) (ty:= 109) (cs:=zs l) (by rw[eO,U];exact mb) (bh.new w1 Z0 109) (by rw[<-jt.out];simp[eO,U]) (nC _);have av:=z.size;have ak:=CQ.out.lt;have Yy:bh w2 (w.heap.size+1) Z0 109 :=((CQ.out.keep z (by simp)).alloc _).keep J (by simp;omega);obtain⟨w3,ai,rU,ac⟩:=bH (P:= prog) (ty:= 109) (cs:=zs l) (by rw[eO,U];exact mb) Yy (by rw[<-jt.out];simp[eO,U]) (nC _);obtain⟨EI,jz,xw,rN⟩:=hh4 aa ai (fA (off:=0) ah U (λk hk=>by rw[bc,aF,gK (by omega)])) (fA (off:=0) rU U (λk hk=>by rw[bc,aF,gK (by omega)]));have Yz:(L.drop 2).length=6:=by rw[bM,HL.out]
 have HM:Hid (qz w X L (.returned (.tuple #[(zs l).toArray,(),ok])) w3):=by
  refine⟨l,_,w.heap.size,[],ok,rfl,U,l9.nil _ _,aH _,by simp,?_,λG=> .inl ⟨by rw[af.out];exact H7.out,rfl,by rw[<-Yz];exact h1 G⟩,λG l' cW hs=> ?_⟩
  ·exact(((fI.out.trans' z).alloc _).trans J (by intro x hx;simp at hx;omega)).trans ac (by intro x hx;rw[au] at hx;omega)
  ·have h3:=(h2 G).1
   rcases hs with ⟨-,-,g3⟩|⟨b',g1,-⟩
   ·rw[<-Yz,h3] at g3
    cases g3
   ·rw[af.out] at g1
    have :=H7.out;omega
 clear aa ah J Yy ai rU ac h1 h2 z av ak Yz;generalize az:w1.heap.size=g1 at *;go_wp2_with(with_reducible first|refine gS 109 EI.out ?_|refine gL 109 xw.out ?_|refine gS 109 jz.out ?_);exact aI (cH results213 rfl rN.out rfl rfl) rfl HM.out
theorem Lm (hL:L.length=8){bi:Int}(h7:L.getD 7 0=9223372036854775808+bi)(h0:0<=bi)(hb:bi=0\/256<=bi)(ae:L.getD 7 0<18446744073709551616):
  Calls prog 213 #[b0,(aY L).toArray] w (qz w X L):=by
 obtain⟨G,h⟩:∃G,G=(w.alloc (.cells (aY L).toArray 195)).alloc (.cells (zs (List.replicate 13 0)).toArray 109):=⟨_,rfl⟩;have W:bh G w.heap.size (aY L).toArray 195 :=by
  rw[h];exact(bh.new w _ _).alloc _
 have V:bh G (w.heap.size+1) (zs (List.replicate 13 0)).toArray 109 :=by
  have :=bh.new (w.alloc (.cells (aY L).toArray 195)) (zs (List.replicate 13 0)).toArray 109;have e:(w.alloc (.cells (aY L).toArray 195)).heap.size=w.heap.size+1:=by simp
  rw[e] at this;rw[h];exact this
 have cJ:ay [] w G:=by
  rw[h];exact((ay.refl _ _).alloc _).alloc _
 have c7:G.cell? ⟨w.heap.size,7,none⟩=some (.int .u64 (L.getD 7 0)):=by rw[W.cell,aF,dO (by omega)]
 rw[h] at c7;have ag:=pD;have ai:=sW w.heap.size;obtain⟨w2,z,aa,U⟩:=bH (P:= prog) (ty:= 109) (cs:=zs (List.replicate 13 0)) (by rw[eO];exact mb) V (by simp[eO]) (nC _);rw[h] at z;obtain⟨EI,xw⟩:=hh2 z (fA (off:=0) (l:=List.replicate 13 0) aa (by simp) (λk hk=>by rw[bc,aF,gK (by simpa using hk)]));have HM:Hid (qz w X L (.returned (.tuple #[(zs (List.replicate 13 0)).toArray,(),false])) w2):=by
  refine⟨List.replicate 13 0,_,w.heap.size,[],false,rfl,by simp,l9.nil _ _,aH _,by simp,?_,λac=>(by cases ac),λ_ l' cW hs=> ?_⟩
  ·exact cJ.trans U (by intro x hx;rw[au] at hx;omega)
  ·rcases hs with ⟨g1,-⟩|⟨b',g1,g2,g3,-⟩<;>omega
 have ah:(9223372036854775808:Int)<=L.getD 7 0:=by omega
 have af:L.getD 7 0-9223372036854775808=bi:=by omega
 have hw:IntKind.u64.wrap bi=bi:=nD h0 (by omega);clear W V cJ h hL h7 ae z aa U;generalize L.getD 7 0=xi,(aY L).toArray=ZL,(zs (List.replicate 13 0)).toArray=Z0 at *;by_cases J:bi=0
 ·subst J
  clear hb;go_in;go_wp2_with(first|(with_reducible refine gS 109 EI.out ?_));exact aI (cH results213 rfl xw.out rfl rfl) rfl HM.out
 ·have aj:=hb.resolve_left J
  clear hb;go_in;go_wp2_with(first|(with_reducible refine gS 109 EI.out ?_));exact aI (cH results213 rfl xw.out rfl rfl) rfl HM.out
theorem I2 (QA:eK w b gp B ps)(EM:∀k,0<=(az B ps).getD k 0/\(az B ps).getD k 0<18446744073709551616){L:List Int}(hL:L.length=8)(zF:∀k,0<=L.getD k 0/\L.getD k 0<18446744073709551616)
  {c:Nat} (h7:L.getD 7 0=9223372036854775808+(c:Int)) (aD:0<c) (hc:c<256):
  Calls prog 213 #[b,(aY L).toArray] w (qz w (az B ps) L):=by
 obtain⟨W0,G⟩:∃W0,W0=(w.alloc (.cells (aY L).toArray 195)).alloc (.cells (zs (List.replicate 13 0)).toArray 109):=⟨_,rfl⟩;have ac:bh W0 w.heap.size (aY L).toArray 195 :=by
  rw[G];exact(bh.new w _ _).alloc _
 have bf:bh W0 (w.heap.size+1) (zs (List.replicate 13 0)).toArray 109 :=by
  have :=bh.new (w.alloc (.cells (aY L).toArray 195)) (zs (List.replicate 13 0)).toArray 109;have e:(w.alloc (.cells (aY L).toArray 195)).heap.size=w.heap.size+1:=by simp
  rw[e] at this;rw[G];exact this
 have cJ:ay [] w W0:=by
  rw[G];exact((ay.refl _ _).alloc _).alloc _
 have c7:W0.cell? ⟨w.heap.size,7,none⟩=some (.int .u64 (L.getD 7 0)):=by rw[ac.cell,aF,dO (by omega)]
 rw[G] at c7;have bu:=pD;have bt:=lj;have bq:=sW w.heap.size;have ou:=ar (λwx=>ky (c:Int) wx);have Bl:Hid (iO (c:Int)=((1080+8*c:Nat):Int)):=by
  show _=_;rw[iO,aA];omega
 have nu:=ar (pI (QA.keep cJ (by simp) (by simp)) (1080+8*c) (by omega));have zC:Hid (∀k,0<=((L.drop 2).take 5++dZ (az B ps) (1080+8*c)).getD k 0/\((L.drop 2).take 5++dZ (az B ps) (1080+8*c)).getD k 0<18446744073709551616):=CY.app ((CY.drop zF 2).take 5) (CY.row EM _);have CZ:=iG (az B ps) (1080+8*c);have bz:(9223372036854775808:Int)<=L.getD 7 0:=by omega
 obtain⟨z,PC,bo,hw,bp,bC,bA⟩:∃z:Int,(c:Int)=z/\L.getD 7 0-9223372036854775808=z/\IntKind.u64.wrap z=z/\wrap64 z=z/\¬z=0/\¬256<=z:=⟨_,rfl,by omega,nD (by omega) (by omega),by unfold wrap64;omega,by omega,by omega⟩;have HC:Hid (L.getD 7 0=9223372036854775808+(c:Int)/\0<c/\c<256):=⟨h7,aD,hc⟩;obtain⟨qI,CQ,fI,ru,HL⟩:=hh5 ac bf cJ G hL;have Iz:Hid (((L.drop 2).take 5).length=5):=by show _=_;rw[aJ,bM,hL];rfl
 rw[PC] at ou Bl;generalize aR:dZ (az B ps) (1080+8*c)=RX at *;have aZ:=ar aR;clear ac bf cJ G hL zF EM QA h7 aR;generalize bn:((1080+8*c:Nat):Int)=pi,Nr:L.getD 7 0=xi at *;obtain⟨ax,Mg⟩:=hh2 Nr PC;clear Nr bn PC hc aD;generalize aL:(aY L).toArray=ZL at *;have Sw:=ar aL;clear aL;generalize ba:(zs (List.replicate 13 0)).toArray=Z0 at *;have jt:=ar ba;clear ba;generalize wC:(aY (List.replicate 8 0)).toArray=Z8 at *;have xJ:=ar wC;clear wC;go_in;go_wp2_with fail;refine C' (ou.out _) ?_;rw[Bl.out];go_wp2_with fail;rw[<-ru.out];refine Rr nu.out λw1 af=> ?_;obtain⟨U,W,U6,aQ⟩:=bH (P:= prog) (ty:= 195) (cs:=aY RX) (by rw[bB,CZ];exact jc) (bh.new w1 Z8 195) (by rw[<-xJ.out];simp[bB,CZ]) (fh _);have EI:=ar W;have aB:=af.size;have eV:ay [] W0 U:=(af.alloc (.cells Z8 195)).trans aQ (by intro x hx;rw[au] at hx;omega);obtain⟨ae,bD⟩:=hh2 eV U6;have ak:=qI.out.keep eV (by simp);have aM:Hid (Reads U (.slice (some ⟨w.heap.size,2,none⟩) 5 6) w.heap.size (aY ((L.drop 2).take 5))):=by
  rw[<-Sw.out] at ak;exact ak.reads (o:=2) (n:=5) (c:=6) (by rw[HL.out];omega) (by omega) (by omega)
 have aK:Hid (Reads U (.slice w1.heap.size 8 8) w1.heap.size (aY RX)):=by
  have :=bh.reads (o:=0) (n:=8) (c:=8) U6 (by rw[CZ];omega) (aH _) (by omega);rwa[jM,aW (by rw[CZ];exact aH _)] at this
 clear W U6 aQ eV af nu aB ak;generalize bv:w1.heap.size=g1 at *;have bw:=Gi w.heap.size;have br:=wG g1;go_wp2_with(first|(with_reducible refine gS 195 EI.out ?_));refine yf (S:=λwx=>ay [] U wx) (l:=[_,_]) (tl:=[_,_,_]) (by kernel_rfl) rfl (by kernel_rfl) (by kernel_rfl) (by kernel_rfl) (λd _ _ _ _ h=>by cases d<;>exact h) (ay.refl _ _).drew ?_;repeat (refine cT.cons ?_ (YieldsIf.val rfl ?h) ?_;(case h=>(intro wx hx;clear hx;go_simp;rfl));simp only[Act.put,ag,ah,ai])
 refine cT.done ?_;unfold gH;go_wp2_with fail;refine⟨((ay.refl _ _).drew).alloc _,?_⟩;unfold gH;have NK:Hid (∀wx,ay [] U wx->bh wx U.heap.size #[.slice (some ⟨w.heap.size,2,none⟩) 5 6,.slice g1 8 8] 71->Calls prog 222 #[.slice U.heap.size 2 2] wx (jN wx ((L.drop 2).take 5++RX))):=λwx hk hb=>by
  refine U5 hb ((aM.out).keep hk (by simp)) ((aK.out).keep hk (by simp)) Iz.out CZ
 have aV:bh ((U.alloc (.cells #[.slice (some ⟨w.heap.size,2,none⟩) 5 6,.slice g1 8 8] 71)).drew) U.heap.size #[.slice (some ⟨w.heap.size,2,none⟩) 5 6,.slice g1 8 8] 71 :=(bh.new U _ _).drew;have Qv:=ar aV;clear aV aM aK;go_wp2_with fail;refine(NK.out _ (((ay.refl _ _).alloc _).drew) Qv.out).mono ?_;rintro e J ⟨va,ga,rfl,JT,xp,aG⟩;have nE:ay [] U J:=(((ay.refl [] U).alloc (.cells #[.slice (some ⟨w.heap.size,2,none⟩) 5 6,.slice g1 8 8] 71)).drew).trans' aG;obtain⟨YA,aa⟩:=hh2 nE JT;clear JT xp aG nE Qv NK;go_wp2_with fail;refine⟨YA.out,?_⟩;unfold gH;go_wp2_with fail;refine⟨YA.out,?_⟩;unfold gH;have aT:Reads (J.alloc (.cells #[z] 3)) va ga (aY ((L.drop 2).take 5++RX)):=by
  by_cases h0:aY ((L.drop 2).take 5++RX)=[]
  ·exact absurd (cN List.length h0) (by rw[bB,aC,Iz.out,CZ];decide)
  ·exact aa.out.keep ((ay.refl [] J).alloc _) (by simp)
 have IZ:=ar (NJ aT (by rw[aC,Iz.out,CZ];omega) zC.out);obtain⟨av,cv,aS,-,-,-⟩:=fV aa.out;have QS:((L.drop 2).take 5++RX).length=13:=by rw[aC,Iz.out,CZ]
 rw[QS] at aS;have aP:=bh.new J #[z] 3;obtain⟨Nl,bb⟩:=hh2 aP QS;clear aT aP aa QS;subst aS;go_wp2_with fail;refine IZ.out.mono ?_;rintro e w4 ⟨l,ok,rfl,tz,h1,h2,V⟩;rw[bb.out] at h1 h2;obtain⟨w5,W,aN,kR⟩:=bH (P:= prog) (ty:= 109) (cs:=zs l) (by rw[eO,tz];exact mb) (bh.new w4 Z0 109) (by rw[<-jt.out];simp[eO,tz]) (nC _);have aB:=V.size;have bj:=YA.out.size;have bg:=ae.out.size;have bl:=CQ.out.lt;have bk:J.heap.size<(J.alloc (.cells #[z] 3)).heap.size:=Nl.out.lt;have Yy:bh w5 (w.heap.size+1) Z0 109 :=(((((CQ.out.keep ae.out (by simp)).keep YA.out (by simp)).alloc _).keep V (by simp)).alloc _).keep kR (by rw[au];omega);have aU:bh w5 J.heap.size #[z] 3 :=((Nl.out.keep V (by simp)).alloc _).keep kR (by rw[au];omega);obtain⟨w6,aO,rU,jW⟩:=bH (P:= prog) (ty:= 109) (cs:=zs l) (by rw[eO,tz];exact mb) Yy (by rw[<-jt.out];simp[eO,tz]) (nC _);have aX:bh w6 J.heap.size #[z] 3 :=aU.keep jW (by rw[au];omega);obtain⟨EI,jz,xw,rN⟩:=hh4 W aO (fA (off:=0) aN tz (λk hk=>by rw[bc,aF,gK (by omega)])) (fA (off:=0) rU tz (λk hk=>by rw[bc,aF,gK (by omega)]));have HM:Hid (qz w (az B ps) L (.returned (.tuple #[(zs l).toArray,.slice J.heap.size 1 1,ok])) w6):=by
  refine⟨l,_,J.heap.size,[c],ok,rfl,tz,⟨⟨rfl,.inr ⟨J.heap.size,1,#[z],rfl,aH _,aX,aH _,by unfold maxLen;omega,by simp,?_⟩⟩,λk hk=>by cases hk;rfl⟩,by omega,by simp,?_,λaj=> .inr ⟨c,by rw[ax.out];exact HC.out.1,HC.out.2.1,HC.out.2.2,rfl,by rw[aZ.out];exact h1 aj⟩,λaj l' cW hs=> ?_⟩
  ·rw[<-Mg.out]
   rfl
  ·refine(((fI.out.trans' ae.out).trans' YA.out).trans' ((((ay.refl [] J).alloc (.cells #[z] 3)).trans' V).alloc (.cells Z0 109))).trans kR (by intro x hx;rw[au] at hx;omega) |>.trans jW (by intro x hx;rw[au] at hx;omega)
  ·have h3:=(h2 aj).1
   have hc:=HC.out;rcases hs with ⟨g1,-⟩|⟨b',g1,g2,g3,-,g5⟩
   ·rw[ax.out] at g1
    omega
   ·rw[ax.out] at g1
    obtain rfl:b'=c:=by omega
    rw[aZ.out,h3] at g5;cases g5
 clear W aN kR Yy aO rU jW h1 h2 V aB bj bg bk bl aU aX;generalize bE:w4.heap.size=g4 at *;go_wp2_with(with_reducible first|refine gS 109 EI.out ?_|refine gL 109 xw.out ?_|refine gS 109 jz.out ?_);exact aI (cH results213 rfl rN.out rfl rfl) rfl HM.out
def oM (r:List Int):Nat:=if r.getD 1 0=0 then 0 else if r.getD 3 0=0 then 1 else if r.getD 5 0=0 then 2 else 3
theorem SQ (r:List Int):oM r<=3:=by
 unfold oM;split
 ·omega
 ·split
  ·omega
  ·split<;>omega
theorem JY{r:List Int}(V:k<=3)(h:∀j,j<k->r.getD (2*j+1) 0≠0)(J:k=3\/r.getD (2*k+1) 0=0):oM r=k:=by
 rcases (show k=0\/k=1\/k=2\/k=3 by omega) with rfl|rfl|rfl|rfl
 ·have z:r.getD 1 0=0:=J.resolve_left (by omega)
  unfold oM;rw[aB z]
 ·have z:r.getD 1 0≠0:=h 0 (by omega)
  have G:r.getD 3 0=0:=J.resolve_left (by omega);unfold oM;rw[aA z,aB G]
 ·have z:r.getD 1 0≠0:=h 0 (by omega)
  have G:r.getD 3 0≠0:=h 1 (by omega);have U:r.getD 5 0=0:=J.resolve_left (by omega);unfold oM;rw[aA z,aA G,aB U]
 ·have z:r.getD 1 0≠0:=h 0 (by omega)
  have G:r.getD 3 0≠0:=h 1 (by omega);have U:r.getD 5 0≠0:=h 2 (by omega);unfold oM;rw[aA z,aA G,aA U]
def kI (r:List Int):List Int:=(r.drop 1).take (2*oM r)
theorem QT (b c:Nat)(z:1<=c)(h:c<=7)(w:World):(Instr.sliceAt 195 (.pointer (some ⟨b,0,none⟩)) (some (.int .i64 1)) (some (.int .i64 (c:Int))) none).run prog w= .ok (.slice (some ⟨b,1,none⟩) (c-1) 7) w:=by
 rcases (show c=1\/c=2\/c=3\/c=4\/c=5\/c=6\/c=7 by omega) with rfl|rfl|rfl|rfl|rfl|rfl|rfl
 all_goals (show Sem.run _ _ _=_;kernel_rfl)
theorem Lp (r:List Int)(xK:r.length=8)(aa:∀k,0<=r.getD k 0/\r.getD k 0<18446744073709551616)(w:World):
  Calls prog 224 #[(aY r).toArray] w (oX w (kI r) (oM r)):=by
 have J:=bh.new w (aY r).toArray 195;obtain⟨W0,U⟩:∃W0,W0=w.alloc (.cells (aY r).toArray 195):=⟨_,rfl⟩;rw[<-U] at J;have qa:=ar J;have fI:Hid (ay [] w W0):=by
  rw[U];exact(ay.refl [] w).alloc _
 obtain⟨ru,Gm⟩:=hh2 U xK;have EN:Hid (∀k,k<=3->(∀j,j<k->r.getD (2*j+1) 0≠0)->(k=3\/r.getD (2*k+1) 0=0)->∀n,n=2*k->Calls prog 210 #[.slice (some ⟨w.heap.size,1,none⟩) n 7] W0 λe w'=>oX w (kI r) (oM r) e w'):=λk hk h he n W=>by
  have hc:=JY hk h he;have EK:=J.reads (o:=1) (n:=n) (c:=7) (by omega) (by omega) (by omega);have Mi:((r.drop 1).take n).length=n:=by rw[aJ,bM];omega
  have h6:∀j,0<=((r.drop 1).take n).getD j 0/\((r.drop 1).take n).getD j 0<18446744073709551616:=λj=>by
   by_cases hj:j<n
   ·have e0:((r.drop 1).take n).getD j 0=r.getD (1+j) 0:=by simp[hj,Nat.add_comm]
    rw[e0];exact aa _
   ·rw[aj,aP (by omega)]
    simp
  refine(xm EK (by omega) k (by omega) h6).mono λe w' hp=> ?_
  have e1:kI r=(r.drop 1).take n:=by rw[kI,hc,W]
  rw[e1,hc];have hw:=fI.out.size;rcases hp with ⟨g,a1,z,G,a4,V⟩|⟨a1,z,G⟩
  ·exact .inl ⟨g,a1,z,by omega,a4,fI.out.trans' V⟩
  ·exact .inr ⟨a1,z,fI.out.trans' G⟩
 have XT:Hid (∀j,j<8->W0.cell? ⟨w.heap.size,j,none⟩=some (.int .u64 (r.getD j 0))):=λj hj=>by
  rw[J.cell,aF,dO (by omega)]
 clear J U xK aa qa Gm;generalize (aY r).toArray=Z at *;go_in;go_wp2_with fail;rw[<-ru.out];go_loopg [4] 3 (λgh s4 wx=>∃k b:Nat,k+gh=3/\b=2*k+1/\s4= .int .i64 (b:Int)/\Hid (∀j,j<k->r.getD (2*j+1) 0≠0)/\wx=W0)
 case atStart=>exact⟨0,1,by omega,by omega,rfl,λj hj=>by omega,rfl⟩
 case round=>
  obtain⟨k,b,hk,hb,rfl,HP,rfl⟩:=hrel;have J:(0:Int)<=(b:Int):=by omega
  have ag:(1:Int)<=(b:Int):=by omega
  have ac:=QT w.heap.size b (by omega) (by omega);obtain⟨n,W⟩:∃n,n=2*k:=⟨_,rfl⟩;rw[show b-1=n by omega] at ac;by_cases h7:b<7
  ·have ae:(b:Int)<7:=by omega
   have hc:=XT.out b (by omega);by_cases hx:r.getD b 0=0
   ·have HE:=ar (EN.out k (by omega) HP.out (.inr (by rw[<-hb];exact hx)) n W)
    rw[hx] at hc;clear hx hk W hb;go_wp2_with fail;refine HE.out.mono ?_;rintro e w' hp;rcases hp with ⟨g,rfl,z,G,a4,V⟩|⟨rfl,z,G⟩
    ·have HF:Hid (oX w (kI r) (oM r) (.returned (.tuple #[.slice g (oM r) (oM r),true])) w'):= .inl ⟨g,rfl,z,G,a4,V⟩
     clear z G a4 V;go_wp2_with fail;go_ret2;exact HF.out
    ·have HF:Hid (oX w (kI r) (oM r) (.returned (.tuple #[(),false])) w'):= .inr ⟨rfl,z,G⟩
     clear z G;go_wp2_with fail;go_ret2;exact HF.out
   ·have HN:Hid (∀j,j<k+1->r.getD (2*j+1) 0≠0):=λj hj=>by
     by_cases e:j=k
     ·subst e;rw[<-hb];exact hx
     ·exact HP.out j (by omega)
    have af:(r.getD b 0 != 0)=true:=bne_iff_ne.2 hx;clear hx;generalize r.getD b 0=x at *;have DX:Hid (b=2*k+1/\k+gk=3):=⟨hb,hk⟩;clear ac hb hk W;go_wp2_with fail;go_roundg (gk-1);case measure=>have :=DX.out;omega
    case rel=>exact⟨k+1,b+2,by have :=DX.out;omega,by have :=DX.out;omega,by go_num,HN.out,rfl⟩
  ·have ae:¬(b:Int)<7:=by omega
   have HE:=ar (EN.out k (by omega) HP.out (.inl (by omega)) n W);clear hk W hb;go_wp2_with fail;refine HE.out.mono ?_;rintro e w' hp;rcases hp with ⟨g,rfl,z,G,a4,V⟩|⟨rfl,z,G⟩
   ·have HF:Hid (oX w (kI r) (oM r) (.returned (.tuple #[.slice g (oM r) (oM r),true])) w'):= .inl ⟨g,rfl,z,G,a4,V⟩
    clear z G a4 V;go_wp2_with fail;go_ret2;exact HF.out
   ·have HF:Hid (oX w (kI r) (oM r) (.returned (.tuple #[(),false])) w'):= .inr ⟨rfl,z,G⟩
    clear z G;go_wp2_with fail;go_ret2;exact HF.out
end
section
open Go.Shelf
variable{A B L X l:List Int}{own:List Nat}{w:World}{T V b b0 gp k n sz:Nat}{ps:List (Int×Int)}{v:Value}{E:List (ByteArray×Int)}{xs:List Value}
def D8:Go.Shelf.Ren:=⟨λ|6=> 225|15=> 235|14=> 234|28=> 246|29=> 247|20=> 238|21=> 239|22=> 240|23=> 241|24=> 242|25=> 243|26=> 244|27=> 245|46=> 248|47=> 249|48=> 250|49=> 251|50=> 252|57=> 253|n=>n,λ|22=> 32|24=> 87|25=> 277|3=> 3|39=> 176|0=> 0|53=> 177|55=> 56|4=> 4|46=> 291|45=> 290|50=> 48|5=> 5|9=> 9|66=> 297|70=> 301|76=> 303|77=> 304|n=>n,λ|n=>n⟩
theorem SR:Go.Proofs.SlLaysF0.n6 prog D8:={
 mixed:=by kernel_rfl
 f6:=⟨Tryz.f225.name,by decide,func225.trans (cN some (by kernel_rfl))⟩
 f14:=⟨Tryz.f234.name,by decide,func234.trans (cN some (by kernel_rfl))⟩
 f15:= func235.trans (cN some (by kernel_rfl))
 f20:=⟨Tryz.f238.name,by decide,func238.trans (cN some (by kernel_rfl))⟩
 f21:=⟨Tryz.f239.name,by decide,func239.trans (cN some (by kernel_rfl))⟩
 f22:=⟨Tryz.f240.name,by decide,func240.trans (cN some (by kernel_rfl))⟩
 f23:=⟨Tryz.f241.name,by decide,func241.trans (cN some (by kernel_rfl))⟩
 f24:=⟨Tryz.f242.name,by decide,func242.trans (cN some (by kernel_rfl))⟩
 f25:=⟨Tryz.f243.name,by decide,func243.trans (cN some (by kernel_rfl))⟩
 f26:=⟨Tryz.f244.name,by decide,func244.trans (cN some (by kernel_rfl))⟩
 f27:=⟨Tryz.f245.name,by decide,func245.trans (cN some (by kernel_rfl))⟩
 f28:= func246.trans (cN some (by kernel_rfl))
 f29:= func247.trans (cN some (by kernel_rfl))
 f46:=⟨Tryz.f248.name,by decide,func248.trans (cN some (by kernel_rfl))⟩
 f47:= func249.trans (cN some (by kernel_rfl))
 f48:= func250.trans (cN some (by kernel_rfl))
 f49:=⟨Tryz.f251.name,by decide,func251.trans (cN some (by kernel_rfl))⟩
 f50:=⟨Tryz.f252.name,by decide,func252.trans (cN some (by kernel_rfl))⟩
 f57:=⟨Tryz.f253.name,by decide,func253.trans (cN some (by kernel_rfl))⟩
 t0:= underlying0
 a0:= Tryz.isAgg0
 z0:= Tryz.sizeOf0
 v0:= Tryz.zeroValue0
 t3:= underlying3
 a3:= Tryz.isAgg3
 z3:= Tryz.sizeOf3
 v3:= Tryz.zeroValue3
 t4:= underlying4
 a4:= Tryz.isAgg4
 z4:= Tryz.sizeOf4
 v4:= Tryz.zeroValue4
 t5:= underlying5
 a5:= Tryz.isAgg5
 z5:= Tryz.sizeOf5
 v5:= Tryz.zeroValue5
 t9:= underlying9
 a9:= Tryz.isAgg9
 z9:= Tryz.sizeOf9
 v9:= Tryz.zeroValue9
 t22:= underlying32
 a22:= Tryz.isAgg32
 z22:= Tryz.sizeOf32
 v22:= Tryz.zeroValue32
 t25:= underlying277
 a25:= Tryz.isAgg277
 z25:= Tryz.sizeOf277
 v25:= Tryz.zeroValue277
 t39:= underlying176
 a39:= Tryz.isAgg176
 z39:= Tryz.sizeOf176
 v39:= Tryz.zeroValue176
 t45:= underlying290
 a45:= Tryz.isAgg290
 z45:= Tryz.sizeOf290
 v45:= Tryz.zeroValue290
 t46:= underlying291
 a46:= Tryz.isAgg291
 z46:= Tryz.sizeOf291
 v46:= Tryz.zeroValue291
 t50:= underlying48
 a50:= Tryz.isAgg48
 z50:= Tryz.sizeOf48
 v50:= Tryz.zeroValue48
 t53:= underlying177
 a53:= Tryz.isAgg177
 z53:= Tryz.sizeOf177
 v53:= Tryz.zeroValue177
 t55:= underlying56
 a55:= Tryz.isAgg56
 z55:= Tryz.sizeOf56
 v55:= Tryz.zeroValue56
 t66:= underlying297
 a66:= Tryz.isAgg297
 z66:= Tryz.sizeOf297
 v66:= Tryz.zeroValue297
 t70:= underlying301
 a70:= Tryz.isAgg301
 z70:= Tryz.sizeOf301
 v70:= Tryz.zeroValue301
 t76:= underlying303
 a76:= Tryz.isAgg303
 z76:= Tryz.sizeOf303
 v76:= Tryz.zeroValue303
 t77:= underlying304
 a77:= Tryz.isAgg304
 z77:= Tryz.sizeOf304
 v77:= Tryz.zeroValue304 }
end
section
open Go.RowKit
variable{A B L X l:List Int}{own:List Nat}{w:World}{T V b b0 gp k n sz:Nat}{ps:List (Int×Int)}{v:Value}{E:List (ByteArray×Int)}{xs:List Value}
def Bz (a b:ByteArray):Int:=if Op.bytesLess a.toList b.toList=true then -1 else if (a.toList==b.toList)=true then 0 else 1
theorem vG (a:ByteArray)(w:World):Calls prog 236 #[.string a] w λe w'=>e=false/\w=w':=by
 go_in;go_wp2_with fail;go_ret;exact⟨by simp,rfl⟩
theorem QU (a b:ByteArray)(w:World):Calls prog 227 #[.string a,.string b] w λe w'=>e=(Bz a b:Int)/\w=w':=by
 by_cases z:Op.bytesLess a.toList b.toList=true
 ·rw[show Bz a b= -1 from aB z]
  go_in;go_wp2_with fail;refine C' (vG _ _) ?_;go_wp2_with fail;refine C' (vG _ _) ?_;go_wp2_with fail;go_ret;exact⟨rfl,rfl⟩
 ·by_cases h:(a.toList==b.toList)=true
  ·rw[show Bz a b=0 by unfold Bz;rw[aA z,aB h]]
   go_in;go_wp2_with fail;refine C' (vG _ _) ?_;go_wp2_with fail;refine C' (vG _ _) ?_;go_wp2_with fail;go_ret;exact⟨rfl,rfl⟩
  ·rw[show Bz a b=1 by unfold Bz;rw[aA z,aA h]]
   have G:(a.toList==b.toList)=false:=by simpa using h
   go_in;go_wp2_with fail;refine C' (vG _ _) ?_;go_wp2_with fail;refine C' (vG _ _) ?_;go_wp2_with fail;go_ret;exact⟨rfl,rfl⟩
theorem U7 (a b:ByteArray)(x y:Int)(w:World):Calls prog 226 #[.agg #[.string a,x],.agg #[.string b,y]] w λe w'=>e=(Bz a b:Int)/\∃q z,w'=Go.Sort.grow (w.drewN q) z:=by
 have h:=λG=>QU a b G
 generalize Bz a b=r at h ⊢;go_in;go_wp2_with fail;refine C' (h _) ?_;go_wp2_with fail;go_ret;exact⟨rfl,0,_,by rw[Go.Sort.alloc_eq_grow,Go.Sort.alloc_eq_grow,Go.Sort.grow_grow];rfl⟩
theorem ltN (x y:ByteArray×Int):Go.Proofs.ltOf (λa b:ByteArray×Int=>Bz a.1 b.1) x y=Op.bytesLess x.1.toList y.1.toList:=by
 show decide (Bz x.1 y.1<0)=_;unfold Bz;cases h:Op.bytesLess x.1.toList y.1.toList with
 |true=>rw[aB rfl];rfl
 |false=>
  rw[aA (by decide)];by_cases z:(x.1.toList==y.1.toList)=true
  ·rw[aB z];rfl
  ·rw[aA z];rfl
theorem aiY:Go.Sort.SWO (Go.Proofs.ltOf λa b:ByteArray×Int=>Bz a.1 b.1) where
 irrefl x:=by rw[ltN];exact o6 _
 trans x y z h1 h2:=by rw[ltN] at *;exact oL _ _ _ h1 h2
 ntrans x y z h1 h2:=by
  rw[ltN] at *;by_cases e:y.1.toList=z.1.toList
  ·rw[<-e];exact h1
  ·have h3:=tu _ _ h2 e
   cases h4:Op.bytesLess x.1.toList z.1.toList with
   |false=>rfl
   |true=>
    have h5:=oL _ _ _ h4 h3;rw[h1] at h5;cases h5
end
section
open Go.RowKit Go.Shelf Go.Sort
variable{A B L X l:List Int}{own:List Nat}{w:World}{T V b b0 gp k n sz:Nat}{ps:List (Int×Int)}{v:Value}{E:List (ByteArray×Int)}{xs:List Value}
theorem insert_nil(w:World)(G:Value):Calls prog 238 #[(),(0:Int),(0:Int),G] w λe w'=>e= .returned (.tuple #[])/\w=w':=by
 go_in;go_wp2_with fail;go_loopg [8] 0 (λh s8 z=>h=0/\s8= .int .i64 1/\w=z)
 case atStart=>exact⟨rfl,rfl,rfl⟩
 case round=>
  obtain⟨-,rfl,rfl⟩:=hrel;go_wp2_with fail;go_end0;exact⟨rfl,rfl⟩
theorem abG (w:World)(G:Value):Calls prog 234 #[(),(0:Int),(0:Int),(0:Int),G] w λe w'=>e= .returned (.tuple #[])/\w=w':=by
 go_in;go_wp2_with fail;go_loopg [1,2,3] 0 (λh s1 s2 s3 z=>h=0/\s1= .int .i64 0/\s2= .int .i64 0/\s3= .int .i64 0/\w=z)
 case atStart=>exact⟨rfl,rfl,rfl,rfl,rfl⟩
 case round=>
  obtain⟨-,rfl,rfl,rfl,rfl⟩:=hrel;go_wp2_with fail;refine C' (insert_nil _ _) ?_;go_wp2_with fail;refine aI (results_none rfl _ _ _) rfl ?_;exact⟨rfl,rfl⟩
theorem YB (w:World)(z:Value):Calls prog 225 #[(),z] w λe w'=>e= .returned (.tuple #[])/\w=w':=by
 have h:Calls prog 235 #[.int .u64 0] w λe w'=>e= .returned (.int .i64 (Lib.bitLen 0:Nat))/\w'=w:=Any.bits_Len (SlLaysF0.n15.bits (P:= prog) (ρ:=D8) { SR with }) 0 w (by omega) (by omega)
 rw[show Lib.bitLen 0=0 from rfl] at h;go_in;go_wp2_with fail;refine C' (h.mono λ_ _ h=>⟨h.1,h.2.symm⟩) ?_;go_wp2_with fail;refine C' (abG _ _) ?_;go_wp2_with fail;go_end0;exact⟨rfl,rfl⟩
def Lq (p:ByteArray×Int):List Value:=[.string p.1,.int .i64 p.2]
theorem JZ (E:List (ByteArray×Int))(t:Nat)(h:t<E.length*2):(fc E)[t]? =some (flatK Lq 2 E.toArray)[t]! :=by
 have G:t/2<E.length:=by omega
 rw[get_flatK _ _ _ _ (by simpa using h)];have U:E.toArray[t/2]! =(eX E (t/2),jq E (t/2)):=by
  rw[getElem!_pos _ _ (by simpa using G)];simp[eX,jq,G]
 rw[U];have z:=ql E (t/2) G;rcases (show t%2=0\/t%2=1 by omega) with J|J
 ·rw[show t/2*2=t by omega] at z
  rw[J,z.1];rfl
 ·rw[show t/2*2+1=t by omega] at z
  rw[J,z.2];rfl
theorem YC (p q:ByteArray×Int):ltOf (λa b:ByteArray×Int=>Bz a.1 b.1) p q=Op.bytesLess p.1.toList q.1.toList:=ltN p q
theorem NL (h:w.ownsRow V 87 2 v E.length (fc E))(aF:E.length<=10000):
  Calls prog 225 #[v,.func (.func 226) #[] #[]] w λe w'=>e= .returned (.tuple #[])/\∃E',E'.Perm E/\
   (∀i j,i<j->j<E'.length->Op.bytesLess (eX E' j).toList (eX E' i).toList=false)/\w'.ownsRow V 87 2 v E'.length (fc E')/\∃l,ay l w w'/\∀k,k∈l->v.ownBlock=some k:=by
 obtain⟨hl,h⟩:=h;rcases h with ⟨rfl,hn⟩|⟨g,cap,U,rfl,hg,hh,ac,ae,ak,aC⟩
 ·have hE:E=[]:=bo hn
  subst hE;refine(YB w _).mono λe w' he=>⟨he.1,[],List.Perm.refl _,λi j _ hj=>by simp at hj,he.2▸⟨rfl,.inl ⟨rfl,rfl⟩⟩,[],he.2▸ay.refl _ _,λk J=>by cases J⟩
 ·have W:∀t,t<E.length*2->w.cell? ⟨g,t,none⟩=some (flatK Lq 2 E.toArray)[t]! :=λt ht=>by
   have hb:bh w g U 87 :=hh;rw[hb.cell,<-JZ E t ht,<-aC,ij ht,dG]
  have hH:HoldsK Lq 2 w g 0 E.toArray:=λj hj=>by
   rw[size_flatK] at hj;rw[bc];exact⟨W j (by simpa using hj),bh.frozen (c:=U) (T:= 87) hh j⟩
  have hs:=AnyQ.slices_SortFunc SR 2 (λw=>by kernel_rfl) (λw=>by kernel_rfl) Lq (λ_=>rfl) (λx u hu=>by
   simp only[Lq,aL,aK,bC] at hu;rcases hu with rfl|rfl<;>rfl) (λa b:ByteArray×Int=>Bz a.1 b.1) aiY 226 #[] g 0 cap E.toArray w (enters_of func226 (by kernel_rfl) rfl) (λm os dk _ x y=>U7 x.1 y.1 x.2 y.2 _) hH (Array.getElem?_eq_some_iff.1 hh).1 (by simp;omega)
  refine Rr (show Calls _ _ _ _ _ from hs) ?_;rintro w' ⟨z,m,os,hp,ah,rfl⟩;obtain⟨ag,-,G⟩:=hp;have aa:z.size=E.length:=by simpa using ag
  have ax:z.extract 0 E.toArray.size=z:=by rw[<-ag];exact Array.extract_size
  have az:E.toArray.extract 0 E.toArray.size=E.toArray:=Array.extract_size;rw[ax,az] at G;have aD:=(Array.getElem?_eq_some_iff.1 hh).1;have af:(sortWorldK Lq 2 w g 0 m z os).heap[g]? =some (.cells (putCells id 0 (flatK Lq 2 z) U) 87 (0,0)):=by
   show((w.heap.modify g _)++os)[g]? =_;rw[Array.getElem?_append_left (by rw[Array.size_modify];exact aD),Array.getElem?_modify,aB rfl,hh];rfl
  have o7:ay [g] w (sortWorldK Lq 2 w g 0 m z os):=by
   refine⟨rfl,rfl,rfl,?_,λk J ai=> ?_⟩
   ·show w.heap.size<=((w.heap.modify g _)++os).size
    rw[Array.size_append,Array.size_modify];omega
   ·show((w.heap.modify g _)++os)[k]? =_
    rw[Array.getElem?_append_left (by rw[Array.size_modify];exact J),Array.getElem?_modify,aA (λe=>ai (by rw[<-e];simp))]
  have av:(flatK Lq 2 z).size=E.length*2:=by rw[size_flatK,aa]
  have Ua:z.toList.length=E.length:=by rw[dL,aa]
  refine⟨rfl,z.toList,G,λi j ar hj=> ?_,⟨by rw[lT],.inr ⟨g,cap,_,by rw[Ua],hg,af,by rw[Ua];exact ac,ae,by simp[putCells,ak],?_⟩⟩,[g],o7,λk J=>by rw[au] at J;rw[J];rfl⟩
  ·have h1:=ah i j (fC _) ar (by rw[bN];omega)
   rw[YC] at h1;have e:∀k:Nat,k<z.size->z[k]! =(eX z.toList k,jq z.toList k):=λk J=>by
    rw[getElem!_pos z k J];simp[eX,jq,J]
   rw[e j (by omega),e i (by omega)] at h1;exact h1
  ·apply cD
   intro t;rw[Ua];by_cases ht:t<E.length*2
   ·rw[ij ht,JZ z.toList t (by rw[Ua];exact ht)]
    have hc:t<U.size:=by omega
    simp only[putCells,dG,Array.getElem?_mapIdx,fC,true_and,bc,Nat.sub_zero,Array.toArray_toList];rw[Array.getElem?_eq_getElem hc,fT,av,aB ht];rfl
   ·rw[aP (by rw[aJ];omega),aP (by rw[lT,Ua];omega)]
end
section
open Go.RowKit
variable{A B L X l:List Int}{own:List Nat}{w:World}{T V b b0 gp k n sz:Nat}{ps:List (Int×Int)}{v:Value}{E:List (ByteArray×Int)}{xs:List Value}
instance U8 (L:List Int) (n:Nat):Decidable (qJ L n):=inferInstanceAs (Decidable (∀k,k<n->_))
def yo (X:List Int) (b:Nat):List (ByteArray×Int):=mJ (kI (dZ X (1080+8*b))) (oM (dZ X (1080+8*b)))
def J0 (X:List Int) (b:Nat):Prop:=qJ (kI (dZ X (1080+8*b))) (oM (dZ X (1080+8*b)))
instance (X:List Int) (b:Nat):Decidable (J0 X b):=U8 _ _
def mD (X:List Int):Nat->Int->List Nat->List (ByteArray×Int)->Option (List Nat×List (ByteArray×Int))
 |0,_,_,_=>none
 |n+1,b,own,E=>if b=0 then some (own,E) else if 256<=b\/own.length=24 then none else
   if J0 X b.toNat then mD X n (X.getD (1080+8*b.toNat) 0) (own++[b.toNat]) (E++yo X b.toNat) else none
def tB (X L:List Int):Nat->Option (List Nat×List (ByteArray×Int))
 |0=>some ([],[])
 |q+1=>(tB X L q).bind λr=>mD X (25-r.1.length) (L.getD (2+q) 0) r.1 r.2
def YD (X L:List Int):Option (List Nat×List (ByteArray×Int)):=tB X L 4
theorem NM (h:tB X L k=none):∀{n:Nat},k<=n->tB X L n=none:=by
 intro n z;induction z with
 |refl=>exact h
 |step _ ih=>rw[tB,ih];rfl
structure uI (own:List Nat) (E:List (ByteArray×Int)):Prop where
 len:own.length<=24
 num:∀c,c∈own->0<c/\c<256
 ents:E.length<=3*own.length
 size:∀p,p∈E->p.1.size<=7
theorem YE (X:List Int)(b:Nat):(yo X b).length<=3:=by rw[yo,ko];exact SQ _
theorem U9 (X:List Int)(b:Nat):∀p,p∈yo X b->p.1.size<=7:=by
 intro p h;unfold yo at h;obtain⟨k,z,rfl⟩:=bY h;rw[zQ _ _ k (by rwa[ko] at z)];exact CH _
theorem uI.step(h:uI own E)(X:List Int){b:Nat}(W:0<b)(V:b<256)(U:own.length<24):uI (own++[b]) (E++yo X b):=by
 have :=YE X b;have :=h.ents;refine⟨by simp;omega,λc J=> ?_,by simp;omega,λp G=> ?_⟩
 ·rcases aT.1 J with z|z
  ·exact h.num c z
  ·rw[au] at z;omega
 ·rcases aT.1 G with z|z
  ·exact h.size p z
  ·exact U9 X b p z
theorem uI.nil:uI [] []:=⟨by simp,λc h=>by simp at h,by simp,λp h=>by simp at h⟩
def y8 (w:World) (X L:List Int) (e:Ending) (w':World):Prop:=
 (∃own E h U z J G,e= .returned (.tuple #[U,J,true])/\YD X L=some (own,E)/\uI own E/\h.Perm E/\(∀i j,i<j->j<h.length->Op.bytesLess (eX h j).toList (eX h i).toList=false)/\
  bD w' U z h/\w.heap.size<=z/\l9 w' J G own/\w.heap.size<=G/\ay [] w w')\/
 (e= .returned (.tuple #[(),(),false])/\YD X L=none/\ay [] w w')
theorem aeh (b:Nat)(w:World):(Instr.sliceAt 195 (.pointer (some ⟨b,0,none⟩)) (some (.int .i64 2)) (some (.int .i64 6)) none).run prog w= .ok (.slice (some ⟨b,2,none⟩) 4 6) w:=by show Sem.run _ _ _=_;kernel_rfl
structure GR (w wx:World) (v7 v8:Value) (own:List Nat) (E:List (ByteArray×Int)):Prop where
 ents:wx.ownsRow (w.heap.size+1) 87 2 v7 E.length (fc E)
 nums:wx.ownsRow (w.heap.size+1) 3 1 v8 own.length (dK own)
 keep:ay [] w wx
 ok:uI own E
theorem Aw{b1 b2 T1 z1 z2 n1 n2:Nat}{v1 v2:Value}{U G:List Value}(h1:w.ownsRow b1 T1 z1 v1 n1 U)(h2:w.ownsRow b2 V z2 v2 n2 G)(hT:T1≠V):∀g,v1.ownBlock=some g->v2.ownBlock≠some g:=by
 intro g e1 e2;obtain⟨-,h1⟩:=h1;obtain⟨-,h2⟩:=h2;rcases h1 with ⟨rfl,-⟩|⟨g1,c1,J,rfl,-,ac,-⟩
 ·cases e1
 ·rcases h2 with ⟨rfl,-⟩|⟨g2,c2,aa,rfl,-,z,-⟩
  ·cases e2
  ·cases e1
   cases e2;have W:w.heap[g1]? =some (.cells J T1 (0,0)):=ac;have h:w.heap[g1]? =some (.cells aa V (0,0)):=z;rw[W] at h;cases h;exact hT rfl
theorem zW{w':World}{z:Nat}{row:Option Nat}(h:w.ownsRow z T sz v n xs)(hg:w.grownBy w' row)(W:∀g,v.ownBlock=some g->row≠some g):w'.ownsRow z T sz v n xs:=by
 obtain⟨h0,h1⟩:=h;refine⟨h0,?_⟩;rcases h1 with ⟨G,J⟩|⟨U,cap,V,G,J,hh,e3⟩
 ·exact .inl ⟨G,J⟩
 ·refine .inr ⟨U,cap,V,G,J,?_,e3⟩
  rw[<-hh];exact hg.block U (Array.getElem?_eq_some_iff.1 hh).1 λe4=>W U (by rw[G];rfl) e4.symm
theorem GR.keeps{J U:World}{G V:Value}(h:GR w J G V own E)(z:ay [] J U):GR w U G V own E:=
 ⟨eo h.ents z (by simp),eo h.nums z (by simp),h.keep.trans' z,h.ok⟩
theorem fp.cellsA{g cap:Nat}(h:fp w (.slice g n cap) g T sz n xs):n≠0->∃z,some (⟨g,0,none⟩:Addr)=some z/\∀j u,xs[j]? =some u->w.cell? (z.add j)=some u:=λU=>by
 obtain⟨-,-,V,-⟩:=h.cell U;refine⟨_,rfl,λj u J=> ?_⟩;have G:j<xs.length:=(List.getElem?_eq_some_iff.1 J).1;rw[h.len] at G;rw[add_plain,bc,V j G,J]
theorem QV (QA:eK w b gp B ps)(EM:CY (az B ps)){L:List Int}(hL:L.length=8)(zF:CY L):
  Calls prog 214 #[b,(aY L).toArray] w (y8 w (az B ps) L):=by
 obtain⟨ie,bw,bL,bI,bM⟩:=dc Tryz.info_entry;obtain⟨ii,bK,bQ,bC,bE⟩:=dc Tryz.info_int;have ak:=bh.new w (aY L).toArray 195;obtain⟨W0,ah⟩:∃W0,W0=w.alloc (.cells (aY L).toArray 195):=⟨_,rfl⟩;rw[<-ah] at ak;have cJ:ay [] w W0:=by
  rw[ah];exact(ay.refl _ _).alloc _
 have b8:W0.heap.size=w.heap.size+1:=by rw[ah];simp
 obtain⟨ru,qI,vZ,Va⟩:=hh4 ah ak QA EM;have U:Hid (GR w W0 (.slice none 0 0) (.slice none 0 0) [] []):=⟨⟨rfl,.inl ⟨rfl,rfl⟩⟩,⟨rfl,.inl ⟨rfl,rfl⟩⟩,cJ,uI.nil⟩;have HC:Hid (∀q wx,q<4->ay [] W0 wx->wx.cell? ⟨w.heap.size,2+q,none⟩=some (.int .u64 (L.getD (2+q) 0))):=λq wx hq hk=>by rw[(ak.keep hk (by simp)).cell,aF,dO (by omega)]
 have bR:=ar zF;have bX:=aeh w.heap.size;clear ak cJ ah QA EM hL zF;generalize bk:az B ps=X at *;have SS:=ar bk;clear bk;generalize (aY L).toArray=ZL at *;go_in;go_wp2_with fail;rw[<-ru.out];go_loopg [7,8,17] 4 (λgh s7 s8 s17 wx=>∃(q:Nat) (own:List Nat) (E:List (ByteArray×Int)),q+gh=4/\s17= .int .i64 (q:Int)/\Hid (tB X L q=some (own,E)/\GR w wx s7 s8 own E/\ay [] W0 wx))
 case atStart=>exact⟨0,[],[],rfl,rfl,rfl,U.out,ay.refl _ _⟩
 case round=>
  clear U;obtain⟨q,own,E,hq,rfl,HP⟩:=hrel;obtain⟨av,hR,kp⟩:=HP.out;cases gk with
  |zero=>
   obtain rfl:q=4:=by omega
   obtain⟨bg,HR,U⟩:=hh3 (NL hR.ents (by have :=hR.ok.ents;have :=hR.ok.len;omega)) hR av;clear av hR kp HP;go_wp2_with fail;refine Rr bg.out ?_;rintro w1 ⟨J,ag,aG,aI,l,aK,hl⟩;have HF:Hid (y8 w X L (.returned (.tuple #[u7,u8,true])) w1):=by
    have aa:w1.ownsRow (w.heap.size+1) 3 1 u8 own.length (dK own):=eo HR.out.nums aK λk hk hm=>Aw HR.out.ents HR.out.nums (by decide) k (hl k hm) hk
    obtain⟨ge,aX,aN⟩:=fp.of_row aI;obtain⟨go,bS,cj⟩:=l9.of_row aa;have bO:ay [] w w1:=HR.out.keep.trans aK λk hk=> .inr (by have :=dP HR.out.ents k (hl k hk);omega)
    have he:∃aD,bD w1 u7 aD J/\w.heap.size<=aD:=by
     by_cases h0:J.length=0
     ·exact⟨w.heap.size,(aX.ereads rfl).anyG h0 _,aH _⟩
     ·exact⟨ge,aX.ereads rfl,by have :=(aN h0).1;omega⟩
    have ho:∃aj,l9 w1 u8 aj own/\w.heap.size<=aj:=⟨go,bS,by omega⟩;obtain⟨aD,h1,h2⟩:=he;obtain⟨aj,h3,h4⟩:=ho;exact .inl ⟨own,E,J,u7,aD,u8,aj,rfl,U.out,HR.out.ok,ag,aG,h1,h2,h3,h4,bO⟩
   clear ag aG aI aK hl HR U bg;go_wp2_with fail
   go_ret3
   exact HF.out
  |succ gg=>
   have bU:q<4:=by omega
   have bZ:(q:Int)<4:=by omega
   have cp:(0:Int)<=(q:Int):=by omega
   have c2:=HC.out q wr bU kp;have HF:Hid (L.getD (2+q) 0=L.getD (2+q) 0):=rfl;have bl:=bR.out (2+q);obtain⟨U,HR,nL⟩:=hh3 av hR kp;clear av hR kp HP;generalize aS:L.getD (2+q) 0=fi at *;have qT:=ar aS;clear aS;go_wp2_with fail;go_loopg [7,8,11] (25-own.length) (λgh s7 s8 M8 wx=>∃(z:List Nat) (J:List (ByteArray×Int)) (bi:Int),z.length+gh=25/\M8= .int .u64 bi/\Hid (mD X gh bi z J=mD X (25-own.length) fi own E/\0<=bi/\bi<18446744073709551616/\GR w wx s7 s8 z J/\ay [] W0 wx))
   case atStart=>exact⟨own,E,fi,by have :=HR.out.ok.len;omega,rfl,rfl,bl.1,bl.2,HR.out,nL.out⟩
   case round=>
    obtain⟨z,J,bi,bV,rfl,HP⟩:=hrel;obtain⟨bb,ck,Gq,aO,bf⟩:=HP.out;have cm:=aO.ok.len;cases gk with
    |zero=>omega
    |succ gk=>
     obtain⟨W,WU,NP⟩:=hh3 bb aO bf;have GU:Hid (∀wz,ay [] wr wz->mD X (gk+1) bi z J=none->y8 w X L (.returned (.tuple #[(),(),false])) wz):=λwz bG hn=>by
      refine .inr ⟨rfl,?_,WU.out.keep.trans' bG⟩;refine NM (k:=q+1) ?_ (by omega);rw[tB,U.out,qT.out];show mD X (25-own.length) fi own E=none;rw[<-W.out];exact hn
     clear bb aO bf HP;by_cases hz:bi=0
     ·subst hz
      go_wp2_with fail;go_roundg gg;case measure=>omega
      case rel=>
       refine⟨q+1,z,J,by omega,by simp,?_,WU.out,NP.out⟩;rw[tB,U.out,qT.out];show mD X (25-own.length) fi own E=_;rw[<-W.out,mD,aB rfl]
     ·have DN:(bi==0)=false:=by simpa using hz
      obtain⟨a8,c8,rfl,cg,cd⟩:=iX WU.out.nums;by_cases wI:(256:Int)<=bi
      ·have HF:=ar (GU.out _ (ay.refl _ _) (by rw[mD,aA hz,aB (.inl wI)]))
       clear GU W WU NP;go_wp2_with fail
       go_ret3
       exact HF.out
      ·by_cases PD:z.length=24
       ·have HF:=ar (GU.out _ (ay.refl _ _) (by rw[mD,aA hz,aB (.inr PD)]))
        clear GU W WU NP;rw[PD];go_wp2_with fail
        go_ret3
        exact HF.out
       ·have bA:¬(z.length:Int)=24:=by omega
        have b9:((z.length:Int)==24)=false:=by simpa using bA
        obtain⟨c,hc⟩:∃c:Nat,bi=(c:Int):=⟨bi.toNat,by omega⟩;have aQ:0<c:=by omega
        have ai:c<256:=by omega
        have b7:wrap64 bi=bi:=by unfold wrap64;omega
        have ou:=ar (λwx=>ky bi wx);have Bl:Hid (iO bi=((1080+8*c:Nat):Int)):=by
         show _=_;rw[hc,iO,aA];omega
        have nu:=ar (pI (vZ.out.keep WU.out.keep (by simp) (by simp)) (1080+8*c) (by omega));rw[SS.out] at nu;have bt:Hid (mD X (gk+1) bi z J=if J0 X c then mD X gk (X.getD (1080+8*c) 0) (z++[c]) (J++yo X c) else none):=by
         show _=_;rw[mD,aA hz,aA,show bi.toNat=c by omega]
        have I3:Hid (bi=(c:Int)/\0<c/\c<256):=⟨hc,aQ,ai⟩;have CZ:=iG X (1080+8*c);have zC:Hid (CY (dZ X (1080+8*c))):=CY.row Va.out _;have aT:X.getD (1080+8*c) 0=(dZ X (1080+8*c)).getD 0 0:=(kH X (1080+8*c) 0 (by omega)).symm;have bz:=ar aT;have XN:Hid (J0 X c↔qJ (kI (dZ X (1080+8*c))) (oM (dZ X (1080+8*c)))):=Iff.rfl;have bJ:Hid (yo X c=mJ (kI (dZ X (1080+8*c))) (oM (dZ X (1080+8*c)))):=rfl;have cf:=SQ (dZ X (1080+8*c));clear hc aQ ai aT;generalize bT:((1080+8*c:Nat):Int)=pi,dZ X (1080+8*c)=RX at *;clear bT;have bY:=lj;generalize wC:(aY (List.replicate 8 0)).toArray=Z8 at *;have xJ:=ar wC;clear wC;go_wp2_with fail;refine C' (ou.out _) ?_;rw[Bl.out];go_wp2_with fail;refine Rr nu.out λw1 aM=> ?_;obtain⟨w2,bp,aJ,aZ⟩:=bH (P:= prog) (ty:= 195) (cs:=aY RX) (by rw[bB,CZ];exact jc) (bh.new w1 Z8 195) (by rw[<-xJ.out];simp[bB,CZ]) (fh _);obtain⟨EI,xw⟩:=hh2 bp (fM aJ CZ);have bu:=aM.size;have aU:ay [] wr w2:=(aM.alloc (.cells Z8 195)).trans aZ (by intro x hx;rw[au] at hx;omega);obtain⟨Gf,bj,aW⟩:=hh3 (Lp RX CZ zC.out w2) aJ aU;have bo:Hid (wr.heap.size<=w1.heap.size):=bu;clear bp aJ aZ aU aM nu bu;generalize bW:w1.heap.size=V at *;go_wp2_with(with_reducible first|refine gS 195 EI.out ?_|refine gL 195 xw.out ?_);refine Gf.out.mono ?_;rintro e w3 (⟨ge,rfl,ax,aN,af,ac⟩|⟨rfl,af,ac⟩)
        ·have cn:=ar ax
         have oI:Hid (ay [] wr w3):=aW.out.trans' ac;have G:=WU.out.keeps oI.out;obtain⟨aL,w4,aV,bn,ae⟩:=mh (P:= prog) 32 87 32 ie _ 2 24 underlying32 bw bL bI bM rfl (by omega) _ _ u7 _ G.ents (some ⟨ge,0,none⟩) (oM RX) (oM RX) _ ax.len (fp.cellsA ax) (Aj _) (by have :=G.ok.ents;unfold maxLen;omega) (by have :=G.ok.ents;omega) (by have :=oI.out.size;have :=NP.out.size;omega);have b6:w.heap.size+1<=w3.heap.size:=by have :=oI.out.size;have :=NP.out.size;omega
         have aa:w4.ownsRow (w.heap.size+1) 3 1 (.slice a8 z.length c8) z.length (dK z):=zW G.nums ae λg e8 e7=>Aw G.ents G.nums (by decide) g e7 e8
         have wP:ay [] w w4:=G.keep.grown ae λk hk=>by have :=dP G.ents k hk;omega
         have YF:bh w4 V (aY RX).toArray 195 :=(ae.block V ((bj.out.keep ac (by simp)).lt) λe7=>by
          have h1:=Am WU.out.ents V e7.symm;have h2:=bo.out;omega).trans (bj.out.keep ac (by simp))
         have bc:=bh.new w4 #[bi] 3;obtain⟨aR,w6,xK,aP,Sv⟩:=mh (P:= prog) 141 3 141 ii _ 1 8 underlying141 bK bQ bC bE rfl (by omega) _ _ (.slice a8 z.length c8) _ (eo aa ((ay.refl [] w4).alloc (.cells #[bi] 3)) (by simp)) (some ⟨w4.heap.size,0,none⟩) 1 1 [.int .i64 bi] rfl (λ_=>⟨_,rfl,λj u hu=>by
          have hj:j<1:=(List.getElem?_eq_some_iff.1 hu).1;obtain rfl:j=0:=by omega
          rw[add_plain,bc.cell];exact hu⟩) (λu hu=>by rw[au] at hu;rw[hu];rfl) (by unfold maxLen;omega) (by omega) (by have :=ae.size;simp;omega)
         have bv:w6.ownsRow (w.heap.size+1) 87 2 aL (J++yo X c).length (fc (J++yo X c)):=by
          have h1:w4.ownsRow (w.heap.size+1) 87 2 aL (J++yo X c).length (fc (J++yo X c)):=by
           rw[bJ.out,qH,aC,ko];exact bn
          have h2:=eo h1 ((ay.refl [] w4).alloc (.cells #[bi] 3)) (by simp);exact zW h2 Sv λg e7 e8=>Aw h2 (eo aa ((ay.refl [] w4).alloc (.cells #[bi] 3)) (by simp)) (by decide) g e7 e8
         have ba:w6.ownsRow (w.heap.size+1) 3 1 aR (z++[c]).length (dK (z++[c])):=by
          have e:dK (z++[c])=dK z++[.int .i64 bi]:=by rw[I3.out.1];simp[dK]
          rw[e,aC];exact aP
         have IY:ay [] w w6:=(wP.alloc (.cells #[bi] 3)).grown Sv λk hk=>by have :=dP aa k hk;omega
         have br:bh w6 V (aY RX).toArray 195 :=(Sv.block V ((YF.alloc _).lt) λe8=>by
          have h1:=Am WU.out.nums V e8.symm;have h2:=bo.out;omega).trans (YF.alloc _)
         have bN:Hid (GR w w6 aL aR (z++[c]) (J++yo X c)):=⟨bv,ba,IY,WU.out.ok.step X I3.out.2.1 I3.out.2.2 (by omega)⟩;have Vb:Hid (ay [] W0 w6):=by
          have h1:ay [] W0 w4:=(NP.out.trans' oI.out).grown ae λk hk=>by have :=dP G.ents k hk;omega
          exact(h1.alloc (.cells #[bi] 3)).grown Sv λk hk=>by have :=dP aa k hk;omega
         have cx:w6.cell? V=some (.int .u64 (RX.getD 0 0)):=by rw[br.cell,aF,dO (by omega)]
         obtain⟨bF,Gm⟩:=hh2 aV xK;have bP:Hid (mD X gk (RX.getD 0 0) (z++[c]) (J++yo X c)=mD X (25-own.length) fi own E):=by
          show _=_;rw[<-W.out,bt.out,aB (XN.out.2 af),bz.out]
         have bq:=zC.out 0;clear G bn ae aa wP YF bc aP Sv bv ba IY br ax aN af ac aV xK GU W WU NP Gf;generalize RX.getD 0 0=xn at *;go_wp2_with(first|((with_reducible show wpList _ _ _ (⟨some 45,_,_,_,_,_⟩::_) _ _);refine wpList_append_run rfl (.tmp 43) (.tmp 44) 32 32 rfl u7 (.slice ge (oM RX) (oM RX)) rfl rfl bF.out ?_)|((with_reducible show wpList _ _ _ (⟨some 50,_,_,_,_,_⟩::_) _ _);refine wpList_append_run rfl (.tmp 46) (.tmp 49) 141 141 rfl (.slice a8 z.length c8) (.slice w4.heap.size 1 1) rfl rfl Gm.out ?_));go_roundg gk;case measure=>omega
         case rel=>exact⟨z++[c],J++yo X c,xn,by simp;omega,rfl,bP.out,bq.1,bq.2,bN.out,Vb.out⟩
        ·have HF:=ar (GU.out w3 (aW.out.trans' ac) (by rw[bt.out,aA (λh=>af (XN.out.1 h))]))
         clear GU W WU NP af ac;go_wp2_with fail
         go_ret3
         exact HF.out
def yq (X L:List Int) (n:bT) (own:List Nat):Prop:=
 ((iR L).K=1/\∃l,tA X L l own/\n={ iR L with B:=l })\/
 ((iR L).K=2/\∃E h,YD X L=some (own,E)/\uI own E/\h.Perm E/\(∀i j,i<j->j<h.length->Op.bytesLess (eX h j).toList (eX h i).toList=false)/\n={ iR L with E:=h })
def D9 (w:World) (X L:List Int) (e:Ending) (w':World):Prop:=
 ∃n v g own z h ok,e= .returned (.tuple #[aM n v,z,.bool ok])/\n.B.length=13/\bD w' v g n.E/\w.heap.size<=g/\l9 w' z h own/\w.heap.size<=h/\ay [] w w'/\
  (ok=true->yq X L n own/\own.length<=24/\(∀c,c∈own->0<c/\c<256)/\n.E.length<=72/\∀k,k<n.E.length->(eX n.E k).size<=7)/\(ok=false->∀n' G,¬yq X L n' G)
theorem Vc{z:List (ByteArray×Int)}(h:uI own E)(G:z.Perm E):z.length<=72/\∀k,k<z.length->(eX z k).size<=7:=by
 refine⟨by have :=G.length_eq;have :=h.ents;have :=h.len;omega,λk J=> ?_⟩;exact h.size _ (G.mem_iff.1 (Xv J))
theorem J1 (h:tA X L l own):own.length<=24/\∀c,c∈own->0<c/\c<256:=by
 rcases h with ⟨-,rfl,-⟩|⟨b,-,J,G,rfl,-⟩
 ·exact⟨by simp,λc z=>by simp at z⟩
 ·exact⟨by simp,λc z=>by rw[au] at z;omega⟩
theorem QW (QA:eK w b gp B ps)(EM:CY (az B ps)){L:List Int}(hL:L.length=8)(zF:CY L):
  Calls prog 198 #[b,(aY L).toArray] w (D9 w (az B ps) L):=by
 obtain⟨W0,ac⟩:∃W0,W0=(w.alloc (.cells (aY L).toArray 195)).alloc (.cells (aM cg (.slice none 0 0)) 111):=⟨_,rfl⟩;have ax:bh W0 w.heap.size (aY L).toArray 195 :=by
  rw[ac];exact(bh.new w _ _).alloc _
 have jP:bh W0 (w.heap.size+1) (aM cg (.slice none 0 0)) 111 :=by
  have :=bh.new (w.alloc (.cells (aY L).toArray 195)) (aM cg (.slice none 0 0)) 111;have e:(w.alloc (.cells (aY L).toArray 195)).heap.size=w.heap.size+1:=by simp
  rw[e] at this;rw[ac];exact this
 have cJ:ay [] w W0:=by
  rw[ac];exact((ay.refl _ _).alloc _).alloc _
 have bb:=dz;obtain⟨IM,UR,ru,fI,qI,EH⟩:=hh6 (fM ax hL) (CJ L hL (zF 0) (zF 1) W0) ac cJ ax jP;have aW:Hid (∀wx,ay [] w wx->Calls prog 213 #[b,(aY L).toArray] wx (qz wx (az B ps) L)):=λwx hk=>by
  have h7:=zF 7;by_cases h:L.getD 7 0<9223372036854775808
  ·exact I1 hL zF h
  ·by_cases hb:L.getD 7 0-9223372036854775808=0\/256<=L.getD 7 0-9223372036854775808
   ·exact Lm hL (bi:=L.getD 7 0-9223372036854775808) (by omega) (by omega) hb h7.2
   ·exact I2 (QA.keep hk (by simp) (by simp)) EM hL zF (c:=(L.getD 7 0-9223372036854775808).toNat) (by omega) (by omega) (by omega)
 have aV:Hid (∀wx,ay [] w wx->Calls prog 214 #[b,(aY L).toArray] wx (y8 wx (az B ps) L)):=λwx hk=>QV (QA.keep hk (by simp) (by simp)) EM hL zF
 have HL:=ar hL;have bc:W0.heap.size=w.heap.size+1+1:=by rw[ac];simp
 have wQ:(iR L).B.length=13:=by simp[iR]
 have CE:Hid ((iR L).E=[]/\(iR L).B=List.replicate 13 0):=⟨rfl,rfl⟩;clear ax jP cJ ac QA EM hL zF;generalize az B ps=X,aF:(aY L).toArray=ZL at *;have Sw:=ar aF;clear aF;obtain⟨J,ak⟩:∃J,J=iR L:=⟨_,rfl⟩;rw[<-ak] at UR wQ CE;have Yb:=ar ak;clear ak;generalize aN:aM cg (.slice none 0 0)=Z0 at *;have jt:=ar aN;clear aN;have Vd:Z0.size=18:=by rw[<-jt.out];rfl
 go_in;go_wp2_with((with_reducible show wpList _ _ _ (⟨_,.load 195 (.tmp 3),_,_,_,_⟩::_) _ _);rw[<-ru.out];refine gJ rfl 195 (.tmp 3) rfl _ rfl _ IM.out ?_);refine Rr UR.out λw1 aC=> ?_;obtain⟨w2,aO,Mh,aG⟩:=bH (P:= prog) (ty:= 111) (cs:=na J (.slice none 0 0)) (by rw[gM,wQ];exact iZ) (bh.new w1 Z0 111) (by rw[Vd,gM,wQ]) (kY rfl);have aQ:=aC.size;have aB:bh w2 w1.heap.size (aM J (.slice none 0 0)) 111 :=Mh;have cK:w2.cell? ⟨w1.heap.size,1,none⟩=some (.int .i64 J.K):=by rw[aB.cell];exact(gG _ wQ).f1
 have fx:Hid (ay [] W0 w2):=(aC.alloc (.cells Z0 111)).trans aG (by intro x hx;rw[au] at hx;omega);have ml:Hid (∀wz n v g own vo go ok,ay [w1.heap.size] w2 wz->bh wz w1.heap.size (aM n v) 111->n.B.length=13->bD wz v g n.E->w.heap.size<=g->(n.E.length≠0->g≠w.heap.size+1)->l9 wz vo go own->w.heap.size<=go->go≠w.heap.size+1->
   (ok=true->yq X L n own/\own.length<=24/\(∀c,c∈own->0<c/\c<256)/\n.E.length<=72/\∀k,k<n.E.length->(eX n.E k).size<=7)->(ok=false->∀n' cW,¬yq X L n' cW)->
   (loadVar 111 w1.heap.size).run prog wz= .ok (.agg (aM n v)) wz/\∃w',(storeVar 111 (w.heap.size+1:Nat) (.agg (aM n v))).run prog wz= .ok () w'/\(loadVar 111 (w.heap.size+1:Nat)).run prog w'= .ok (.agg (aM n v)) w'/\D9 w X L (.returned (.tuple #[aM n v,vo,.bool ok])) w'):=by
  intro wz n v g own vo go ok hk hb hn hE hg aR hO ag aT h1 h2;have aZ:v.oneCell'=true:=by
   obtain⟨a,c,rfl,-⟩:=hE;rfl
  obtain⟨w',q1,q2,q3⟩:=bH (P:= prog) (ty:= 111) (cs:=na n v) (by rw[gM,hn];exact iZ) ((EH.out.keep fx.out (by simp)).keep hk (by rw[au];omega)) (by rw[Vd,gM,hn]) (kY aZ);refine⟨b9 hb hn,w',q1,b9 q2 hn,n,v,g,own,vo,go,ok,rfl,hn,hE.keep q3 (λh0=>by rw[au];exact aR h0),hg,hO.keep q3 (by rw[au];exact aT),ag,?_,h1,h2⟩;exact((fI.out.trans' fx.out).trans hk (by intro x hx;rw[au] at hx;omega)).trans q3 (by intro x hx;rw[au] at hx;omega)
 obtain⟨EI,Qj⟩:=hh2 aO aB;have vE:Hid ((loadVar 195 w.heap.size).run prog w2= .ok (.agg ZL) w2):=by
  have :=qI.out.keep fx.out (by simp);rw[<-Sw.out] at this ⊢;exact fM this HL.out
 obtain⟨bk,GV⟩:=hh2 aQ (fI.out.trans' fx.out);clear aO Mh aB aG aC aQ UR IM;generalize bg:w1.heap.size=g7 at *;by_cases Sz:J.K=1
 ·rw[Sz] at cK
  go_wp2_with(with_reducible first|refine gS 111 EI.out ?_|refine gL 195 vE.out ?_);refine(aW.out _ GV.out).mono ?_;rintro e w3 ⟨l,vo,go,own,ok,rfl,tz,af,ag,aJ,G,h1,h2⟩;obtain⟨w4,aK,U,z⟩:=SH (Qj.out.keep G (by simp)) wQ tz;have aU:w.heap.size+1<w2.heap.size:=by have :=fx.out.size;omega
  obtain⟨ot,w5,YG,YH,YI⟩:=ml.out w4 { J with B:=l } (.slice none 0 0) w.heap.size own vo go ok ((G.mono (by simp)).trans' z) U tz (by
   show bD w4 _ _ J.E;rw[CE.out.1];exact bD.nil _ _) (aH _) (by
   show J.E.length≠0->_;rw[CE.out.1];intro h;exact absurd rfl h) (af.keep z (by have :=Qj.out.lt;rw[au];omega)) (by have :=GV.out.size;omega) (by omega) (λaD=>by
    have W:=h1 aD;refine⟨.inl ⟨by rw[<-Yb.out];exact Sz,l,W,by rw[<-Yb.out]⟩,(J1 W).1,(J1 W).2,?_,?_⟩
    ·show J.E.length<=72
     rw[CE.out.1];simp
    ·show ∀k,k<J.E.length->_
     rw[CE.out.1];intro k hk;simp at hk) (λaD n' cW W=>by
    rcases W with ⟨-,l',W,-⟩|⟨aa,-⟩
    ·exact h2 aD l' cW W
    ·rw[<-Yb.out] at aa;omega)
  obtain⟨tZ,mY,rz,Iz,V⟩:=hh5 aK ot YG YH YI;clear aK U z ot YG YH YI af ag aJ G h1 h2;generalize aM { J with B:=l } (.slice none 0 0)=ZN at *;go_wp2_with(with_reducible first|refine gS 109 tZ.out ?_|refine gL 111 mY.out ?_|refine gS 111 rz.out ?_);exact aI (cH results198 rfl Iz.out rfl rfl) rfl V.out
 ·by_cases aa:J.K=2
  ·rw[aa] at cK
   have aU:w.heap.size+1<w2.heap.size:=by have :=fx.out.size;omega
   go_wp2_with(with_reducible first|refine gS 111 EI.out ?_|refine gL 195 vE.out ?_);refine(aV.out _ GV.out).mono ?_;rintro e w3 (⟨own,E,E',ve,ge,vo,go,rfl,ah,ai,aj,aL,av,aX,af,ag,G⟩|⟨rfl,ah,G⟩)
   ·have Gb:=Qj.out.keep G (by simp)
    have U:=Lj (u:=ve) (E:=E') Gb wQ;have z:ay [g7] w3 (w3.setCell ⟨g7,17,none⟩ ve):=(ay.refl _ _).setCell (.inl (by simp)) _;have aA:=Vc ai aj;have bj:=Qj.out.lt;obtain⟨ot,w5,YG,YH,YI⟩:=ml.out (w3.setCell ⟨g7,17,none⟩ ve) { J with E:=E' } ve ge own vo go true ((G.mono (by simp)).trans' z) U wQ (av.keep z (λ_=>by rw[au];omega)) (by omega) (λ_=>by omega) (af.keep z (by rw[au];omega)) (by omega) (by omega) (λ_=>⟨.inr ⟨by rw[<-Yb.out];exact aa,E,E',ah,ai,aj,aL,by rw[<-Yb.out]⟩,ai.len,ai.num,aA.1,aA.2⟩) (λh=>by cases h);have aS:w3.cell? ⟨g7,17,none⟩=some (.slice none 0 0):=by rw[Gb.cell];exact Ak _ wQ
    have ba:w3.frozen? ⟨g7,17,none⟩=false:=Gb.frozen 17;obtain⟨ae,ce,rfl,-,-,-⟩:=av.open;obtain⟨mY,rz,Iz,V⟩:=hh4 ot YG YH YI;clear Gb U z aA ot YG YH YI ah ai aj aL av aX af ag G;generalize aM { J with E:=E' } (.slice ae E'.length ce)=ZN at *;go_wp2_with(with_reducible first|refine gL 111 mY.out ?_|refine gS 111 rz.out ?_);exact aI (cH results198 rfl Iz.out rfl rfl) rfl V.out
   ·have Gb:=Qj.out.keep G (by simp)
    have U:=Lj (u:= .slice none 0 0) (E:=[]) Gb wQ;have z:ay [g7] w3 (w3.setCell ⟨g7,17,none⟩ (.slice none 0 0)):=(ay.refl _ _).setCell (.inl (by simp)) _;obtain⟨ot,w5,YG,YH,YI⟩:=ml.out (w3.setCell ⟨g7,17,none⟩ (.slice none 0 0)) { J with E:=[] } (.slice none 0 0) w.heap.size [] (.slice none 0 0) w.heap.size false ((G.mono (by simp)).trans' z) U wQ (bD.nil _ _) (aH _) (λh=>absurd rfl h) (l9.nil _ _) (aH _) (by omega) (λh=>by cases h) (λ_ n' cW W=>by
     rcases W with ⟨aP,-⟩|⟨-,E,E',W,-⟩
     ·rw[<-Yb.out] at aP;omega
     ·rw[ah] at W;cases W)
    have aS:w3.cell? ⟨g7,17,none⟩=some (.slice none 0 0):=by rw[Gb.cell];exact Ak _ wQ
    have ba:w3.frozen? ⟨g7,17,none⟩=false:=Gb.frozen 17;obtain⟨mY,rz,Iz,V⟩:=hh4 ot YG YH YI;clear Gb U z ot YG YH YI ah G;generalize aM { J with E:=[] } (.slice none 0 0)=ZN at *;go_wp2_with(with_reducible first|refine gL 111 mY.out ?_|refine gS 111 rz.out ?_);exact aI (cH results198 rfl Iz.out rfl rfl) rfl V.out
  ·have aP:(J.K==1)=false:=by simpa using Sz
   have bf:(J.K==2)=false:=by simpa using aa
   obtain⟨ot,w5,YG,YH,YI⟩:=ml.out w2 J (.slice none 0 0) w.heap.size [] (.slice none 0 0) w.heap.size false (ay.refl _ _) Qj.out wQ (by rw[CE.out.1];exact bD.nil _ _) (aH _) (by rw[CE.out.1];intro h;exact absurd rfl h) (l9.nil _ _) (aH _) (by omega) (λh=>by cases h) (λ_ n' cW W=>by
    rcases W with ⟨h1,-⟩|⟨h1,-⟩
    ·rw[<-Yb.out] at h1;exact Sz h1
    ·rw[<-Yb.out] at h1;exact aa h1)
   obtain⟨mY,rz,Iz,V⟩:=hh4 ot YG YH YI;clear ot YG YH YI;generalize J.K=K at *;go_wp2_with(with_reducible first|refine gS 111 EI.out ?_|refine gL 111 mY.out ?_|refine gS 111 rz.out ?_);exact aI (cH results198 rfl Iz.out rfl rfl) rfl V.out
end
end Go.Proofs.YtepbpdipenedhaaGreatDoor
