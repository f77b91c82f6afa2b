/- Lemmas. -/
import Derived.Test.YtimcfdnbpkiniaaGreatDoorM11
import Derived.Ground.SlsfProg
import Derived.Shelf.SlSortCmp.WholeK
import Derived.Sort.Grow
set_option maxHeartbeats 8000000
set_option maxRecDepth 100000
namespace Go.Proofs.YtimcfdnbpkiniaaGreatDoor
open Go.Proofs.Tryz
section
open Go.RowKit
variable{A B L X l:List Int}{own:List Nat}{w:World}{T U b b0 gp k n sz:Nat}{ps:List (Int×Int)}{v:Value}{E:List (ByteArray×Int)}{xs:List Value}
def tj (X L l:List Int) (own:List Nat):Prop:=
 (L.getD 7 0<9223372036854775808/\own=[]/\ko (L.drop 2) 6=some l)\/
 (∃b:Nat,L.getD 7 0=9223372036854775808+(b:Int)/\0<b/\b<256/\own=[b]/\ko ((L.drop 2).take 5++eu X (1080+8*b)) 13=some l)
def qo (w:World) (X L:List Int) (e:Ending) (w':World):Prop:=
 ∃l z h own ok,e= .returned (.tuple #[(zs l).toArray,z,.bool ok])/\l.length=13/\lQ w' z h own/\w.heap.size<=h/\own.length<=1/\ay [] w w'/\(ok=true->tj X L l own)/\(ok=false->∀l' G,¬tj X L l' G)
theorem tj.inj{l':List Int}{U:List Nat}(h:tj X L l own)(V:tj X L l' U):l'=l/\U=own:=by
 rcases h with ⟨W,h2,h3⟩|⟨b,W,h2,h3,h4,h5⟩
 ·rcases V with ⟨z,J,G⟩|⟨b',z,J,G,g4,g5⟩
  ·simp_all
  ·omega
 ·rcases V with ⟨z,J,G⟩|⟨b',z,J,G,g4,g5⟩
  ·omega
  grind
def CR (l:List Int):Prop:=∀k,0<=l.getD k 0/\l.getD k 0<18446744073709551616
theorem CR.app(h:CR A)(G:CR B):CR (A++B):=λk=>by
 have z:=h k;have J:=G (k-A.length)
 grind
theorem CR.drop(h:CR A)(n:Nat):CR (A.drop n):=λk=>by
 have :=h (n+k)
 simp_all
theorem CR.take(h:CR A)(n:Nat):CR (A.take n):=λk=>by
 have :=h k
 grind
theorem CR.row(z:CR X)(p:Nat):CR (eu X p):=λk=>by
 by_cases h:k<8
 ·rw[kx X p k h];exact z _
 grind [iy]
theorem GD (w:World)(g:Nat):Reads w (.slice none 0 0) g (dJ []):=⟨none,0,rfl,aI _,by unfold maxLen;omega,λh=>absurd rfl h⟩
theorem IL (hL:L.length=8)(Aj:∀k,0<=L.getD k 0/\L.getD k 0<18446744073709551616)(h7:L.getD 7 0<9223372036854775808):
  Calls prog 208 #[b0,(aX L).toArray] w (qo w X L):=by
 obtain⟨V,h⟩:∃V,V=(w.alloc (.cells (aX L).toArray 132)).alloc (.cells (zs (List.replicate 13 0)).toArray 73):=⟨_,rfl⟩;have J:bc V w.heap.size (aX L).toArray 132 :=by
  rw[h];exact(bc.new w _ _).alloc _
 have af:bc V (w.heap.size+1) (zs (List.replicate 13 0)).toArray 73 :=by
  have :=bc.new (w.alloc (.cells (aX L).toArray 132)) (zs (List.replicate 13 0)).toArray 73;have e:(w.alloc (.cells (aX L).toArray 132)).heap.size=w.heap.size+1:=by simp
  rw[e] at this;rw[h];exact this
 have cM:ay [] w V:=by
  rw[h];exact((ay.refl _ _).alloc _).alloc _
 have c7:V.cell? ⟨w.heap.size,7,none⟩=some (.int .u64 (L.getD 7 0)):=by rw[J.cell,aG,dM (by omega)]
 rw[h] at c7;have ax:=pd;have az:=sS w.heap.size;have hr:Reads V (.slice (some ⟨w.heap.size,2,none⟩) 6 6) w.heap.size (aX (L.drop 2)):=by
  have :=J.reads (o:=2) (n:=6) (c:=6) (by omega) (aI _) (by omega)
  grind [aW]
 have IJ:=ar (Nz hr (by simp;omega) (λk=>by
  simp_all))
 obtain⟨CI,fG,rf⟩:=hh3 af cM h;have av:¬(9223372036854775808:Int)<=L.getD 7 0:=by omega
 obtain⟨H7,HL⟩:=hh2 h7 hL;clear J af cM hr h Aj hL h7;generalize K9:L.getD 7 0=xi at *;have ae:=ar K9;clear K9;generalize (aX L).toArray=ZL,ag:(zs (List.replicate 13 0)).toArray=Z0 at *;have jt:=ar ag;clear ag;go_in;go_wp2_with fail;rw[<-rf.out];refine IJ.out.mono ?_;rintro e w1 ⟨l,ok,rfl,U,h1,h2,z⟩;obtain⟨w2,ac,ah,G⟩:=bE (P:= prog) (ty:= 73) (cs:=zs l) (by rw[eT,U];exact lS) (bc.new w1 Z0 73) (by rw[<-jt.out];simp[eT,U]) (nt _);have aj:=z.size;have ak:=CI.out.lt;have YH:bc w2 (w.heap.size+1) Z0 73 :=((CI.out.keep z).alloc _).keep G (by simp;omega);obtain⟨w3,aa,rQ,ai⟩:=bE (P:= prog) (ty:= 73) (cs:=zs l) (by rw[eT,U];exact lS) YH (by rw[<-jt.out];simp[eT,U]) (nt _);obtain⟨EF,jh,zn,rJ⟩:=hh4 ac aa (fy (off:=0) ah U (λk hk=>by grind [gI])) (fy (off:=0) rQ U (λk hk=>by grind [gI]));have YI:(L.drop 2).length=6:=by rw[bV,HL.out]
 have HM:Hid (qo w X L (.returned (.tuple #[(zs l).toArray,(),ok])) w3):=by
  refine⟨l,_,w.heap.size,[],ok,rfl,U,lQ.nil _ _,aI _,by simp,?_,λW=> .inl ⟨by rw[ae.out];exact H7.out,rfl,by rw[<-YI];exact h1 W⟩,λW l' cY hs=> ?_⟩
  ·exact(((fG.out.trans' z).alloc _).trans G (by intro x hx;simp at hx;omega)).trans ai
  ·have h3:=(h2 W).1
   rcases hs with ⟨-,-,g3⟩|⟨b',g1,-⟩
   ·rw[<-YI,h3] at g3
    cases g3
   ·rw[ae.out] at g1
    have :=H7.out;omega
 clear ac ah G YH aa rQ ai h1 h2 z aj ak YI;generalize au:w1.heap.size=g1 at *;go_wp2_with(with_reducible first|refine gS 73 EF.out ?_|refine gL 73 zn.out ?_|refine gS 73 jh.out ?_);exact aH (cJ results208 rfl rJ.out rfl rfl) rfl HM.out
theorem Lb (hL:L.length=8){bi:Int}(h7:L.getD 7 0=9223372036854775808+bi)(h0:0<=bi)(hb:bi=0\/256<=bi)(ac:L.getD 7 0<18446744073709551616):
  Calls prog 208 #[b0,(aX L).toArray] w (qo w X L):=by
 obtain⟨G,h⟩:∃G,G=(w.alloc (.cells (aX L).toArray 132)).alloc (.cells (zs (List.replicate 13 0)).toArray 73):=⟨_,rfl⟩;have U:bc G w.heap.size (aX L).toArray 132 :=by
  rw[h];exact(bc.new w _ _).alloc _
 have W:bc G (w.heap.size+1) (zs (List.replicate 13 0)).toArray 73 :=by
  have :=bc.new (w.alloc (.cells (aX L).toArray 132)) (zs (List.replicate 13 0)).toArray 73;have e:(w.alloc (.cells (aX L).toArray 132)).heap.size=w.heap.size+1:=by simp
  rw[e] at this;rw[h];exact this
 have cM:ay [] w G:=by
  rw[h];exact((ay.refl _ _).alloc _).alloc _
 have c7:G.cell? ⟨w.heap.size,7,none⟩=some (.int .u64 (L.getD 7 0)):=by rw[U.cell,aG,dM (by omega)]
 rw[h] at c7;have ai:=pd;have aj:=sS w.heap.size;obtain⟨w2,z,aa,J⟩:=bE (P:= prog) (ty:= 73) (cs:=zs (List.replicate 13 0)) (by rw[eT];exact lS) W (by simp[eT]) (nt _);rw[h] at z;obtain⟨EF,zn⟩:=hh2 z (fy (off:=0) (l:=List.replicate 13 0) aa (by simp) (λk hk=>by grind [gI]));have HM:Hid (qo w X L (.returned (.tuple #[(zs (List.replicate 13 0)).toArray,(),false])) w2):=by
  refine⟨List.replicate 13 0,_,w.heap.size,[],false,rfl,by simp,lQ.nil _ _,aI _,by simp,?_,λae=>(by cases ae),λ_ l' cY hs=> ?_⟩
  ·exact cM.trans J
  ·rcases hs with ⟨g1,-⟩|⟨b',g1,g2,g3,-⟩<;>omega
 have ah:(9223372036854775808:Int)<=L.getD 7 0:=by omega
 have af:L.getD 7 0-9223372036854775808=bi:=by omega
 have hw:IntKind.u64.wrap bi=bi:=nu h0 (by omega);clear U W cM h hL h7 ac z aa J;generalize L.getD 7 0=xi,(aX L).toArray=ZL,(zs (List.replicate 13 0)).toArray=Z0 at *;by_cases V:bi=0
 ·subst V
  clear hb;go_in;go_wp2_with(first|(with_reducible refine gS 73 EF.out ?_));exact aH (cJ results208 rfl zn.out rfl rfl) rfl HM.out
 ·have ag:=hb.resolve_left V
  clear hb;go_in;go_wp2_with(first|(with_reducible refine gS 73 EF.out ?_));exact aH (cJ results208 rfl zn.out rfl rfl) rfl HM.out
theorem IM (Qx:eN w b gp B ps)(EH:∀k,0<=(az B ps).getD k 0/\(az B ps).getD k 0<18446744073709551616){L:List Int}(hL:L.length=8)(Aj:∀k,0<=L.getD k 0/\L.getD k 0<18446744073709551616)
  {c:Nat} (h7:L.getD 7 0=9223372036854775808+(c:Int)) (aZ:0<c) (hc:c<256):
  Calls prog 208 #[b,(aX L).toArray] w (qo w (az B ps) L):=by
 obtain⟨W0,G⟩:∃W0,W0=(w.alloc (.cells (aX L).toArray 132)).alloc (.cells (zs (List.replicate 13 0)).toArray 73):=⟨_,rfl⟩;have aa:bc W0 w.heap.size (aX L).toArray 132 :=by
  rw[G];exact(bc.new w _ _).alloc _
 have aM:bc W0 (w.heap.size+1) (zs (List.replicate 13 0)).toArray 73 :=by
  have :=bc.new (w.alloc (.cells (aX L).toArray 132)) (zs (List.replicate 13 0)).toArray 73;have e:(w.alloc (.cells (aX L).toArray 132)).heap.size=w.heap.size+1:=by simp
  rw[e] at this;rw[G];exact this
 have cM:ay [] w W0:=by
  rw[G];exact((ay.refl _ _).alloc _).alloc _
 have c7:W0.cell? ⟨w.heap.size,7,none⟩=some (.int .u64 (L.getD 7 0)):=by rw[aa.cell,aG,dM (by omega)]
 rw[G] at c7;have bq:=pd;have bw:=kV;have bu:=sS w.heap.size;have nP:=ar (λwx=>j6 (c:Int) wx);have Be:Hid (iG (c:Int)=((1080+8*c:Nat):Int)):=by
  show _=_;rw[iG,aA];omega
 have mZ:=ar (po (Qx.keep cM) (1080+8*c) (by omega));have zu:Hid (∀k,0<=((L.drop 2).take 5++eu (az B ps) (1080+8*c)).getD k 0/\((L.drop 2).take 5++eu (az B ps) (1080+8*c)).getD k 0<18446744073709551616):=CR.app ((CR.drop Aj 2).take 5) (CR.row EH _);have IP:=iy (az B ps) (1080+8*c);have bz:(9223372036854775808:Int)<=L.getD 7 0:=by omega
 obtain⟨z,Pw,bk,hw,bB,bv,bo⟩:∃z:Int,(c:Int)=z/\L.getD 7 0-9223372036854775808=z/\IntKind.u64.wrap z=z/\wrap64 z=z/\¬z=0/\¬256<=z:=⟨_,rfl,by omega,nu (by omega) (by omega),by unfold wrap64;omega,by omega,by omega⟩;have HC:Hid (L.getD 7 0=9223372036854775808+(c:Int)/\0<c/\c<256):=⟨h7,aZ,hc⟩;obtain⟨qC,CI,fG,rf,HL⟩:=hh5 aa aM cM G hL;have JL:Hid (((L.drop 2).take 5).length=5):=by simp_all
 rw[Pw] at nP Be;generalize aO:eu (az B ps) (1080+8*c)=RX at *;have aD:=ar aO;clear aa aM cM G hL Aj EH Qx h7 aO;generalize bb:((1080+8*c:Nat):Int)=pi,K9:L.getD 7 0=xi at *;obtain⟨aj,L5⟩:=hh2 K9 Pw;clear K9 bb Pw hc aZ;generalize aF:(aX L).toArray=ZL at *;have Su:=ar aF;clear aF;generalize aJ:(zs (List.replicate 13 0)).toArray=Z0 at *;have jt:=ar aJ;clear aJ;generalize vW:(aX (List.replicate 8 0)).toArray=Z8 at *;have xz:=ar vW;clear vW;go_in;go_wp2_with fail;refine C' (nP.out _) ?_;rw[Be.out];go_wp2_with fail;rw[<-rf.out];refine Rr mZ.out λw1 af=> ?_;obtain⟨J,V,U3,aW⟩:=bE (P:= prog) (ty:= 132) (cs:=aX RX) (by rw[bA,IP];exact iZ) (bc.new w1 Z8 132) (by rw[<-xz.out];simp[bA,IP]) (fk _);have EF:=ar V;have ax:=af.size;have eP:ay [] W0 J:=(af.alloc (.cells Z8 132)).trans aW (by simp_all);obtain⟨aB,bn⟩:=hh2 eP U3;have ak:=qC.out.keep eP;have aR:Hid (Reads J (.slice (some ⟨w.heap.size,2,none⟩) 5 6) w.heap.size (aX ((L.drop 2).take 5))):=by
  rw[<-Su.out] at ak;exact ak.reads (o:=2) (n:=5) (c:=6) (by rw[HL.out];omega) (by omega) (by omega)
 have aS:Hid (Reads J (.slice w1.heap.size 8 8) w1.heap.size (aX RX)):=by
  have :=bc.reads (o:=0) (n:=8) (c:=8) U3 (by rw[IP];omega) (aI _) (by omega)
  grind
 clear V U3 aW eP af mZ ax ak;generalize bp:w1.heap.size=g1 at *;have br:=F9 w.heap.size;have bl:=wh g1;go_wp2_with(first|(with_reducible refine gS 132 EF.out ?_));refine xU (S:=λwx=>ay [] J wx) (l:=[_,_]) (tl:=[_,_,_]) (by kernel_rfl) rfl (by kernel_rfl) (by kernel_rfl) (by kernel_rfl) (λd _ _ _ _ h=>by cases d<;>exact h) (ay.refl _ _).drew ?_;repeat (refine cT.cons ?_ (YieldsIf.val rfl ?h) ?_;(case h=>(intro wx hx;clear hx;go_simp;rfl));simp only[Act.put,ag,ah,ai])
 refine cT.done ?_;unfold gF;go_wp2_with fail;refine⟨((ay.refl _ _).drew).alloc _,?_⟩;unfold gF;have NA:Hid (∀wx,ay [] J wx->bc wx J.heap.size #[.slice (some ⟨w.heap.size,2,none⟩) 5 6,.slice g1 8 8] 65->Calls prog 223 #[.slice J.heap.size 2 2] wx (jG wx ((L.drop 2).take 5++RX))):=λwx hk hb=>by
  refine U2 hb ((aR.out).keep hk) ((aS.out).keep hk) JL.out IP
 have aY:bc ((J.alloc (.cells #[.slice (some ⟨w.heap.size,2,none⟩) 5 6,.slice g1 8 8] 65)).drew) J.heap.size #[.slice (some ⟨w.heap.size,2,none⟩) 5 6,.slice g1 8 8] 65 :=(bc.new J _ _).drew;have Qs:=ar aY;clear aY aR aS;go_wp2_with fail;refine(NA.out _ (((ay.refl _ _).alloc _).drew) Qs.out).mono ?_;rintro e U ⟨va,ga,rfl,JI,xe,aU⟩;have ny:ay [] J U:=(((ay.refl [] J).alloc (.cells #[.slice (some ⟨w.heap.size,2,none⟩) 5 6,.slice g1 8 8] 65)).drew).trans' aU;obtain⟨YJ,ac⟩:=hh2 ny JI;clear JI xe aU ny Qs NA;go_wp2_with fail;refine⟨YJ.out,?_⟩;unfold gF;go_wp2_with fail;refine⟨YJ.out,?_⟩;unfold gF;have ba:Reads (U.alloc (.cells #[z] 3)) va ga (aX ((L.drop 2).take 5++RX)):=by
  by_cases h0:aX ((L.drop 2).take 5++RX)=[]
  ·grind [bA]
  ·exact ac.out.keep ((ay.refl [] U).alloc _)
 have IJ:=ar (Nz ba (by grind) zu.out);obtain⟨av,cv,aV,-,-,-⟩:=il ac.out;have QQ:((L.drop 2).take 5++RX).length=13:=by rw[aC,JL.out,IP]
 rw[QQ] at aV;have aL:=bc.new U #[z] 3;obtain⟨K5,aQ⟩:=hh2 aL QQ;clear ba aL ac QQ;subst aV;go_wp2_with fail;refine IJ.out.mono ?_;rintro e w4 ⟨l,ok,rfl,td,h1,h2,W⟩;rw[aQ.out] at h1 h2;obtain⟨w5,V,aP,kr⟩:=bE (P:= prog) (ty:= 73) (cs:=zs l) (by rw[eT,td];exact lS) (bc.new w4 Z0 73) (by rw[<-jt.out];simp[eT,td]) (nt _);have ax:=W.size;have bh:=YJ.out.size;have bf:=aB.out.size;have bj:=CI.out.lt;have bg:U.heap.size<(U.alloc (.cells #[z] 3)).heap.size:=K5.out.lt;have YH:bc w5 (w.heap.size+1) Z0 73 :=(((((CI.out.keep aB.out).keep YJ.out).alloc _).keep W).alloc _).keep kr (by rw[au];omega);have aK:bc w5 U.heap.size #[z] 3 :=((K5.out.keep W).alloc _).keep kr (by rw[au];omega);obtain⟨w6,aT,rQ,jE⟩:=bE (P:= prog) (ty:= 73) (cs:=zs l) (by rw[eT,td];exact lS) YH (by rw[<-jt.out];simp[eT,td]) (nt _);have aN:bc w6 U.heap.size #[z] 3 :=aK.keep jE (by rw[au];omega);obtain⟨EF,jh,zn,rJ⟩:=hh4 V aT (fy (off:=0) aP td (λk hk=>by grind [gI])) (fy (off:=0) rQ td (λk hk=>by grind [gI]));have HM:Hid (qo w (az B ps) L (.returned (.tuple #[(zs l).toArray,.slice U.heap.size 1 1,ok])) w6):=by
  refine⟨l,_,U.heap.size,[c],ok,rfl,td,⟨⟨rfl,.inr ⟨U.heap.size,1,#[z],rfl,aI _,aN,aI _,by unfold maxLen;omega,by simp,?_⟩⟩,λk hk=>by cases hk;rfl⟩,by omega,by simp,?_,λae=> .inr ⟨c,by rw[aj.out];exact HC.out.1,HC.out.2.1,HC.out.2.2,rfl,by rw[aD.out];exact h1 ae⟩,λae l' cY hs=> ?_⟩
  ·rw[<-L5.out]
   rfl
  ·refine(((fG.out.trans' aB.out).trans' YJ.out).trans' ((((ay.refl [] U).alloc (.cells #[z] 3)).trans' W).alloc (.cells Z0 73))).trans kr (by grind) |>.trans jE
  ·have h3:=(h2 ae).1
   have hc:=HC.out;rcases hs with ⟨g1,-⟩|⟨b',g1,g2,g3,-,g5⟩
   ·rw[aj.out] at g1
    omega
   ·rw[aj.out] at g1
    obtain rfl:b'=c:=by omega
    rw[aD.out,h3] at g5;cases g5
 clear V aP kr YH aT rQ jE h1 h2 W ax bh bf bg bj aK aN;generalize bt:w4.heap.size=g4 at *;go_wp2_with(with_reducible first|refine gS 73 EF.out ?_|refine gL 73 zn.out ?_|refine gS 73 jh.out ?_);exact aH (cJ results208 rfl rJ.out rfl rfl) rfl HM.out
def oY (r:List Int):Nat:=if r.getD 1 0=0 then 0 else if r.getD 3 0=0 then 1 else if r.getD 5 0=0 then 2 else 3
theorem SQ (r:List Int):oY r<=3:=by
 grind [oY]
theorem JQ{r:List Int}(U:k<=3)(h:∀j,j<k->r.getD (2*j+1) 0≠0)(J:k=3\/r.getD (2*k+1) 0=0):oY r=k:=by
 rcases (show k=0\/k=1\/k=2\/k=3 by omega) with rfl|rfl|rfl|rfl
 ·grind [oY]
 ·grind [oY]
 ·have G:r.getD 1 0≠0:=h 0 (by omega)
  have z:r.getD 3 0≠0:=h 1 (by omega)
  grind [oY]
 ·have G:r.getD 1 0≠0:=h 0 (by omega)
  have z:r.getD 3 0≠0:=h 1 (by omega);have V:r.getD 5 0≠0:=h 2 (by omega)
  grind [oY]
def kW (r:List Int):List Int:=(r.drop 1).take (2*oY r)
theorem QR (b c:Nat)(h:1<=c)(z:c<=7)(w:World):(Instr.sliceAt 132 (.pointer (some ⟨b,0,none⟩)) (some (.int .i64 1)) (some (.int .i64 (c:Int))) none).run prog w= .ok (.slice (some ⟨b,1,none⟩) (c-1) 7) w:=by
 rcases (show c=1\/c=2\/c=3\/c=4\/c=5\/c=6\/c=7 by omega) with rfl|rfl|rfl|rfl|rfl|rfl|rfl
 all_goals (show Sem.run _ _ _=_;kernel_rfl)
theorem Lc (r:List Int)(wm:r.length=8)(aa:∀k,0<=r.getD k 0/\r.getD k 0<18446744073709551616)(w:World):
  Calls prog 225 #[(aX r).toArray] w (oI w (kW r) (oY r)):=by
 have J:=bc.new w (aX r).toArray 132;obtain⟨W0,U⟩:∃W0,W0=w.alloc (.cells (aX r).toArray 132):=⟨_,rfl⟩;rw[<-U] at J;have pO:=ar J;have fG:Hid (ay [] w W0):=by
  rw[U];exact(ay.refl [] w).alloc _
 obtain⟨rf,BU⟩:=hh2 U wm;have EI:Hid (∀k,k<=3->(∀j,j<k->r.getD (2*j+1) 0≠0)->(k=3\/r.getD (2*k+1) 0=0)->∀n,n=2*k->Calls prog 205 #[.slice (some ⟨w.heap.size,1,none⟩) n 7] W0 λe w'=>oI w (kW r) (oY r) e w'):=λk hk h he n hn=>by
  have hc:=JQ hk h he;have BV:=J.reads (o:=1) (n:=n) (c:=7) (by omega) (by omega) (by omega);have L8:((r.drop 1).take n).length=n:=by grind
  have h6:∀j,0<=((r.drop 1).take n).getD j 0/\((r.drop 1).take n).getD j 0<18446744073709551616:=λj=>by
   by_cases hj:j<n
   ·have e0:((r.drop 1).take n).getD j 0=r.getD (1+j) 0:=by grind
    rw[e0];exact aa _
   simp_all
  refine(xc BV (by omega) k (by omega) h6).mono λe w' hp=> ?_
  have e1:kW r=(r.drop 1).take n:=by rw[kW,hc,hn]
  rw[e1,hc];have hw:=fG.out.size;rcases hp with ⟨g,a1,z,G,W,V⟩|⟨a1,z,G⟩
  ·exact .inl ⟨g,a1,z,by omega,W,fG.out.trans' V⟩
  ·exact .inr ⟨a1,z,fG.out.trans' G⟩
 have X4:Hid (∀j,j<8->W0.cell? ⟨w.heap.size,j,none⟩=some (.int .u64 (r.getD j 0))):=λj hj=>by
  rw[J.cell,aG,dM (by omega)]
 clear J U wm aa pO BU;generalize (aX r).toArray=Z at *;go_in;go_wp2_with fail;rw[<-rf.out];go_loopg [4] 3 (λgh s4 wx=>∃k b:Nat,k+gh=3/\b=2*k+1/\s4= .int .i64 (b:Int)/\Hid (∀j,j<k->r.getD (2*j+1) 0≠0)/\wx=W0)
 case atStart=>exact⟨0,1,by omega,by omega,rfl,λj hj=>by omega,rfl⟩
 case round=>
  obtain⟨k,b,hk,hb,rfl,HP,rfl⟩:=hrel;have J:(0:Int)<=(b:Int):=by omega
  have ag:(1:Int)<=(b:Int):=by omega
  have ac:=QR w.heap.size b (by omega) (by omega);obtain⟨n,hn⟩:∃n,n=2*k:=⟨_,rfl⟩;rw[show b-1=n by omega] at ac;by_cases h7:b<7
  ·have ae:(b:Int)<7:=by omega
   have hc:=X4.out b (by omega);by_cases hx:r.getD b 0=0
   ·have HE:=ar (EI.out k (by omega) HP.out (.inr (by rw[<-hb];exact hx)) n hn)
    rw[hx] at hc;clear hx hk hn hb;go_wp2_with fail;refine HE.out.mono ?_;rintro e w' hp;rcases hp with ⟨g,rfl,z,G,W,V⟩|⟨rfl,z,G⟩
    ·have HF:Hid (oI w (kW r) (oY r) (.returned (.tuple #[.slice g (oY r) (oY r),true])) w'):= .inl ⟨g,rfl,z,G,W,V⟩
     clear z G W V;go_wp2;go_ret2;exact HF.out
    ·have HF:Hid (oI w (kW r) (oY r) (.returned (.tuple #[(),false])) w'):= .inr ⟨rfl,z,G⟩
     clear z G;go_wp2;go_ret2;exact HF.out
   ·have HN:Hid (∀j,j<k+1->r.getD (2*j+1) 0≠0):=λj hj=>by
     by_cases e:j=k
     ·subst e;rw[<-hb];exact hx
     ·exact HP.out j (by omega)
    have af:(r.getD b 0 != 0)=true:=bne_iff_ne.2 hx;clear hx;generalize r.getD b 0=x at *;have DX:Hid (b=2*k+1/\k+gk=3):=⟨hb,hk⟩;clear ac hb hk hn;go_wp2;go_roundg (gk-1);case measure=>have :=DX.out;omega
    case rel=>exact⟨k+1,b+2,by have :=DX.out;omega,by have :=DX.out;omega,by go_num,HN.out,rfl⟩
  ·have ae:¬(b:Int)<7:=by omega
   have HE:=ar (EI.out k (by omega) HP.out (.inl (by omega)) n hn);clear hk hn hb;go_wp2_with fail;refine HE.out.mono ?_;rintro e w' hp;rcases hp with ⟨g,rfl,z,G,W,V⟩|⟨rfl,z,G⟩
   ·have HF:Hid (oI w (kW r) (oY r) (.returned (.tuple #[.slice g (oY r) (oY r),true])) w'):= .inl ⟨g,rfl,z,G,W,V⟩
    clear z G W V;go_wp2;go_ret2;exact HF.out
   ·have HF:Hid (oI w (kW r) (oY r) (.returned (.tuple #[(),false])) w'):= .inr ⟨rfl,z,G⟩
    clear z G;go_wp2;go_ret2;exact HF.out
end
section
open Go.Shelf
variable{A B L X l:List Int}{own:List Nat}{w:World}{T U b b0 gp k n sz:Nat}{ps:List (Int×Int)}{v:Value}{E:List (ByteArray×Int)}{xs:List Value}
def D9:Go.Shelf.Ren:=⟨λ|6=> 226|15=> 236|14=> 235|28=> 248|29=> 249|20=> 240|21=> 241|22=> 242|23=> 243|24=> 244|25=> 245|26=> 246|27=> 247|46=> 250|47=> 251|48=> 252|49=> 253|50=> 254|57=> 255|n=>n,λ|22=> 30|24=> 99|25=> 277|3=> 3|39=> 162|0=> 0|53=> 185|55=> 70|4=> 4|46=> 292|45=> 291|50=> 47|5=> 5|9=> 9|66=> 298|70=> 302|76=> 304|77=> 305|n=>n,λ|n=>n⟩
theorem SR:Go.Proofs.SlLaysF0.n6 prog D9:={
 mixed:=by kernel_rfl
 f6:=⟨Tryz.f226.name,by decide,func226.trans (cP some (by kernel_rfl))⟩
 f14:=⟨Tryz.f235.name,by decide,func235.trans (cP some (by kernel_rfl))⟩
 f15:= func236.trans (cP some (by kernel_rfl))
 f20:=⟨Tryz.f240.name,by decide,func240.trans (cP some (by kernel_rfl))⟩
 f21:=⟨Tryz.f241.name,by decide,func241.trans (cP some (by kernel_rfl))⟩
 f22:=⟨Tryz.f242.name,by decide,func242.trans (cP some (by kernel_rfl))⟩
 f23:=⟨Tryz.f243.name,by decide,func243.trans (cP some (by kernel_rfl))⟩
 f24:=⟨Tryz.f244.name,by decide,func244.trans (cP some (by kernel_rfl))⟩
 f25:=⟨Tryz.f245.name,by decide,func245.trans (cP some (by kernel_rfl))⟩
 f26:=⟨Tryz.f246.name,by decide,func246.trans (cP some (by kernel_rfl))⟩
 f27:=⟨Tryz.f247.name,by decide,func247.trans (cP some (by kernel_rfl))⟩
 f28:= func248.trans (cP some (by kernel_rfl))
 f29:= func249.trans (cP some (by kernel_rfl))
 f46:=⟨Tryz.f250.name,by decide,func250.trans (cP some (by kernel_rfl))⟩
 f47:= func251.trans (cP some (by kernel_rfl))
 f48:= func252.trans (cP some (by kernel_rfl))
 f49:=⟨Tryz.f253.name,by decide,func253.trans (cP some (by kernel_rfl))⟩
 f50:=⟨Tryz.f254.name,by decide,func254.trans (cP some (by kernel_rfl))⟩
 f57:=⟨Tryz.f255.name,by decide,func255.trans (cP some (by kernel_rfl))⟩
 t0:= underlying0
 a0:= Tryz.isAgg0
 z0:= Tryz.sizeOf0
 v0:= Tryz.zeroValue0
 t3:= underlying3
 a3:= Tryz.isAgg3
 z3:= Tryz.sizeOf3
 v3:= Tryz.zeroValue3
 t4:= underlying4
 a4:= Tryz.isAgg4
 z4:= Tryz.sizeOf4
 v4:= Tryz.zeroValue4
 t5:= underlying5
 a5:= Tryz.isAgg5
 z5:= Tryz.sizeOf5
 v5:= Tryz.zeroValue5
 t9:= underlying9
 a9:= Tryz.isAgg9
 z9:= Tryz.sizeOf9
 v9:= Tryz.zeroValue9
 t22:= underlying30
 a22:= Tryz.isAgg30
 z22:= Tryz.sizeOf30
 v22:= Tryz.zeroValue30
 t25:= underlying277
 a25:= Tryz.isAgg277
 z25:= Tryz.sizeOf277
 v25:= Tryz.zeroValue277
 t39:= underlying162
 a39:= Tryz.isAgg162
 z39:= Tryz.sizeOf162
 v39:= Tryz.zeroValue162
 t45:= underlying291
 a45:= Tryz.isAgg291
 z45:= Tryz.sizeOf291
 v45:= Tryz.zeroValue291
 t46:= underlying292
 a46:= Tryz.isAgg292
 z46:= Tryz.sizeOf292
 v46:= Tryz.zeroValue292
 t50:= underlying47
 a50:= Tryz.isAgg47
 z50:= Tryz.sizeOf47
 v50:= Tryz.zeroValue47
 t53:= underlying185
 a53:= Tryz.isAgg185
 z53:= Tryz.sizeOf185
 v53:= Tryz.zeroValue185
 t55:= underlying70
 a55:= Tryz.isAgg70
 z55:= Tryz.sizeOf70
 v55:= Tryz.zeroValue70
 t66:= underlying298
 a66:= Tryz.isAgg298
 z66:= Tryz.sizeOf298
 v66:= Tryz.zeroValue298
 t70:= underlying302
 a70:= Tryz.isAgg302
 z70:= Tryz.sizeOf302
 v70:= Tryz.zeroValue302
 t76:= underlying304
 a76:= Tryz.isAgg304
 z76:= Tryz.sizeOf304
 v76:= Tryz.zeroValue304
 t77:= underlying305
 a77:= Tryz.isAgg305
 z77:= Tryz.sizeOf305
 v77:= Tryz.zeroValue305 }
end
section
open Go.RowKit
variable{A B L X l:List Int}{own:List Nat}{w:World}{T U b b0 gp k n sz:Nat}{ps:List (Int×Int)}{v:Value}{E:List (ByteArray×Int)}{xs:List Value}
def Br (a b:ByteArray):Int:=if Op.bytesLess a.toList b.toList=true then -1 else if (a.toList==b.toList)=true then 0 else 1
theorem vk (a:ByteArray)(w:World):Calls prog 237 #[.string a] w λe w'=>e=false/\w=w':=by
 go_in;go_wp2;go_ret;exact⟨by simp,rfl⟩
theorem QS (a b:ByteArray)(w:World):Calls prog 228 #[.string a,.string b] w λe w'=>e=(Br a b:Int)/\w=w':=by
 by_cases h:Op.bytesLess a.toList b.toList=true
 ·rw[show Br a b= -1 from aB h]
  go_in;go_wp2_with fail;refine C' (vk _ _) ?_;go_wp2_with fail;refine C' (vk _ _) ?_;go_wp2;go_ret;exact⟨rfl,rfl⟩
 ·by_cases z:(a.toList==b.toList)=true
  ·rw[show Br a b=0 by unfold Br;rw[aA h,aB z]]
   go_in;go_wp2_with fail;refine C' (vk _ _) ?_;go_wp2_with fail;refine C' (vk _ _) ?_;go_wp2;go_ret;exact⟨rfl,rfl⟩
  ·rw[show Br a b=1 by unfold Br;rw[aA h,aA z]]
   have G:(a.toList==b.toList)=false:=by simpa using z
   go_in;go_wp2_with fail;refine C' (vk _ _) ?_;go_wp2_with fail;refine C' (vk _ _) ?_;go_wp2;go_ret;exact⟨rfl,rfl⟩
theorem U4 (a b:ByteArray)(x y:Int)(w:World):Calls prog 227 #[.agg #[.string a,x],.agg #[.string b,y]] w λe w'=>e=(Br a b:Int)/\∃q z,w'=Go.Sort.grow (w.drewN q) z:=by
 have h:=λG=>QS a b G
 generalize Br a b=r at h ⊢;go_in;go_wp2_with fail;refine C' (h _) ?_;go_wp2;go_ret;exact⟨rfl,0,_,by rw[Go.Sort.alloc_eq_grow,Go.Sort.alloc_eq_grow,Go.Sort.grow_grow];rfl⟩
theorem ltN (x y:ByteArray×Int):Go.Proofs.ltOf (λa b:ByteArray×Int=>Br a.1 b.1) x y=Op.bytesLess x.1.toList y.1.toList:=by
 show decide (Br x.1 y.1<0)=_
 grind [Br]
theorem ajm:Go.Sort.SWO (Go.Proofs.ltOf λa b:ByteArray×Int=>Br a.1 b.1) where
 irrefl x:=by rw[ltN];exact oM _
 trans x y z h1 h2:=by rw[ltN] at *;exact ot _ _ _ h1 h2
 ntrans x y z h1 h2:=by
  grind [ltN,sY,ot]
end
section
open Go.RowKit Go.Shelf Go.Sort
variable{A B L X l:List Int}{own:List Nat}{w:World}{T U b b0 gp k n sz:Nat}{ps:List (Int×Int)}{v:Value}{E:List (ByteArray×Int)}{xs:List Value}
theorem insert_nil(w:World)(h:Value):Calls prog 240 #[(),(0:Int),(0:Int),h] w λe w'=>e= .returned (.tuple #[])/\w=w':=by
 go_in;go_wp2_with fail;go_loopg [8] 0 (λz s8 G=>z=0/\s8= .int .i64 1/\w=G)
 case atStart=>exact⟨rfl,rfl,rfl⟩
 case round=>
  obtain⟨-,rfl,rfl⟩:=hrel;go_wp2;go_end0;exact⟨rfl,rfl⟩
theorem abY (w:World)(h:Value):Calls prog 235 #[(),(0:Int),(0:Int),(0:Int),h] w λe w'=>e= .returned (.tuple #[])/\w=w':=by
 go_in;go_wp2_with fail;go_loopg [1,2,3] 0 (λz s1 s2 s3 G=>z=0/\s1= .int .i64 0/\s2= .int .i64 0/\s3= .int .i64 0/\w=G)
 case atStart=>exact⟨rfl,rfl,rfl,rfl,rfl⟩
 case round=>
  obtain⟨-,rfl,rfl,rfl,rfl⟩:=hrel;go_wp2_with fail;refine C' (insert_nil _ _) ?_;go_wp2_with fail;refine aH (results_none rfl _ _ _) rfl ?_;exact⟨rfl,rfl⟩
theorem YK (w:World)(G:Value):Calls prog 226 #[(),G] w λe w'=>e= .returned (.tuple #[])/\w=w':=by
 have z:Calls prog 236 #[.int .u64 0] w λe w'=>e= .returned (.int .i64 (Lib.bitLen 0:Nat))/\w=w':=(Any.bits_Len (SlLaysF0.n15.bits (P:= prog) (ρ:=D9) { SR with }) 0 w (by omega) (by omega)).mono λ_ _ h=>⟨h.1,h.2.symm⟩
 rw[show Lib.bitLen 0=0 from rfl] at z;go_in;go_wp2_with fail;refine C' z ?_;go_wp2_with fail;refine C' (abY _ _) ?_;go_wp2;go_end0;exact⟨rfl,rfl⟩
def Ld (p:ByteArray×Int):List Value:=[.string p.1,.int .i64 p.2]
theorem JR (E:List (ByteArray×Int))(t:Nat)(h:t<E.length*2):(fc E)[t]? =some (flatK Ld 2 E.toArray)[t]! :=by
 have J:t/2<E.length:=by omega
 rw[get_flatK _ _ _ _ (by simpa using h)];have U:E.toArray[t/2]! =(eY E (t/2),jq E (t/2)):=by
  grind [eY,jq]
 rw[U];have z:=qc E (t/2) J;rcases (show t%2=0\/t%2=1 by omega) with G|G
 ·rw[show t/2*2=t by omega] at z
  rw[G,z.1];rfl
 ·rw[show t/2*2+1=t by omega] at z
  rw[G,z.2];rfl
theorem YL (p q:ByteArray×Int):ltOf (λa b:ByteArray×Int=>Br a.1 b.1) p q=Op.bytesLess p.1.toList q.1.toList:=ltN p q
theorem NC (h:w.ownsRow U 99 2 v E.length (fc E))(az:E.length<=10000):
  Calls prog 226 #[v,.func (.func 227) #[] #[]] w λe w'=>e= .returned (.tuple #[])/\∃W,W.Perm E/\
   (∀i j,i<j->j<W.length->Op.bytesLess (eY W j).toList (eY W i).toList=false)/\w'.ownsRow U 99 2 v W.length (fc W)/\∃l,ay l w w'/\∀k,k∈l->v.ownBlock=some k:=by
 obtain⟨hl,h⟩:=h;rcases h with ⟨rfl,hn⟩|⟨g,cap,J,rfl,hg,hh,ae,aa,aj,ah⟩
 ·have hE:E=[]:=bg hn
  subst hE;refine(YK w _).mono λe w' he=>⟨he.1,[],List.Perm.refl _,λi j _ hj=>by simp at hj,he.2▸⟨rfl,.inl ⟨rfl,rfl⟩⟩,[],he.2▸ay.refl _ _,λk hk=>by cases hk⟩
 ·have V:∀t,t<E.length*2->w.cell? ⟨g,t,none⟩=some (flatK Ld 2 E.toArray)[t]! :=λt ht=>by
   have hb:bc w g J 99 :=hh;rw[hb.cell,<-JR E t ht,<-ah,kJ ht,dw]
  have hH:HoldsK Ld 2 w g 0 E.toArray:=λj hj=>by
   rw[size_flatK] at hj;rw[bp];exact⟨V j (by simpa using hj),bc.frozen (c:=J) (T:= 99) hh j⟩
  have hs:=AnyQ.slices_SortFunc SR 2 (λw=>by kernel_rfl) (λw=>by kernel_rfl) Ld (λ_=>rfl) (λx u hu=>by
   simp only[Ld,aM,aK,bC] at hu;rcases hu with rfl|rfl<;>rfl) (λa b:ByteArray×Int=>Br a.1 b.1) ajm 227 #[] g 0 cap E.toArray w (enters_of func227 (by kernel_rfl) rfl) (λm os dk _ x y=>U4 x.1 y.1 x.2 y.2 _) hH (Array.getElem?_eq_some_iff.1 hh).1 (by simp;omega)
  refine Rr (show Calls _ _ _ _ _ from hs) ?_;rintro w' ⟨G,m,os,hp,av,rfl⟩;obtain⟨ac,-,z⟩:=hp;have ag:G.size=E.length:=by simpa using ac
  have ax:G.extract 0 E.toArray.size=G:=by rw[<-ac];exact Array.extract_size
  have ai:E.toArray.extract 0 E.toArray.size=E.toArray:=Array.extract_size;rw[ax,ai] at z;have ar:=(Array.getElem?_eq_some_iff.1 hh).1;have af:(sortWorldK Ld 2 w g 0 m G os).heap[g]? =some (.cells (putCells id 0 (flatK Ld 2 G) J) 99 (0,0)):=by
   show((w.heap.modify g _)++os)[g]? =_;rw[Array.getElem?_append_left (by rw[Array.size_modify];exact ar),Array.getElem?_modify,aB rfl,hh];rfl
  have oN:ay [g] w (sortWorldK Ld 2 w g 0 m G os):=by
   refine⟨rfl,rfl,rfl,?_,λk hk aC=> ?_⟩
   ·show w.heap.size<=((w.heap.modify g _)++os).size
    simp
   ·show((w.heap.modify g _)++os)[k]? =_
    grind
  have aA:(flatK Ld 2 G).size=E.length*2:=by rw[size_flatK,ag]
  have WT:G.toList.length=E.length:=by rw[dK,ag]
  refine⟨rfl,G.toList,z,λi j ak hj=> ?_,⟨by rw[lI],.inr ⟨g,cap,_,by rw[WT],hg,af,by rw[WT];exact ae,aa,by simp[putCells,aj],?_⟩⟩,[g],oN,λk hk=>by rw[au] at hk;rw[hk];rfl⟩
  ·have h1:=av i j (fD _) ak (by rw[bP];omega)
   grind [YL,eY]
  ·apply cG
   intro t;rw[WT];by_cases ht:t<E.length*2
   ·rw[kJ ht,JR G.toList t (by rw[WT];exact ht)]
    have hc:t<J.size:=by omega
    simp only[putCells,dw,Array.getElem?_mapIdx,fD,true_and,bp,Nat.sub_zero,Array.toArray_toList]
    simp_all
   grind [lI]
end
section
open Go.RowKit
variable{A B L X l:List Int}{own:List Nat}{w:World}{T U b b0 gp k n sz:Nat}{ps:List (Int×Int)}{v:Value}{E:List (ByteArray×Int)}{xs:List Value}
instance U5 (L:List Int) (n:Nat):Decidable (qD L n):=inferInstanceAs (Decidable (∀k,k<n->_))
def x9 (X:List Int) (b:Nat):List (ByteArray×Int):=mA (kW (eu X (1080+8*b))) (oY (eu X (1080+8*b)))
def JS (X:List Int) (b:Nat):Prop:=qD (kW (eu X (1080+8*b))) (oY (eu X (1080+8*b)))
instance (X:List Int) (b:Nat):Decidable (JS X b):=U5 _ _
def mn (X:List Int):Nat->Int->List Nat->List (ByteArray×Int)->Option (List Nat×List (ByteArray×Int))
 |0,_,_,_=>none
 |n+1,b,own,E=>if b=0 then some (own,E) else if 256<=b\/own.length=24 then none else
   if JS X b.toNat then mn X n (X.getD (1080+8*b.toNat) 0) (own++[b.toNat]) (E++x9 X b.toNat) else none
def tq (X L:List Int):Nat->Option (List Nat×List (ByteArray×Int))
 |0=>some ([],[])
 |q+1=>(tq X L q).bind λr=>mn X (25-r.1.length) (L.getD (2+q) 0) r.1 r.2
def YM (X L:List Int):Option (List Nat×List (ByteArray×Int)):=tq X L 4
theorem ND (h:tq X L k=none):∀{n:Nat},k<=n->tq X L n=none:=by
 intro n z;induction z with
 |refl=>exact h
 |step _ ih=>rw[tq,ih];rfl
structure uD (own:List Nat) (E:List (ByteArray×Int)):Prop where
 len:own.length<=24
 num:∀c,c∈own->0<c/\c<256
 ents:E.length<=3*own.length
 size:∀p,p∈E->p.1.size<=7
theorem YN (X:List Int)(b:Nat):(x9 X b).length<=3:=by rw[x9,jX];exact SQ _
theorem U6 (X:List Int)(b:Nat):∀p,p∈x9 X b->p.1.size<=7:=by
 grind [x9,b9,zF,jX,CA]
theorem uD.step(h:uD own E)(X:List Int){b:Nat}(U:0<b)(W:b<256)(V:own.length<24):uD (own++[b]) (E++x9 X b):=by
 have :=YN X b;have :=h.ents;refine⟨by simp;omega,λc J=> ?_,by simp;omega,λp G=> ?_⟩
 ·rcases aR.1 J with z|z
  ·exact h.num c z
  ·rw[au] at z;omega
 ·rcases aR.1 G with z|z
  ·exact h.size p z
  ·exact U6 X b p z
theorem uD.nil:uD [] []:=⟨by simp,λc h=>by simp at h,by simp,λp h=>by simp at h⟩
def yT (w:World) (X L:List Int) (e:Ending) (w':World):Prop:=
 (∃own E h z G J U,e= .returned (.tuple #[z,J,true])/\YM X L=some (own,E)/\uD own E/\h.Perm E/\(∀i j,i<j->j<h.length->Op.bytesLess (eY h j).toList (eY h i).toList=false)/\
  bD w' z G h/\w.heap.size<=G/\lQ w' J U own/\w.heap.size<=U/\ay [] w w')\/
 (e= .returned (.tuple #[(),(),false])/\YM X L=none/\ay [] w w')
theorem aeA (b:Nat)(w:World):(Instr.sliceAt 132 (.pointer (some ⟨b,0,none⟩)) (some (.int .i64 2)) (some (.int .i64 6)) none).run prog w= .ok (.slice (some ⟨b,2,none⟩) 4 6) w:=by show Sem.run _ _ _=_;kernel_rfl
structure GF (w wx:World) (v7 v8:Value) (own:List Nat) (E:List (ByteArray×Int)):Prop where
 ents:wx.ownsRow (w.heap.size+1) 99 2 v7 E.length (fc E)
 nums:wx.ownsRow (w.heap.size+1) 3 1 v8 own.length (dJ own)
 keep:ay [] w wx
 ok:uD own E
theorem Ak{b1 b2 T2 z1 z2 n1 n2:Nat}{v1 W:Value}{h z:List Value}(G:w.ownsRow b1 U z1 v1 n1 h)(J:w.ownsRow b2 T2 z2 W n2 z)(hT:U≠T2):∀g,v1.ownBlock=some g->W.ownBlock≠some g:=by
 intro g V e2;obtain⟨-,G⟩:=G;obtain⟨-,J⟩:=J;rcases G with ⟨rfl,-⟩|⟨g1,c1,ae,rfl,-,aa,-⟩
 ·cases V
 ·rcases J with ⟨rfl,-⟩|⟨g2,c2,ac,rfl,-,af,-⟩
  ·cases e2
  ·cases V
   cases e2
   simp_all
theorem zK{w':World}{z:Nat}{row:Option Nat}(h:w.ownsRow z T sz v n xs)(hg:w.grownBy w' row)(U:∀g,v.ownBlock=some g->row≠some g):w'.ownsRow z T sz v n xs:=by
 obtain⟨h0,h1⟩:=h;refine⟨h0,?_⟩;rcases h1 with ⟨G,W⟩|⟨V,cap,J,G,W,hh,e3⟩
 ·exact .inl ⟨G,W⟩
 ·refine .inr ⟨V,cap,J,G,W,?_,e3⟩
  rw[<-hh];exact hg.block V (Array.getElem?_eq_some_iff.1 hh).1 λe4=>U V (by rw[G];rfl) e4.symm
theorem GF.keeps{G J:World}{V U:Value}(h:GF w G V U own E)(z:ay [] G J):GF w J V U own E:=
 ⟨ey h.ents z (by simp),ey h.nums z (by simp),h.keep.trans' z,h.ok⟩
theorem fw.cellsA{g cap:Nat}(h:fw w (.slice g n cap) g T sz n xs):n≠0->∃J,some (⟨g,0,none⟩:Addr)=some J/\∀j u,xs[j]? =some u->w.cell? (J.add j)=some u:=λV=>by
 obtain⟨-,-,U,-⟩:=h.cell V;refine⟨_,rfl,λj u z=> ?_⟩;have G:j<xs.length:=(List.getElem?_eq_some_iff.1 z).1;rw[h.len] at G;rw[add_plain,bp,U j G,z]
theorem QT (Qx:eN w b gp B ps)(EH:CR (az B ps)){L:List Int}(hL:L.length=8)(Aj:CR L):
  Calls prog 209 #[b,(aX L).toArray] w (yT w (az B ps) L):=by
 obtain⟨ie,bC,bz,bP,bN⟩:=df Tryz.info_entry;obtain⟨ii,bw,bU,bT,bO⟩:=df Tryz.info_int;have ak:=bc.new w (aX L).toArray 132;obtain⟨W0,ah⟩:∃W0,W0=w.alloc (.cells (aX L).toArray 132):=⟨_,rfl⟩;rw[<-ah] at ak;have cM:ay [] w W0:=by
  rw[ah];exact(ay.refl _ _).alloc _
 have ck:W0.heap.size=w.heap.size+1:=by rw[ah];simp
 obtain⟨rf,qC,vP,U7⟩:=hh4 ah ak Qx EH;have U:Hid (GF w W0 (.slice none 0 0) (.slice none 0 0) [] []):=⟨⟨rfl,.inl ⟨rfl,rfl⟩⟩,⟨rfl,.inl ⟨rfl,rfl⟩⟩,cM,uD.nil⟩;have HC:Hid (∀q wx,q<4->ay [] W0 wx->wx.cell? ⟨w.heap.size,2+q,none⟩=some (.int .u64 (L.getD (2+q) 0))):=λq wx hq hk=>by rw[(ak.keep hk).cell,aG,dM (by omega)]
 have bQ:=ar Aj;have cj:=aeA w.heap.size;clear ak cM ah Qx EH hL Aj;generalize aT:az B ps=X at *;have SS:=ar aT;clear aT;generalize (aX L).toArray=ZL at *;go_in;go_wp2_with fail;rw[<-rf.out];go_loopg [7,8,17] 4 (λgh s7 s8 s17 wx=>∃(q:Nat) (own:List Nat) (E:List (ByteArray×Int)),q+gh=4/\s17= .int .i64 (q:Int)/\Hid (tq X L q=some (own,E)/\GF w wx s7 s8 own E/\ay [] W0 wx))
 case atStart=>exact⟨0,[],[],rfl,rfl,rfl,U.out,ay.refl _ _⟩
 case round=>
  clear U;obtain⟨q,own,E,hq,rfl,HP⟩:=hrel;obtain⟨aj,hR,jY⟩:=HP.out;cases gk with
  |zero=>
   obtain rfl:q=4:=by omega
   obtain⟨bk,HR,U⟩:=hh3 (NC hR.ents (by have :=hR.ok.ents;have :=hR.ok.len;omega)) hR aj;clear aj hR jY HP;go_wp2_with fail;refine Rr bk.out ?_;rintro w1 ⟨J,ag,aH,aF,l,aK,hl⟩;have HF:Hid (yT w X L (.returned (.tuple #[u7,u8,true])) w1):=by
    have ac:w1.ownsRow (w.heap.size+1) 3 1 u8 own.length (dJ own):=ey HR.out.nums aK λk hk hm=>Ak HR.out.ents HR.out.nums (by decide) k (hl k hm) hk
    obtain⟨ge,bf,aM⟩:=fw.of_row aF;obtain⟨go,bJ,b6⟩:=lQ.of_row ac;have bK:ay [] w w1:=HR.out.keep.trans aK λk hk=> .inr (by have :=dO HR.out.ents k (hl k hk);omega)
    have he:∃av,bD w1 u7 av J/\w.heap.size<=av:=by
     by_cases h0:J.length=0
     ·exact⟨w.heap.size,(bf.ereads rfl).anyG h0 _,aI _⟩
     ·exact⟨ge,bf.ereads rfl,by have :=(aM h0).1;omega⟩
    have ho:∃ax,lQ w1 u8 ax own/\w.heap.size<=ax:=⟨go,bJ,by omega⟩;obtain⟨av,h1,h2⟩:=he;obtain⟨ax,h3,h4⟩:=ho;exact .inl ⟨own,E,J,u7,av,u8,ax,rfl,U.out,HR.out.ok,ag,aH,h1,h2,h3,h4,bK⟩
   clear ag aH aF aK hl HR U bk;go_wp2
   go_ret3
   exact HF.out
  |succ gg=>
   have bF:q<4:=by omega
   have cn:(q:Int)<4:=by omega
   have cp:(0:Int)<=(q:Int):=by omega
   have c2:=HC.out q wr bF jY;have HF:Hid (L.getD (2+q) 0=L.getD (2+q) 0):=rfl;have bg:=bQ.out (2+q);obtain⟨U,HR,mK⟩:=hh3 aj hR jY;clear aj hR jY HP;generalize aS:L.getD (2+q) 0=fi at *;have qN:=ar aS;clear aS;go_wp2_with fail;go_loopg [7,8,11] (25-own.length) (λgh s7 s8 Qh wx=>∃(z:List Nat) (J:List (ByteArray×Int)) (bi:Int),z.length+gh=25/\Qh= .int .u64 bi/\Hid (mn X gh bi z J=mn X (25-own.length) fi own E/\0<=bi/\bi<18446744073709551616/\GF w wx s7 s8 z J/\ay [] W0 wx))
   case atStart=>exact⟨own,E,fi,by have :=HR.out.ok.len;omega,rfl,rfl,bg.1,bg.2,HR.out,mK.out⟩
   case round=>
    obtain⟨z,J,bi,bV,rfl,HP⟩:=hrel;obtain⟨br,bX,Ge,aJ,bq⟩:=HP.out;have cd:=aJ.ok.len;cases gk with
    |zero=>omega
    |succ gk=>
     obtain⟨V,WY,NF⟩:=hh3 br aJ bq;have GG:Hid (∀wz,ay [] wr wz->mn X (gk+1) bi z J=none->yT w X L (.returned (.tuple #[(),(),false])) wz):=λwz bS hn=>by
      refine .inr ⟨rfl,?_,WY.out.keep.trans' bS⟩;refine ND (k:=q+1) ?_ (by omega);rw[tq,U.out,qN.out];show mn X (25-own.length) fi own E=none;rw[<-V.out];exact hn
     clear br aJ bq HP;by_cases hz:bi=0
     ·subst hz
      go_wp2;go_roundg gg;case measure=>omega
      case rel=>
       refine⟨q+1,z,J,by omega,by simp,?_,WY.out,NF.out⟩;rw[tq,U.out,qN.out];show mn X (25-own.length) fi own E=_;rw[<-V.out,mn,aB rfl]
     ·have DL:(bi==0)=false:=by simpa using hz
      obtain⟨a8,c8,rfl,bW,b9⟩:=iT WY.out.nums;by_cases wq:(256:Int)<=bi
      ·have HF:=ar (GG.out _ (ay.refl _ _) (by rw[mn,aA hz,aB (.inl wq)]))
       clear GG V WY NF;go_wp2
       go_ret3
       exact HF.out
      ·by_cases Px:z.length=24
       ·have HF:=ar (GG.out _ (ay.refl _ _) (by rw[mn,aA hz,aB (.inr Px)]))
        clear GG V WY NF;rw[Px];go_wp2
        go_ret3
        exact HF.out
       ·have bH:¬(z.length:Int)=24:=by omega
        have bY:((z.length:Int)==24)=false:=by simpa using bH
        obtain⟨c,hc⟩:∃c:Nat,bi=(c:Int):=⟨bi.toNat,by omega⟩;have bu:0<c:=by omega
        have ai:c<256:=by omega
        have b7:wrap64 bi=bi:=by unfold wrap64;omega
        have nP:=ar (λwx=>j6 bi wx);have Be:Hid (iG bi=((1080+8*c:Nat):Int)):=by
         show _=_;rw[hc,iG,aA];omega
        have mZ:=ar (po (vP.out.keep WY.out.keep) (1080+8*c) (by omega));rw[SS.out] at mZ;have aU:Hid (mn X (gk+1) bi z J=if JS X c then mn X gk (X.getD (1080+8*c) 0) (z++[c]) (J++x9 X c) else none):=by
         show _=_;rw[mn,aA hz,aA,show bi.toNat=c by omega]
        have Mc:Hid (bi=(c:Int)/\0<c/\c<256):=⟨hc,bu,ai⟩;have IP:=iy X (1080+8*c);have zu:Hid (CR (eu X (1080+8*c))):=CR.row U7.out _;have bb:X.getD (1080+8*c) 0=(eu X (1080+8*c)).getD 0 0:=(kx X (1080+8*c) 0 (by omega)).symm;have bI:=ar bb;have XV:Hid (JS X c↔qD (kW (eu X (1080+8*c))) (oY (eu X (1080+8*c)))):=Iff.rfl;have bL:Hid (x9 X c=mA (kW (eu X (1080+8*c))) (oY (eu X (1080+8*c)))):=rfl;have cf:=SQ (eu X (1080+8*c));clear hc bu ai bb;generalize bB:((1080+8*c:Nat):Int)=pi,eu X (1080+8*c)=RX at *;clear bB;have cr:=kV;generalize vW:(aX (List.replicate 8 0)).toArray=Z8 at *;have xz:=ar vW;clear vW;go_wp2_with fail;refine C' (nP.out _) ?_;rw[Be.out];go_wp2_with fail;refine Rr mZ.out λw1 aN=> ?_;obtain⟨w2,bh,aO,bt⟩:=bE (P:= prog) (ty:= 132) (cs:=aX RX) (by rw[bA,IP];exact iZ) (bc.new w1 Z8 132) (by rw[<-xz.out];simp[bA,IP]) (fk _);obtain⟨EF,zn⟩:=hh2 bh (fN aO IP);have bp:=aN.size;have aY:ay [] wr w2:=(aN.alloc (.cells Z8 132)).trans bt (by intro x hx;rw[au] at hx;omega);obtain⟨F5,aR,ba⟩:=hh3 (Lc RX IP zu.out w2) aO aY;have aP:Hid (wr.heap.size<=w1.heap.size):=bp;clear bh aO bt aY aN mZ bp;generalize bZ:w1.heap.size=aa at *;go_wp2_with(with_reducible first|refine gS 132 EF.out ?_|refine gL 132 zn.out ?_);refine F5.out.mono ?_;rintro e w3 (⟨ge,rfl,aD,aM,af,W⟩|⟨rfl,af,W⟩)
        ·have cm:=ar aD
         have og:Hid (ay [] wr w3):=ba.out.trans' W;have G:=WY.out.keeps og.out;obtain⟨aL,w4,aQ,aZ,ae⟩:=lV (P:= prog) 30 99 30 ie _ 2 24 underlying30 bC bz bP bN rfl (by omega) _ _ u7 _ G.ents (some ⟨ge,0,none⟩) (oY RX) (oY RX) _ aD.len (fw.cellsA aD) (z7 _) (by have :=G.ok.ents;unfold maxLen;omega) (by have :=G.ok.ents;omega) (by have :=og.out.size;have :=NF.out.size;omega);have cg:w.heap.size+1<=w3.heap.size:=by have :=og.out.size;have :=NF.out.size;omega
         have ac:w4.ownsRow (w.heap.size+1) 3 1 (.slice a8 z.length c8) z.length (dJ z):=zK G.nums ae λg e8 e7=>Ak G.ents G.nums (by decide) g e7 e8
         have wG:ay [] w w4:=G.keep.grown ae λk hk=>by have :=dO G.ents k hk;omega
         have YO:bc w4 aa (aX RX).toArray 132 :=(ae.block aa ((aR.out.keep W).lt) λe7=>by
          have h1:=Ac WY.out.ents aa e7.symm;have h2:=aP.out;omega).trans (aR.out.keep W)
         have aV:=bc.new w4 #[bi] 3;obtain⟨bj,w6,wm,bv,MV⟩:=lV (P:= prog) 76 3 76 ii _ 1 8 underlying76 bw bU bT bO rfl (by omega) _ _ (.slice a8 z.length c8) _ (ey ac ((ay.refl [] w4).alloc (.cells #[bi] 3)) (by simp)) (some ⟨w4.heap.size,0,none⟩) 1 1 [.int .i64 bi] rfl (λ_=>⟨_,rfl,λj u hu=>by
          have hj:j<1:=(List.getElem?_eq_some_iff.1 hu).1;obtain rfl:j=0:=by omega
          rw[add_plain,aV.cell];exact hu⟩) (λu hu=>by rw[au] at hu;rw[hu];rfl) (by unfold maxLen;omega) (by omega) (by have :=ae.size;simp;omega)
         have bn:w6.ownsRow (w.heap.size+1) 99 2 aL (J++x9 X c).length (fc (J++x9 X c)):=by
          have h1:w4.ownsRow (w.heap.size+1) 99 2 aL (J++x9 X c).length (fc (J++x9 X c)):=by
           rw[bL.out,qA,aC,jX];exact aZ
          have h2:=ey h1 ((ay.refl [] w4).alloc (.cells #[bi] 3)) (by simp);exact zK h2 MV λg e7 e8=>Ak h2 (ey ac ((ay.refl [] w4).alloc (.cells #[bi] 3)) (by simp)) (by decide) g e7 e8
         have bl:w6.ownsRow (w.heap.size+1) 3 1 bj (z++[c]).length (dJ (z++[c])):=by
          have e:dJ (z++[c])=dJ z++[.int .i64 bi]:=by rw[Mc.out.1];simp[dJ]
          rw[e,aC];exact bv
         have II:ay [] w w6:=(wG.alloc (.cells #[bi] 3)).grown MV λk hk=>by have :=dO ac k hk;omega
         have aW:bc w6 aa (aX RX).toArray 132 :=(MV.block aa ((YO.alloc _).lt) λe8=>by
          have h1:=Ac WY.out.nums aa e8.symm;have h2:=aP.out;omega).trans (YO.alloc _)
         have bM:Hid (GF w w6 aL bj (z++[c]) (J++x9 X c)):=⟨bn,bl,II,WY.out.ok.step X Mc.out.2.1 Mc.out.2.2 (by omega)⟩;have U8:Hid (ay [] W0 w6):=by
          have h1:ay [] W0 w4:=(NF.out.trans' og.out).grown ae λk hk=>by have :=dO G.ents k hk;omega
          exact(h1.alloc (.cells #[bi] 3)).grown MV λk hk=>by have :=dO ac k hk;omega
         have cx:w6.cell? aa=some (.int .u64 (RX.getD 0 0)):=by rw[aW.cell,aG,dM (by omega)]
         obtain⟨bR,BU⟩:=hh2 aQ wm;have bG:Hid (mn X gk (RX.getD 0 0) (z++[c]) (J++x9 X c)=mn X (25-own.length) fi own E):=by
          show _=_;rw[<-V.out,aU.out,aB (XV.out.2 af),bI.out]
         have bo:=zu.out 0;clear G aZ ae ac wG YO aV bv MV bn bl II aW aD aM af W aQ wm GG V WY NF F5;generalize RX.getD 0 0=xn at *;go_wp2_with(first|((with_reducible show wpList _ _ _ (⟨some 45,_,_,_,_,_⟩::_) _ _);refine wpList_append_run rfl (.tmp 43) (.tmp 44) 30 30 rfl u7 (.slice ge (oY RX) (oY RX)) rfl rfl bR.out ?_)|((with_reducible show wpList _ _ _ (⟨some 50,_,_,_,_,_⟩::_) _ _);refine wpList_append_run rfl (.tmp 46) (.tmp 49) 76 76 rfl (.slice a8 z.length c8) (.slice w4.heap.size 1 1) rfl rfl BU.out ?_));go_roundg gk;case measure=>omega
         case rel=>exact⟨z++[c],J++x9 X c,xn,by simp;omega,rfl,bG.out,bo.1,bo.2,bM.out,U8.out⟩
        ·have HF:=ar (GG.out w3 (ba.out.trans' W) (by rw[aU.out,aA (λh=>af (XV.out.1 h))]))
         clear GG V WY NF af W;go_wp2
         go_ret3
         exact HF.out
def ya (X L:List Int) (n:bS) (own:List Nat):Prop:=
 ((iK L).K=1/\∃l,tj X L l own/\n={ iK L with B:=l })\/
 ((iK L).K=2/\∃E h,YM X L=some (own,E)/\uD own E/\h.Perm E/\(∀i j,i<j->j<h.length->Op.bytesLess (eY h j).toList (eY h i).toList=false)/\n={ iK L with E:=h })
def Ea (w:World) (X L:List Int) (e:Ending) (w':World):Prop:=
 ∃n v g own z h ok,e= .returned (.tuple #[aL n v,z,.bool ok])/\n.B.length=13/\bD w' v g n.E/\w.heap.size<=g/\lQ w' z h own/\w.heap.size<=h/\ay [] w w'/\
  (ok=true->ya X L n own/\own.length<=24/\(∀c,c∈own->0<c/\c<256)/\n.E.length<=72/\∀k,k<n.E.length->(eY n.E k).size<=7)/\(ok=false->∀n' G,¬ya X L n' G)
theorem U9{z:List (ByteArray×Int)}(h:uD own E)(G:z.Perm E):z.length<=72/\∀k,k<z.length->(eY z k).size<=7:=by
 refine⟨by have :=G.length_eq;have :=h.ents;have :=h.len;omega,λk J=> ?_⟩;exact h.size _ (G.mem_iff.1 (XC J))
theorem JT (h:tj X L l own):own.length<=24/\∀c,c∈own->0<c/\c<256:=by
 rcases h with ⟨-,rfl,-⟩|⟨b,-,G,J,rfl,-⟩
 ·exact⟨by simp,λc z=>by simp at z⟩
 ·exact⟨by simp,λc z=>by rw[au] at z;omega⟩
theorem QU (Qx:eN w b gp B ps)(EH:CR (az B ps)){L:List Int}(hL:L.length=8)(Aj:CR L):
  Calls prog 185 #[b,(aX L).toArray] w (Ea w (az B ps) L):=by
 obtain⟨W0,ac⟩:∃W0,W0=(w.alloc (.cells (aX L).toArray 132)).alloc (.cells (aL bY (.slice none 0 0)) 75):=⟨_,rfl⟩;have ak:bc W0 w.heap.size (aX L).toArray 132 :=by
  rw[ac];exact(bc.new w _ _).alloc _
 have jI:bc W0 (w.heap.size+1) (aL bY (.slice none 0 0)) 75 :=by
  have :=bc.new (w.alloc (.cells (aX L).toArray 132)) (aL bY (.slice none 0 0)) 75;have e:(w.alloc (.cells (aX L).toArray 132)).heap.size=w.heap.size+1:=by simp
  rw[e] at this;rw[ac];exact this
 have cM:ay [] w W0:=by
  rw[ac];exact((ay.refl _ _).alloc _).alloc _
 have bh:=dC;obtain⟨IA,UN,rf,fG,qC,JK⟩:=hh6 (fN ak hL) (CD L hL (Aj 0) (Aj 1) W0) ac cM ak jI;have aY:Hid (∀wx,ay [] w wx->Calls prog 208 #[b,(aX L).toArray] wx (qo wx (az B ps) L)):=λwx hk=>by
  have h7:=Aj 7;by_cases h:L.getD 7 0<9223372036854775808
  ·exact IL hL Aj h
  ·by_cases hb:L.getD 7 0-9223372036854775808=0\/256<=L.getD 7 0-9223372036854775808
   ·exact Lb hL (bi:=L.getD 7 0-9223372036854775808) (by omega) (by omega) hb h7.2
   ·exact IM (Qx.keep hk) EH hL Aj (c:=(L.getD 7 0-9223372036854775808).toNat) (by omega) (by omega) (by omega)
 have ba:Hid (∀wx,ay [] w wx->Calls prog 209 #[b,(aX L).toArray] wx (yT wx (az B ps) L)):=λwx hk=>QT (Qx.keep hk) EH hL Aj
 have HL:=ar hL;have bk:W0.heap.size=w.heap.size+1+1:=by rw[ac];simp
 have wH:(iK L).B.length=13:=by simp[iK]
 have Cx:Hid ((iK L).E=[]/\(iK L).B=List.replicate 13 0):=⟨rfl,rfl⟩;clear ak jI cM ac Qx EH hL Aj;generalize az B ps=X,aG:(aX L).toArray=ZL at *;have Su:=ar aG;clear aG;obtain⟨J,aC⟩:∃J,J=iK L:=⟨_,rfl⟩;rw[<-aC] at UN wH Cx;have Yk:=ar aC;clear aC;generalize aJ:aL bY (.slice none 0 0)=Z0 at *;have jt:=ar aJ;clear aJ;have Va:Z0.size=18:=by rw[<-jt.out];rfl
 go_in;go_wp2_with((with_reducible show wpList _ _ _ (⟨_,.load 132 (.tmp 3),_,_,_,_⟩::_) _ _);rw[<-rf.out];refine gH rfl 132 (.tmp 3) rfl _ rfl _ IA.out ?_);refine Rr UN.out λw1 aB=> ?_;obtain⟨w2,aM,L6,aQ⟩:=bE (P:= prog) (ty:= 75) (cs:=mQ J (.slice none 0 0)) (by rw[gJ,wH];exact iV) (bc.new w1 Z0 75) (by rw[Va,gJ,wH]) (kR rfl);have aO:=aB.size;have aA:bc w2 w1.heap.size (aL J (.slice none 0 0)) 75 :=L6;have cK:w2.cell? ⟨w1.heap.size,1,none⟩=some (.int .i64 J.K):=by rw[aA.cell];exact(fT _ wH).f1
 have fC:Hid (ay [] W0 w2):=(aB.alloc (.cells Z0 75)).trans aQ (by intro x hx;rw[au] at hx;omega);have mi:Hid (∀wz n v g own vo go ok,ay [w1.heap.size] w2 wz->bc wz w1.heap.size (aL n v) 75->n.B.length=13->bD wz v g n.E->w.heap.size<=g->(n.E.length≠0->g≠w.heap.size+1)->lQ wz vo go own->w.heap.size<=go->go≠w.heap.size+1->
   (ok=true->ya X L n own/\own.length<=24/\(∀c,c∈own->0<c/\c<256)/\n.E.length<=72/\∀k,k<n.E.length->(eY n.E k).size<=7)->(ok=false->∀n' cY,¬ya X L n' cY)->
   (loadVar 75 w1.heap.size).run prog wz= .ok (.agg (aL n v)) wz/\∃w',(storeVar 75 (w.heap.size+1:Nat) (.agg (aL n v))).run prog wz= .ok () w'/\(loadVar 75 (w.heap.size+1:Nat)).run prog w'= .ok (.agg (aL n v)) w'/\Ea w X L (.returned (.tuple #[aL n v,vo,.bool ok])) w'):=by
  intro wz n v g own vo go ok hk hb hn hE hg aZ hO af aR h1 h2;have aT:v.oneCell'=true:=by
   obtain⟨a,c,rfl,-⟩:=hE;rfl
  obtain⟨w',q1,q2,q3⟩:=bE (P:= prog) (ty:= 75) (cs:=mQ n v) (by rw[gJ,hn];exact iV) ((JK.out.keep fC.out).keep hk (by rw[au];omega)) (by rw[Va,gJ,hn]) (kR aT);refine⟨bZ hb hn,w',q1,bZ q2 hn,n,v,g,own,vo,go,ok,rfl,hn,hE.keep q3 (λh0=>by rw[au];exact aZ h0),hg,hO.keep q3 (by rw[au];exact aR),af,?_,h1,h2⟩;exact((fG.out.trans' fC.out).trans hk (by intro x hx;rw[au] at hx;omega)).trans q3 (by intro x hx;rw[au] at hx;omega)
 obtain⟨EF,Qg⟩:=hh2 aM aA;have uk:Hid ((loadVar 132 w.heap.size).run prog w2= .ok (.agg ZL) w2):=by
  have :=qC.out.keep fC.out;rw[<-Su.out] at this ⊢;exact fN this HL.out
 obtain⟨bb,GH⟩:=hh2 aO (fG.out.trans' fC.out);clear aM L6 aA aQ aB aO UN IA;generalize bf:w1.heap.size=g7 at *;by_cases Sw:J.K=1
 ·rw[Sw] at cK
  go_wp2_with(with_reducible first|refine gS 75 EF.out ?_|refine gL 132 uk.out ?_);refine(aY.out _ GH.out).mono ?_;rintro e w3 ⟨l,vo,go,own,ok,rfl,td,ai,af,aN,z,h1,h2⟩;obtain⟨w4,aK,U,G⟩:=SG (Qg.out.keep z) wH td;have aV:w.heap.size+1<w2.heap.size:=by have :=fC.out.size;omega
  obtain⟨pN,w5,YP,YQ,YR⟩:=mi.out w4 { J with B:=l } (.slice none 0 0) w.heap.size own vo go ok ((z.mono).trans' G) U td (by
   show bD w4 _ _ J.E;rw[Cx.out.1];exact bD.nil _ _) (aI _) (by
   show J.E.length≠0->_;rw[Cx.out.1];intro h;exact absurd rfl h) (ai.keep G (by have :=Qg.out.lt;rw[au];omega)) (by have :=GH.out.size;omega) (by omega) (λax=>by
    have W:=h1 ax;refine⟨.inl ⟨by rw[<-Yk.out];exact Sw,l,W,by rw[<-Yk.out]⟩,(JT W).1,(JT W).2,?_,?_⟩
    ·show J.E.length<=72
     rw[Cx.out.1];simp
    ·show ∀k,k<J.E.length->_
     rw[Cx.out.1];intro k hk;simp at hk) (λax n' cY W=>by
    rcases W with ⟨-,l',W,-⟩|⟨aa,-⟩
    ·exact h2 ax l' cY W
    ·rw[<-Yk.out] at aa;omega)
  obtain⟨tY,mO,rp,JL,V⟩:=hh5 aK pN YP YQ YR;clear aK U G pN YP YQ YR ai af aN z h1 h2;generalize aL { J with B:=l } (.slice none 0 0)=ZN at *;go_wp2_with(with_reducible first|refine gS 73 tY.out ?_|refine gL 75 mO.out ?_|refine gS 75 rp.out ?_);exact aH (cJ results185 rfl JL.out rfl rfl) rfl V.out
 ·by_cases aa:J.K=2
  ·rw[aa] at cK
   have aV:w.heap.size+1<w2.heap.size:=by have :=fC.out.size;omega
   go_wp2_with(with_reducible first|refine gS 75 EF.out ?_|refine gL 132 uk.out ?_);refine(ba.out _ GH.out).mono ?_;rintro e w3 (⟨own,E,E',ve,ge,vo,go,rfl,ag,ah,av,aF,aD,aS,ai,af,z⟩|⟨rfl,ag,z⟩)
   ·have FY:=Qg.out.keep z
    have U:=La (u:=ve) (E:=E') FY wH;have G:ay [g7] w3 (w3.setCell ⟨g7,17,none⟩ ve):=(ay.refl _ _).setCell (.inl (by simp)) _;have aj:=U9 ah av;have bg:=Qg.out.lt;obtain⟨pN,w5,YP,YQ,YR⟩:=mi.out (w3.setCell ⟨g7,17,none⟩ ve) { J with E:=E' } ve ge own vo go true ((z.mono).trans' G) U wH (aD.keep G (λ_=>by rw[au];omega)) (by omega) (λ_=>by omega) (ai.keep G (by rw[au];omega)) (by omega) (by omega) (λ_=>⟨.inr ⟨by rw[<-Yk.out];exact aa,E,E',ag,ah,av,aF,by rw[<-Yk.out]⟩,ah.len,ah.num,aj.1,aj.2⟩) (λh=>by cases h);have aU:w3.cell? ⟨g7,17,none⟩=some (.slice none 0 0):=by rw[FY.cell];exact Aa _ wH
    have aW:w3.frozen? ⟨g7,17,none⟩=false:=FY.frozen 17;obtain⟨ae,ce,rfl,-,-,-⟩:=aD.open;obtain⟨mO,rp,JL,V⟩:=hh4 pN YP YQ YR;clear FY U G aj pN YP YQ YR ag ah av aF aD aS ai af z;generalize aL { J with E:=E' } (.slice ae E'.length ce)=ZN at *;go_wp2_with(with_reducible first|refine gL 75 mO.out ?_|refine gS 75 rp.out ?_);exact aH (cJ results185 rfl JL.out rfl rfl) rfl V.out
   ·have FY:=Qg.out.keep z
    have U:=La (u:= .slice none 0 0) (E:=[]) FY wH;have G:ay [g7] w3 (w3.setCell ⟨g7,17,none⟩ (.slice none 0 0)):=(ay.refl _ _).setCell (.inl (by simp)) _;obtain⟨pN,w5,YP,YQ,YR⟩:=mi.out (w3.setCell ⟨g7,17,none⟩ (.slice none 0 0)) { J with E:=[] } (.slice none 0 0) w.heap.size [] (.slice none 0 0) w.heap.size false ((z.mono).trans' G) U wH (bD.nil _ _) (aI _) (λh=>absurd rfl h) (lQ.nil _ _) (aI _) (by omega) (λh=>by cases h) (λ_ n' cY W=>by
     rcases W with ⟨aP,-⟩|⟨-,E,E',W,-⟩
     ·rw[<-Yk.out] at aP;omega
     ·rw[ag] at W;cases W)
    have aU:w3.cell? ⟨g7,17,none⟩=some (.slice none 0 0):=by rw[FY.cell];exact Aa _ wH
    have aW:w3.frozen? ⟨g7,17,none⟩=false:=FY.frozen 17;obtain⟨mO,rp,JL,V⟩:=hh4 pN YP YQ YR;clear FY U G pN YP YQ YR ag z;generalize aL { J with E:=[] } (.slice none 0 0)=ZN at *;go_wp2_with(with_reducible first|refine gL 75 mO.out ?_|refine gS 75 rp.out ?_);exact aH (cJ results185 rfl JL.out rfl rfl) rfl V.out
  ·have aP:(J.K==1)=false:=by simpa using Sw
   have bj:(J.K==2)=false:=by simpa using aa
   obtain⟨pN,w5,YP,YQ,YR⟩:=mi.out w2 J (.slice none 0 0) w.heap.size [] (.slice none 0 0) w.heap.size false (ay.refl _ _) Qg.out wH (by rw[Cx.out.1];exact bD.nil _ _) (aI _) (by rw[Cx.out.1];intro h;exact absurd rfl h) (lQ.nil _ _) (aI _) (by omega) (λh=>by cases h) (λ_ n' cY W=>by
    rcases W with ⟨h1,-⟩|⟨h1,-⟩
    ·rw[<-Yk.out] at h1;exact Sw h1
    ·rw[<-Yk.out] at h1;exact aa h1)
   obtain⟨mO,rp,JL,V⟩:=hh4 pN YP YQ YR;clear pN YP YQ YR;generalize J.K=K at *;go_wp2_with(with_reducible first|refine gS 75 EF.out ?_|refine gL 75 mO.out ?_|refine gS 75 rp.out ?_);exact aH (cJ results185 rfl JL.out rfl rfl) rfl V.out
def Bt (X:List Int) (i:Int) (n:bS) (own:List Nat):Prop:=
 (0<=i/\i<32)/\ya X (fS X i) n own/\n.F=2/\cm n/\own.length=eQ n/\pE X (fS X i) n own
def sw (w:World) (X:List Int) (i:Int) (e:Ending) (w':World):Prop:=
 ∃n v g own z h ok,e= .returned (.tuple #[aL n v,z,.bool ok])/\n.B.length=13/\bD w' v g n.E/\w.heap.size<=g/\lQ w' z h own/\w.heap.size<=h/\ay [] w w'/\
  (ok=true->Bt X i n own/\own.length<=24/\(∀c,c∈own->0<c/\c<256)/\n.E.length<=72/\∀k,k<n.E.length->(eY n.E k).size<=7)/\(ok=false->n=bY/\own=[]/\∀n' G,¬Bt X i n' G)
theorem JU {lt:ByteArray×Int->ByteArray×Int->Bool}:∀(l2 h:List (ByteArray×Int)),h.Perm l2->h.Pairwise (λa b=>lt b a=false)->l2.Pairwise (λa b=>lt a b=true)->h=l2
 | [],h,hp,_,_=>hp.eq_nil
 |b::t2,[],hp,_,_=>by have :=hp.length_eq;simp at this
 |b::t2,a::t1,hp,h1,h2=>by
  rw[List.pairwise_cons] at h1 h2;by_cases e:a=b
  ·subst e
   rw[JU t2 t1 (List.Perm.cons_inv hp) h1.2 h2.2]
  grind [List.mem_cons_self]
theorem NG (E:List (ByteArray×Int))(i:Nat)(h:i<E.length):E[i]=(eY E i,jq E i):=by
 grind [eY,jq]
theorem Al{n:bS}(h:oW n):n.E.Pairwise (λa b=>Op.bytesLess a.1.toList b.1.toList=true):=by
 have G:∀k,k+1<n.E.length->Op.bytesLess (eY n.E k).toList (eY n.E (k+1)).toList=true:=λk W=>by
  have h1:=(h.2.2.2 (k+1) W).2.2 (by omega)
  grind [leB,sY]
 have z:∀d i,i+1+d<n.E.length->Op.bytesLess (eY n.E i).toList (eY n.E (i+1+d)).toList=true:=by
  intro d;induction d with
  |zero=>exact λi J=>G i J
  |succ d ih=>grind [ot]
 rw[dh];intro i j J V U;rw[NG _ i J,NG _ j V];have :=z (j-i-1) i (by omega)
 grind
theorem ya.uniq{n n':bS}{V:List Nat}(h:ya X L n own)(W:ya X L n' V)(hR:cm n'):n'=n/\V=own:=by
 rcases h with ⟨h1,l,U,rfl⟩|⟨h1,E,E',U,-,h3,h4,rfl⟩
 ·rcases W with ⟨G,l',z,rfl⟩|⟨G,-⟩
  ·obtain⟨rfl,rfl⟩:=U.inj z
   exact⟨rfl,rfl⟩
  ·omega
 ·rcases W with ⟨G,-⟩|⟨G,F,J,z,-,g3,g4,rfl⟩
  ·omega
  ·rw[U] at z
   cases z;have hd:oW { iK L with E:=J }:=(hR.2.2.resolve_left (λh=>by have :(iK L).K=1:=h.1;omega)).2;have e:E'=J:=by
    refine JU (lt:=λa b=>Op.bytesLess a.1.toList b.1.toList) J E' (h3.trans g3.symm) ?_ (Al hd)
    grind [dh,NG]
   subst e;exact⟨rfl,rfl⟩
end
end Go.Proofs.YtimcfdnbpkiniaaGreatDoor
