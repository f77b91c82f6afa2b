/- Lemmas. -/
import Derived.Test.YtcecbdeamjigiaaGreatDoorH13
set_option maxHeartbeats 4000000
set_option maxRecDepth 100000
namespace Go.Proofs.YtcecbdeamjigiaaGreatDoor
open Go.RowKit
variable{w w' z:World}{J b gp y:Nat}{B X:List Int}{ps qs:List (Int×Int)}{i r:Int}{n:bM}{e:Ending}
theorem AP (h:eF w b gp B ps)(i:Int):
  Calls Tryz.prog 126 #[.pointer (some ⟨b,0,none⟩),.int .i64 i] w λe w'=>e= .returned (.bool (decide ((0<=i/\i<32)/\dI (az B ps) i)))/\ay [] w w':=by
 have z:=ar (vM i);have J:=ar (ja i);by_cases y:0<=i/\i<32
 ·rw[bj y] at z
  have HR:=ar (l6 h (824+8*i.toNat) (by omega));have V:eZ i=((824+8*i.toNat:Nat):Int):=by rw[eZ,aA (by omega)];omega
  have p8:=jd;have hq:=El (fQ (az B ps) (824+8*i.toNat)) (bh (n:=8) (a:=(0:Int)));have hg:=pZ;have G:Hid (decide (dy (az B ps) (824+8*i.toNat)=List.replicate 8 0)=decide ((0<=i/\i<32)/\dI (az B ps) i)):=by
   apply decide_eq_decide.2;exact⟨λh=>⟨y,h⟩,λh=>h.2⟩
  rw[V] at J;clear h y V;generalize ((824+8*i.toNat:Nat):Int)=p at *;generalize decide (dy (az B ps) (824+8*i.toNat)=List.replicate 8 0)=q at *;generalize (aR (dy (az B ps) (824+8*i.toNat))).toArray=Z at *;generalize (aR (List.replicate 8 0)).toArray=Z8 at *;go_enter Tryz.func126,Tryz.ntmps126;go_wp2_with fail;refine(z.out _).mono ?_;rintro e w' ⟨rfl,rfl⟩;go_wp2_with fail;refine(J.out _).mono ?_;rintro e w' ⟨rfl,rfl⟩;go_wp2_with fail;refine HR.out.mono ?_;rintro e w' ⟨rfl,U⟩;have W:=ar U;clear U;go_wp2_with fail;go_ret;refine⟨?_,W.out⟩;show Ending.returned (.bool q)=_;rw[G.out]
 ·rw[aT y] at z
  have G:Hid (decide ((0<=i/\i<32)/\dI (az B ps) i)=false):=aT λh=>y h.1
  clear h y J;go_enter Tryz.func126,Tryz.ntmps126;go_wp2_with fail;refine(z.out _).mono ?_;rintro e w' ⟨rfl,rfl⟩;go_wp2_with fail;go_ret;refine⟨?_,ay.refl _ _⟩;rw[G.out];rfl
theorem rz.mono(G:ay [] w z)(h:rz z b y B ps i n e w'):rz w b y B ps i n e w':=by
 obtain⟨r,qs,gA,U,h2,Z,W,J,V⟩:=h;have hz:=G.size;refine⟨r,qs,gA,U,by omega,Z,(G.mono (by simp)).trans W λx hx=> .inl hx,J,V⟩
theorem oQ.mono(G:ay [] w z)(h:oQ z b y B ps i n e w'):oQ w b y B ps i n e w':=by
 obtain⟨r,qs,gA,U,h2,Z,W,J,V⟩:=h;have hz:=G.size;refine⟨r,qs,gA,U,by omega,Z,(G.mono (by simp)).trans W λx hx=> .inl hx,J,V⟩
def Ws (w:World) (b:Nat) (i:Int) (Z:Array Value):World:=(w.alloc (.cells #[.pointer (some ⟨b,0,none⟩),.int .i64 i] 145)).alloc (.cells Z 110)
theorem Cr (w:World)(b:Nat)(i:Int)(Z:Array Value):ay [] w (Ws w b i Z)/\bm (Ws w b i Z) (w.heap.size+1) Z 110 :=by
 refine⟨((ay.refl _ _).alloc _).alloc _,?_⟩;have :=bm.new (w.alloc (.cells #[.pointer (some ⟨b,0,none⟩),.int .i64 i] 145)) Z 110;rwa[show(w.alloc (.cells #[.pointer (some ⟨b,0,none⟩),.int .i64 i] 145)).heap.size=w.heap.size+1 by simp] at this
theorem Pa (h:eF w b J B ps)(eT:dD (az B ps))(hT:kI w)(Df:J<w.heap.size)(pn:ps.length<=800000)(i:Int)(n:bM)(v:Value)(g:Nat)(hB:n.B.length=13)(hE:bz w v g n.E)
  (hN:∀k,k<n.E.length->(eh n.E k).size<=9223372036854775807) (ue:n.E.length≠0->g≠b/\g≠J):
  Calls Tryz.prog 141 #[oX b i,.agg (aU n v)] w (rz w b J B ps i n):=by
 obtain⟨z,G⟩:=Cr w b i (aU n v);have hz:=z.size;have V:=ar ((Wa (h.keep z (by simp) (by simp)) eT (hT.keep z) (by omega) pn i n v g hB (hE.keep z (by simp)) hN ue).mono λe w'=>rz.mono z);have W:=ar (cH G hB);clear h eT z G hE hT hN hz;unfold oX;generalize aU n v=Z at *;generalize QQ:Ws w b i Z=U at *;have y:(w.alloc (.cells #[.pointer (some ⟨b,0,none⟩),.int .i64 i] 145)).alloc (.cells Z 110)=U:=QQ;have nv:=ar y;have c1:U.cell? ⟨w.heap.size,0,none⟩=some (.pointer (some ⟨b,0,none⟩)):=by rw[<-y];simp
 have c2:U.cell? ⟨w.heap.size,1,none⟩=some (.int .i64 i):=by rw[<-y];simp
 clear QQ y;go_enter Tryz.func141,Tryz.ntmps141;go_wp2_with((with_reducible show wpList _ _ _ (⟨_,.load 110 (.tmp 3),_,_,_,_⟩::_) _ _);rw[nv.out];refine eU rfl 110 (.tmp 3) rfl _ rfl _ W.out ?_);refine V.out.mono ?_;rintro e w1 hp;have HP:=ar hp;obtain⟨r,qs,gA,rfl,-⟩:=hp;clear V W nv c1 c2;go_wp2_with fail;go_ret;exact HP.out
theorem Pb (h:eF w b J B ps)(eT:dD (az B ps))(hT:kI w)(Df:J<w.heap.size)(pn:ps.length<=800000)(i:Int)(n:bM)(v:Value)(g:Nat)(hB:n.B.length=13)(hE:bz w v g n.E)
  (hN:∀k,k<n.E.length->(eh n.E k).size<=9223372036854775807) (ue:n.E.length≠0->g≠b/\g≠J):
  Calls Tryz.prog 143 #[oX b i,.agg (aU n v)] w (oQ w b J B ps i n):=by
 obtain⟨z,G⟩:=Cr w b i (aU n v);have hz:=z.size;have V:=ar ((SU (h.keep z (by simp) (by simp)) eT (hT.keep z) (by omega) pn i n v g hB (hE.keep z (by simp)) hN ue).mono λe w'=>oQ.mono z);have W:=ar (cH G hB);clear h eT z G hE hT hN hz;unfold oX;generalize aU n v=Z at *;generalize QQ:Ws w b i Z=U at *;have y:(w.alloc (.cells #[.pointer (some ⟨b,0,none⟩),.int .i64 i] 145)).alloc (.cells Z 110)=U:=QQ;have nv:=ar y;have c1:U.cell? ⟨w.heap.size,0,none⟩=some (.pointer (some ⟨b,0,none⟩)):=by rw[<-y];simp
 have c2:U.cell? ⟨w.heap.size,1,none⟩=some (.int .i64 i):=by rw[<-y];simp
 clear QQ y;go_enter Tryz.func143,Tryz.ntmps143;go_wp2_with((with_reducible show wpList _ _ _ (⟨_,.load 110 (.tmp 3),_,_,_,_⟩::_) _ _);rw[nv.out];refine eU rfl 110 (.tmp 3) rfl _ rfl _ W.out ?_);refine V.out.mono ?_;rintro e w1 hp;have HP:=ar hp;obtain⟨r,qs,gA,rfl,-⟩:=hp;clear V W nv c1 c2;go_wp2_with fail;go_ret;exact HP.out
theorem I9 (X:List Int)(l:List Nat)(k:Nat)(h:k<l.length):bQ X (l.take (k+1))=bQ X (l.take k)++dG (az X (bQ X (l.take k))) (l.getD k 0) false:=by
 rw[bt h,I7];simp[h]
theorem Wt{z:Nat}(h:eF w b z B ps)(eT:dD (az B ps))(_:z<w.heap.size)(pn:ps.length<=900000){v:Value}{g:Nat}{l:List Nat}(hR:Reads w v g (cW l))(hl:l.length<=1000)(hg:l≠[]->g≠b/\g≠z):
  Calls Tryz.prog 97 #[.pointer (some ⟨b,0,none⟩),v] w (iy w b z B (ps++bQ (az B ps) l)):=by
 have hX:(az B ps).length=3128:=h.raw.lx;have af:=ar hX;have aj:=h.raw.lt;have HS:=ar h;have sf:=ar eT;have zY:=ar pn;have HR:=ar hR;have HG:=ar hg;obtain⟨a,cap,rfl,q1,q2,-⟩:=hR;obtain⟨n,V⟩:∃n,l.length=n:=⟨_,rfl⟩;have HN:=ar V;rw[fO,V] at HR q1 ⊢;rw[V] at hl;clear h eT pn hg hX V;unfold maxLen at q2;go_enter Tryz.func97,Tryz.ntmps97;go_wp2_with fail;go_loopg [8] n (λgh s8 wx=>∃k:Nat,k+gh=n/\s8= .int .i64 (k:Int)/\Hid (ij w b z B (ps++bQ (az B ps) (l.take k)) wx))
 case atStart=>exact⟨0,by omega,rfl,by show ij _ _ _ _ _ _;rw[eX,show bQ (az B ps) []=[] from rfl,bq];exact ij.refl HS.out⟩
 case round=>
  obtain⟨k,hk,rfl,HQ⟩:=hrel;cases gk with
  |zero=>
   obtain rfl:k=n:=by omega
   have W:¬(k:Int)<(k:Int):=by omega
   clear hk;go_wp2_with fail;go_end0;have :=HQ.out;rw[aQ (by rw[HN.out];omega)] at this;exact this.post
  |succ gg=>
   have xG:k<n:=by omega
   have W:(k:Int)<(n:Int):=by omega
   have ez:(0:Int)<=(k:Int):=by omega
   have G:k<l.length:=by rw[HN.out];exact xG
   have U:l≠[]:=by intro e;rw[e] at G;simp at G
   obtain⟨lv,p1,p2,Z⟩:=HQ.out;have B1:=HG.out U;have ac:=HR.out.keep Z (by simp;omega);have J:=iu (l.take k) (az B ps) sf.out af.out;have ae:=vL (l.take k) (az B ps);have lR:(l.take k).length<=1000:=by rw[aI];omega
   have YW:=ar (I9 (az B ps) l k G);obtain⟨a',ah,aa,r1,r2,r3⟩:=ac;cases aa;obtain⟨ai,off,rfl,r4⟩:=r3 (by intro e;have :=ck List.length e;rw[fO,cp] at this;omega);have y:=(r4 k (by rw[fO];exact G)).trans (mV G);generalize l.getD k 0=c at *;have Sk:Hid (Calls Tryz.prog 139 #[.pointer (some ⟨b,0,none⟩),.int .i64 (c:Int),.bool false] wr (iy wr b lv B ((ps++bQ (az B ps) (l.take k))++dG (az (az B ps) (bQ (az B ps) (l.take k))) c false))):=by
    have :=Hn p2 (by rw[bo];exact J.1) (by rw[aF];have :=zY.out;omega) (c:Int) false;rw[bo,aH] at this;exact this
   have Ya:=ar p1;have zV:=ar Z;clear p1 p2 Z J ae lR r1 r2 r3 r4 B1 U;go_wp2_with fail;refine Sk.out.mono ?_;rintro e w2 ⟨rfl,ho⟩;have HO:Hid (ij w b z B (ps++bQ (az B ps) (l.take (k+1))) w2):=by
    show ij _ _ _ _ _ _;rw[YW.out,<-bf];exact ij.trans Ya.out zV.out ho
   clear ho Sk y;go_wp2_with fail;go_roundg gg;case measure=>omega
   case rel=>exact⟨k+1,by omega,by go_num,HO.out⟩
def Pc (X:List Int) (i:Int) (n:bM) (own:List Nat) (r:Int):Prop:=
 (r=1/\¬(0<=i/\i<32)/\n=cB/\own=[])\/(r=2/\(0<=i/\i<32)/\dI X i/\n=cB/\own=[])\/
  (r=10/\(0<=i/\i<32)/\¬dI X i/\(∀n' h,¬dT X i n' h)/\n=cB/\own=[])\/(r=0/\dT X i n own)
def xp (w:World) (X:List Int) (i:Int) (e:Ending) (w':World):Prop:=
 ∃n v g own h y r,e= .returned (.tuple #[.agg (aU n v),h,.int .i64 r])/\n.B.length=13/\bz w' v g n.E/\w.heap.size<=g/\jL w' h y own/\w.heap.size<=y/\ay [] w w'/\Pc X i n own r
theorem Wu (G:ay [] (w.alloc (.cells (aU cB (.slice none 0 0)) 110)) z)(h:Pc X i cB [] r):
  ∃w',(storeVar 110 ⟨w.heap.size,0,none⟩ (.agg (aU cB (.slice none 0 0)))).run Tryz.prog z= .ok () w'/\(loadVar 110 ⟨w.heap.size,0,none⟩).run Tryz.prog w'= .ok (.agg (aU cB (.slice none 0 0))) w'/\xp w X i (.returned (.tuple #[.agg (aU cB (.slice none 0 0)),.slice none 0 0,.int .i64 r])) w':=by
 have y:=bm.new w (aU cB (.slice none 0 0)) 110;obtain⟨w',q1,q2,q3⟩:=br (P:= Tryz.prog) (ty:= 110) (cs:=lL cB (.slice none 0 0)) gZ (y.keep G (by simp)) rfl (jg rfl);exact⟨w',q1,cH q2 rfl,cB,_,w.heap.size,[],_,w.heap.size,r,rfl,rfl,bz.nil _ _,aG _,jL.nil _ _,aG _,(((ay.refl [] w).alloc _).trans' G).trans q3 (by intro x J;rw[au] at J;omega),h⟩
def AQ (w:World) (X:List Int) (i f:Int) (e:Ending) (w':World):Prop:=
 ∃n v g own h y ok,e= .returned (.tuple #[.agg (aU n v),h,.bool ok])/\n.B.length=13/\bz w' v g n.E/\w.heap.size<=g/\jL w' h y own/\w.heap.size<=y/\ay [] w w'/\
  (ok=true->dT X i n own)/\(ok=false->n=cB/\own=[]/\∀n' z,dT X i n' z->n'.F≠f)
theorem Gf (eT:dD X)(h:jb w X i e w'):AQ w X i 1 e w':=by
 obtain⟨n,v,g,own,va,W,ok,h1,h2,h3,h4,V,h6,h7,h8,Z⟩:=h;refine⟨n,v,g,own,va,W,ok,h1,h2,h3,h4,V,h6,Z,λz=> ?_,λz=> ?_⟩
 ·obtain⟨y,G,J,a4⟩:=h7 z
  rw[J,a4];exact O7 eT y G
 ·obtain⟨y,G,J⟩:=h8 z
  exact⟨G,J,λn' cD U hf=>y ⟨U.rng,(Gb U hf).1⟩⟩
theorem Gg (h:oh w X i e w'):AQ w X i 2 e w':=by
 obtain⟨n,v,g,own,va,V,ok,h1,J,h3,h4,U,h6,W,h7,h8⟩:=h;refine⟨n,v,g,own,va,V,ok,h1,J,h3,h4,U,h6,W,λz=> ?_,λz=> ?_⟩
 ·obtain⟨y,-,G,-,-⟩:=h7 z
  exact O8 J G y
 ·obtain⟨a2,G,y⟩:=h8 z
  exact⟨a2,G,λn' cD Z hf=>y n' cD (Gc Z hf)⟩
theorem uj{h:World}{v U:Value}{g V:Nat}{own:List Nat}(Z:ay [] w h)(hB:n.B.length=13)(J:bz h v g n.E)(hO:jL h U V own)(sk:w.heap.size<=V):
  ∃y,(storeVar 110 ⟨h.heap.size,0,none⟩ (.agg (aU n v))).run Tryz.prog (h.alloc (.cells (aU cB (.slice none 0 0)) 110))= .ok () y/\(loadVar 110 ⟨h.heap.size,0,none⟩).run Tryz.prog y= .ok (.agg (aU n v)) y/\
   bz y v g n.E/\(∃G,jL y U G own/\w.heap.size<=G)/\ay [] w y/\bm y h.heap.size (aU n v) 110 :=by
 have hb:=bm.new h (aU cB (.slice none 0 0)) 110;obtain⟨y,q1,q2,q3⟩:=ug (n:=n) (v:=v) hb rfl hB (qw J);have W:ay [h.heap.size] h y:=((ay.refl [h.heap.size] h).alloc _).trans' q3;refine⟨y,q1,cH q2 hB,J.keep W (λh0=> ?_),?_,(Z.alloc _).trans q3 (by intro x z;rw[au] at z;have :=Z.size;omega),q2⟩
 ·exact J.apart (l:=[h.heap.size]) (λx z=>by rw[au] at z;omega) h0
 ·exact hO.away sk W λx z=>by rw[au] at z;omega
theorem Pd (r:List Int)(w:World):(Instr.field 110 (.agg (aU (gq r) (.slice none 0 0))) 0).run Tryz.prog w= .ok (.int .i64 (gq r).F) w:=by kernel_rfl
theorem get_at(h:eF w b gp B ps)(eT:dD (az B ps))(i:Int):
  Calls Tryz.prog 95 #[.pointer (some ⟨b,0,none⟩),.int .i64 i] w (xp w (az B ps) i):=by
 have ez:ay [] w (w.alloc (.cells (aU cB (.slice none 0 0)) 110)):=(ay.refl _ _).alloc _;have HI:=ar (vM i);have HT:=ar (ja i);have xI:=ar h;have sf:=ar eT;have Z:Hid (∀(wz:World) (r:Int),ay [] (w.alloc (.cells (aU cB (.slice none 0 0)) 110)) wz->Pc (az B ps) i cB [] r->_):=λwz r hk hr=>Wu (w:=w) hk hr
 have xL:=ar (AP (h.keep ez (by simp) (by simp)) i);have xf:=eV;have xe:=ar (bm.new w (aU cB (.slice none 0 0)) 110);obtain⟨W0,aq⟩:∃W0,w.alloc (.cells (aU cB (.slice none 0 0)) 110)=W0:=⟨_,rfl⟩;rw[aq] at Z xL xe ez;have nv:=ar aq;have fS:=ar ez;clear h eT aq ez;generalize X5:az B ps=X at *;have MX:=ar X5;clear X5;generalize ak:aU cB (.slice none 0 0)=Z0 at *;have AO:=ar ak;clear ak;by_cases hi:0<=i/\i<32
 ·rw[bj hi] at HI
  by_cases hf:dI X i
  ·obtain⟨w1,dc⟩:∃w1,w1=W0:=⟨_,rfl⟩
   rw[bj (show(0<=i/\i<32)/\dI X i from ⟨hi,hf⟩)] at xL;have af:Hid (∀wz,ay [] W0 wz->_):=λwz hk=>Z.out wz 2 hk (.inr (.inl ⟨rfl,hi,hf,rfl,rfl⟩))
   clear hi hf Z xe HT dc;go_enter Tryz.func95,Tryz.ntmps95;go_wp2_with fail;rw[nv.out];refine(HI.out _).mono ?_;rintro e w' ⟨rfl,rfl⟩;go_wp2_with fail;refine xL.out.mono ?_;rintro e w2 ⟨rfl,ag⟩;obtain⟨w3,q1,q2,q3⟩:=af.out w2 ag;have HS:=ar q1;have HL:=ar q2;have HP:=ar q3;clear q1 q2 q3 ag af xL;go_wp2_with(with_reducible refine gS 110 HS.out ?_);exact aK (bE Tryz.results95 rfl HL.out rfl rfl) rfl HP.out
  ·rw[aT (show ¬((0<=i/\i<32)/\dI X i) from λh=>hf h.2)] at xL
   have k6:eZ i=((824+8*i.toNat:Nat):Int):=by rw[eZ,aA (by omega)];omega
   rw[k6] at HT;have j1:Hid (∀z,ay [] W0 z->Calls Tryz.prog 138 #[.pointer (some ⟨b,0,none⟩),.int .i64 ((824+8*i.toNat:Nat):Int)] z λe w'=>e= .returned (.agg (aR (eO X i)).toArray)/\ay [] z w'):=λz hk=>by
    have :=l6 (xI.out.keep (fS.out.trans' hk) (by simp) (by simp)) (824+8*i.toNat) (by omega);rw[MX.out] at this;exact this
   have sI:(eO X i).length=8:=fQ _ _;have sr:∀k,0<=(eO X i).getD k 0/\(eO X i).getD k 0<18446744073709551616:=yB.row sf.out _;have ai:=ar (λz=>yt (eO X i) sI (sr 0) (sr 1) z);have hF:(gq (eO X i)).F=(eO X i).getD 0 0%256:=rfl;have aL:=Pd (eO X i);have aj:Hid (∀n own,dT X i n own->(gq (eO X i)).F=n.F):=λn own h=>h.format
   have M4:=ar (λz=>zI (gq (eO X i)).F z);have HO:Hid (∀z,ay [] W0 z->Calls Tryz.prog 140 #[oX b i] z (AQ z X i 1)):=λz hk=>by
    have :=Lx (xI.out.keep (fS.out.trans' hk) (by simp) (by simp)) (by rw[MX.out];exact sf.out) i;rw[MX.out] at this;exact this.mono λe w'=>Gf sf.out
   have HN:Hid (∀z,ay [] W0 z->Calls Tryz.prog 142 #[oX b i] z (AQ z X i 2)):=λz hk=>by
    have :=Lz (xI.out.keep (fS.out.trans' hk) (by simp) (by simp)) (by rw[MX.out];exact sf.out) i;rw[MX.out] at this;exact this.mono λe w'=>Gg
   have Ja:Hid (Z0.size=18):=by rw[<-AO.out];rfl
   have UJ:=ar hf;have QL:=ar hi;clear hF sI sr k6 hi hf;generalize X4:((824+8*i.toNat:Nat):Int)=pi at *;clear X4;generalize aI:(aR (eO X i)).toArray=R8 at *;clear aI;generalize aH:aU (gq (eO X i)) (.slice none 0 0)=ZT at *;clear aH;generalize (gq (eO X i)).F=f at *;go_enter Tryz.func95,Tryz.ntmps95;go_wp2_with fail;rw[nv.out];refine(HI.out _).mono ?_;rintro e w' ⟨rfl,rfl⟩;go_wp2_with fail;refine xL.out.mono ?_;rintro e w2 ⟨rfl,ag⟩;have fj:=ar ag;clear ag;go_wp2_with fail;refine(HT.out _).mono ?_;rintro e w' ⟨rfl,rfl⟩;go_wp2_with fail;refine(j1.out _ fj.out).mono ?_;rintro e w3 ⟨rfl,aB⟩;have lS:=ar (fj.out.trans' aB);clear aB fj;go_wp2_with fail;refine(ai.out _).mono ?_;rintro e w4 ⟨rfl,aC⟩;have nK:=ar (lS.out.trans' aC);clear aC lS;go_wp2_with fail;refine(M4.out _).mono ?_;rintro e w5 ⟨jG,fa,fb,aw,av,rfl,h1,h2⟩;have oH:=ar (nK.out.trans' jG);have aD:=bm.new w5 #[.nilFunc,.nilFunc] 141;obtain⟨w6,q1,q2,q3⟩:=Cp aD aw av;have K5:=ar q1;have mX:Hid (ay [] W0 w6):=(oH.out.alloc _).trans q3 (by intro x hx;rw[au] at hx;have :=oH.out.size;omega);have M5:Hid (w6.cell? ⟨w5.heap.size,0,none⟩=some fa):=by show _=_;rw[q2.cell];rfl
   clear jG nK aD q1 q2 q3;by_cases Uw:f=1
   ·rw[bj (show f=1\/f=2 from .inl Uw)]
    obtain⟨rfl,rfl⟩:=h1 Uw;have c6:=M5.out;clear h1 h2 M5 aw av;go_wp2_with(with_reducible refine gS 141 K5.out ?_);refine(HO.out w6 mX.out).mono ?_;rintro e w7 ⟨n,v,g,own,va,ga,ok,rfl,hB,hE,hg,hO,sk,AJ,IC,Dx⟩;have GU:=ar (mX.out.trans' AJ);obtain⟨w8,q1,q2,XZ,⟨ap,ac,Th⟩,qP,V0⟩:=uj GU.out hB hE hO (by have :=mX.out.size;omega);have Ic:W0.heap.size<=g:=by have :=mX.out.size;omega
    rw[AO.out] at q1;have ae:=ar q1;have UF:=ar q2;have QM:=ar qP;have z6:=ar IC;have MF:=ar Dx;have Z2:=ar XZ;have yo:=ar ac;have K2:=ar hB;have aa:=ar Ic;have Ti:=ar Th;clear AJ hE hO hB hg sk q1 q2 XZ ac qP V0 Ic Th IC Dx c6 K5 HO HN ai j1 M4 HI HT xL;generalize N9:aU n v=ZN at *;have ax:=ar N9;clear N9;cases ok with
    |false=>
     obtain⟨e1,e2,e3⟩:=MF.out rfl;obtain⟨w9,G,W,y⟩:=Z.out w8 10 QM.out (.inr (.inr (.inl ⟨rfl,QL.out,UJ.out,λn' cD hs=>e3 n' cD hs ((aj.out n' cD hs).symm.trans Uw),rfl,rfl⟩)));have U:=ar G;have Oc:=ar W;have V7:=ar y;clear e1 e2 e3 G W y Z z6 MF;go_wp2_with(first|(with_reducible refine gS 110 ae.out ?_)|(with_reducible refine gS 110 U.out ?_));exact aK (bE Tryz.results95 rfl Oc.out rfl rfl) rfl V7.out
    |true=>
     obtain⟨w9,G,W,y⟩:=ug (n:=n) (v:=v) (xe.out.keep QM.out (by simp)) Ja.out K2.out (qw Z2.out);have J:=cH W K2.out;have V:xp w X i (.returned (.tuple #[.agg (aU n v),va,.int .i64 0])) w9:=by
      have ak:=fS.out.size;have aF:=xe.out.lt;refine⟨n,v,g,own,va,ap,0,rfl,K2.out,Z2.out.keep y (λh0=> ?_),?_,yo.out.keep y ?_,?_,(fS.out.trans' QM.out).trans y (by intro x hx;rw[au] at hx;omega),.inr (.inr (.inr ⟨rfl,z6.out rfl⟩))⟩
      ·have :=aa.out
       rw[au];omega
      ·have :=aa.out;omega
      ·have :=Ti.out
       rw[au];omega
      ·have :=Ti.out;omega
     rw[ax.out] at G J V;have U:=ar G;have Oc:=ar J;have V7:=ar V;clear G W y J V Z z6 MF;go_wp2_with(first|(with_reducible refine gS 110 ae.out ?_)|(with_reducible refine gL 110 UF.out ?_)|(with_reducible refine gS 110 U.out ?_));exact aK (bE Tryz.results95 rfl Oc.out rfl rfl) rfl V7.out
   ·by_cases ah:f=2
    ·rw[bj (show f=1\/f=2 from .inr ah)]
     obtain⟨rfl,rfl⟩:=h2 ah;have c6:=M5.out;clear h1 h2 M5 aw av;go_wp2_with(with_reducible refine gS 141 K5.out ?_);refine(HN.out w6 mX.out).mono ?_;rintro e w7 ⟨n,v,g,own,va,ga,ok,rfl,hB,hE,hg,hO,sk,AJ,IC,Dx⟩;have GU:=ar (mX.out.trans' AJ);obtain⟨w8,q1,q2,XZ,⟨ap,ac,Th⟩,qP,V0⟩:=uj GU.out hB hE hO (by have :=mX.out.size;omega);have Ic:W0.heap.size<=g:=by have :=mX.out.size;omega
     rw[AO.out] at q1;have ae:=ar q1;have UF:=ar q2;have QM:=ar qP;have z6:=ar IC;have MF:=ar Dx;have Z2:=ar XZ;have yo:=ar ac;have K2:=ar hB;have aa:=ar Ic;have Ti:=ar Th;clear AJ hE hO hB hg sk q1 q2 XZ ac qP V0 Ic Th IC Dx c6 K5 HO HN ai j1 M4 HI HT xL;generalize N9:aU n v=ZN at *;have ax:=ar N9;clear N9;cases ok with
     |false=>
      obtain⟨e1,e2,e3⟩:=MF.out rfl;obtain⟨w9,G,W,y⟩:=Z.out w8 10 QM.out (.inr (.inr (.inl ⟨rfl,QL.out,UJ.out,λn' cD hs=>e3 n' cD hs ((aj.out n' cD hs).symm.trans ah),rfl,rfl⟩)));have U:=ar G;have Oc:=ar W;have V7:=ar y;clear e1 e2 e3 G W y Z z6 MF;go_wp2_with(first|(with_reducible refine gS 110 ae.out ?_)|(with_reducible refine gS 110 U.out ?_));exact aK (bE Tryz.results95 rfl Oc.out rfl rfl) rfl V7.out
     |true=>
      obtain⟨w9,G,W,y⟩:=ug (n:=n) (v:=v) (xe.out.keep QM.out (by simp)) Ja.out K2.out (qw Z2.out);have J:=cH W K2.out;have V:xp w X i (.returned (.tuple #[.agg (aU n v),va,.int .i64 0])) w9:=by
       have ak:=fS.out.size;have aF:=xe.out.lt;refine⟨n,v,g,own,va,ap,0,rfl,K2.out,Z2.out.keep y (λh0=> ?_),?_,yo.out.keep y ?_,?_,(fS.out.trans' QM.out).trans y (by intro x hx;rw[au] at hx;omega),.inr (.inr (.inr ⟨rfl,z6.out rfl⟩))⟩
       ·have :=aa.out
        rw[au];omega
       ·have :=aa.out;omega
       ·have :=Ti.out
        rw[au];omega
       ·have :=Ti.out;omega
      rw[ax.out] at G J V;have U:=ar G;have Oc:=ar J;have V7:=ar V;clear G W y J V Z z6 MF;go_wp2_with(first|(with_reducible refine gS 110 ae.out ?_)|(with_reducible refine gL 110 UF.out ?_)|(with_reducible refine gS 110 U.out ?_));exact aK (bE Tryz.results95 rfl Oc.out rfl rfl) rfl V7.out
    ·rw[aT (show ¬(f=1\/f=2) by omega)]
     have af:Hid (Pc X i cB [] 10):= .inr (.inr (.inl ⟨rfl,QL.out,UJ.out,λn' cD hs=>by
      have :=aj.out n' cD hs;have :=hs.right.1;omega,rfl,rfl⟩))
     obtain⟨w7,G,W,y⟩:=Z.out w6 10 mX.out af.out;have aG:=ar G;have XW:=ar W;have aJ:=ar y;clear G W y Z HO HN ai j1 M4 HI HT xL af h1 h2 Uw ah aj;go_wp2_with(first|(with_reducible refine gS 141 K5.out ?_)|(with_reducible refine gS 110 aG.out ?_));exact aK (bE Tryz.results95 rfl XW.out rfl rfl) rfl aJ.out
 ·rw[aT hi] at HI
  obtain⟨w1,q1,q2,q3⟩:=Z.out W0 1 (ay.refl _ _) (.inl ⟨rfl,hi,rfl,rfl⟩);have HS:=ar q1;have HL:=ar q2;have HP:=ar q3;clear q1 q2 q3 hi Z xL xe HT;go_enter Tryz.func95,Tryz.ntmps95;go_wp2_with fail;rw[nv.out];refine(HI.out _).mono ?_;rintro e w' ⟨rfl,rfl⟩;go_wp2_with(with_reducible refine gS 110 HS.out ?_);exact aK (bE Tryz.results95 rfl HL.out rfl rfl) rfl HP.out
def Cs (w:World) (b y:Nat) (B:List Int) (ps:List (Int×Int)) (i:Int) (n:bM) (e:Ending) (w':World):Prop:=
 ∃r qs h,e= .returned (.int .i64 r)/\(h=y\/(w.heap.size<=h/\h<w'.heap.size))/\eF w' b h B (ps++qs)/\ay [b,y] w w'/\qs.length<=600/\
  ((r=7/\(bb (az B ps)).length<cN n/\qs=[])\/(r=0/\cN n<=(bb (az B ps)).length/\qs=DD (az B ps) i.toNat n ((bb (az B ps)).take (cN n))))
theorem Tj (hi:0<=i/\i<32)(hR:bP n)(hF:n.F=1)(h:rz w b J B ps i n e w'):Cs w b J B ps i n e w':=by
 have Z:cN n=dX n:=aA (by omega);have W:∀X own,DD X i.toNat n own=l9 X i.toNat n own:=λX own=>aA (by omega)
 obtain⟨r,qs,gA,U,a2,a3,V,a5,a6⟩:=h;refine⟨r,qs,gA,U,a2,a3,V,by omega,?_⟩;rw[Z,W];rcases a6 with ⟨-,c,-⟩|⟨z,-,y,G⟩|⟨z,-,y,G⟩
 ·exact absurd ⟨hi,hF,hR⟩ c
 ·exact .inl ⟨z,y,G⟩
 ·exact .inr ⟨z,y,G⟩
theorem Tk (hi:0<=i/\i<32)(hR:bP n)(hF:n.F=2)(h:oQ w b J B ps i n e w'):Cs w b J B ps i n e w':=by
 have Z:cN n=dU n:=aB hF;have W:∀X own,DD X i.toNat n own=j4 X i.toNat n own:=λX own=>aB hF
 obtain⟨r,qs,gA,U,a2,a3,V,a5,a6⟩:=h;refine⟨r,qs,gA,U,a2,a3,V,by omega,?_⟩;rw[Z,W];rcases a6 with ⟨-,c,-⟩|⟨z,-,y,G⟩|⟨z,-,y,G⟩
 ·exact absurd ⟨hi,hF,hR⟩ c
 ·exact .inl ⟨z,y,G⟩
 ·exact .inr ⟨z,y,G⟩
def Tl (X:List Int) (i:Int) (own:List Nat):Prop:=(dI X i/\own=[])\/∃m,dT X i m own
def pI (X:List Int) (i:Int) (n:bM) (r:Int) (qs:List (Int×Int)):Prop:=
 (r=1/\¬((0<=i/\i<32)/\bP n)/\qs=[])\/
 (r=10/\((0<=i/\i<32)/\bP n)/\¬dI X i/\(∀n' h,¬dT X i n' h)/\qs=[])\/
 (∃own,((0<=i/\i<32)/\bP n)/\Tl X i own/\((r=7/\(bb (az X (bQ X own))).length<cN n/\qs=[])\/(r=0/\cN n<=(bb (az X (bQ X own))).length/\qs=jI X i.toNat n own)))
def mb (w:World) (b y:Nat) (B:List Int) (ps:List (Int×Int)) (i:Int) (n:bM) (e:Ending) (w':World):Prop:=
 ∃r qs h,e= .returned (.int .i64 r)/\(h=y\/(w.heap.size<=h/\h<w'.heap.size))/\eF w' b h B (ps++qs)/\ay [b,y] w w'/\qs.length<=700/\pI (az B ps) i n r qs
theorem mb.nothing(h:eF w b y B ps)(z:ay [] w w')(G:pI (az B ps) i n r []):mb w b y B ps i n (.returned (.int .i64 r)) w':=
 ⟨r,[],y,rfl,.inl rfl,by rw[bq];exact h.keep z (by simp) (by simp),z.mono (by simp),by simp,G⟩
theorem yG{z:Nat}(h:eF w b z B ps)(eT:dD (az B ps))(hT:∀y,ay [b,z] w y->kI y)(Df:z<w.heap.size)(pn:ps.length<=700000)(i:Int)(n:bM)(v:Value)(g:Nat)(hB:n.B.length=13)(hE:bz w v g n.E)
  (hN:∀k,k<n.E.length->(eh n.E k).size<=9223372036854775807) (ue:n.E.length≠0->g≠b/\g≠z):
  Calls Tryz.prog 49 #[.pointer (some ⟨b,0,none⟩),.int .i64 i,.agg (aU n v)] w (mb w b z B ps i n):=by
 have ez:ay [] w (w.alloc (.cells (aU n v) 110)):=(ay.refl _ _).alloc _;have pE:=bm.new w (aU n v) 110;have HI:=ar (vM i);have uM:=ar (λy (U:ay [] w y)=>kV n v g hB y (hE.keep U (by simp)) hN);have jr:Hid (∀(w':World) (r:Int),ay [] w w'->pI (az B ps) i n r []->mb w b z B ps i n (.returned (.int .i64 r)) w'):=λw' r U hr=>mb.nothing h U hr
 have xK:=ar (λy (U:ay [] (w.alloc (.cells (aU n v) 110)) y)=>cH (pE.keep U (by simp)) hB);obtain⟨G,ap⟩:∃G,w.alloc (.cells (aU n v) 110)=G:=⟨_,rfl⟩;rw[ap] at ez pE xK;have nv:=ar ap;have fS:=ar ez;have VC:=ar pE;have xI:=ar h;have sf:=ar eT;have HE:=ar hE;have HB:=ar hB;have ag:=ar hT;have ai:=ar hN;have Ss:=ar ue;have zY:=ar pn;have aw:=ar Df;clear h eT ap ez pE hE hN hT ue pn Df;by_cases hi:0<=i/\i<32
 ·rw[bj hi] at HI
  by_cases hR:bP n
  ·rw[bj hR] at uM
   obtain⟨X,hX⟩:∃X,az B ps=X:=⟨_,rfl⟩;have MX:=ar hX;have ba:Hid (X.length=3128):=by show _=_;rw[<-hX];exact xI.out.raw.lx
   have bh:b<w.heap.size:=xI.out.raw.lt;have br:=ar bh;have O4:Hid (dD X):=by show dD X;rw[<-hX];exact sf.out
   have BD:=ar (xK.out G (ay.refl _ _));have Wv:=ar (uM.out G fS.out);have KR:Hid (∀y,ay [] G y->Calls Tryz.prog 95 #[.pointer (some ⟨b,0,none⟩),.int .i64 i] y (xp y X i)):=λy U=>by
    have :=get_at (xI.out.keep (fS.out.trans' U) (by simp) (by simp)) sf.out i;rwa[hX] at this
   have bk:Hid (∀y,ay [] G y->eF y b z B ps):=λy U=>xI.out.keep (fS.out.trans' U) (by simp) (by simp)
   have XQ:Hid (∀y,ay [] G y->Calls Tryz.prog 96 #[.pointer (some ⟨b,0,none⟩)] y λe w'=>e= .returned (.int .i64 (ps.length:Int))/\y=w'):=λy U=>
    ND (xI.out.keep (fS.out.trans' U) (by simp) (by simp))
   have aq:Hid (∀y va ga own,ay [] G y->Reads y va ga (cW own)->G.heap.size<=ga->own.length<=32->Calls Tryz.prog 97 #[.pointer (some ⟨b,0,none⟩),va] y (iy y b z B (ps++bQ X own))):=λy va ga own U hr hg hl=>by
    have hz:=fS.out.size;have se:=aw.out;have :=Wt (xI.out.keep (fS.out.trans' U) (by simp) (by simp)) sf.out (by have :=U.size;omega) (by have :=zY.out;omega) hr (by omega) (λ_=>by omega);rwa[hX] at this
   have Dw:Hid (∀y lv own,ay [b,z] G y->eF y b lv B (ps++bQ X own)->lv<y.heap.size->(lv=z\/G.heap.size<=lv)->own.length<=32->∀f:Nat,((n.F=1->f= 141)/\(n.F=2->f= 143))->
     Calls Tryz.prog f #[oX b i,.agg (aU n v)] y (Cs y b lv B (ps++bQ X own) i n)):=λy lv own U hs se ue nM f hf=>by
    have xJ:ay [b,z] w y:=(fS.out.mono (by simp)).trans' U;have aJ:dD (az B (ps++bQ X own)):=by rw[bo,hX];exact(iu own X O4.out ba.out).1
    have af:(ps++bQ X own).length<=800000:=by
     have V:=vL own X;have J:=zY.out;rw[aF];omega
    have bs:=fS.out.size;have aL:bz y v g n.E:=HE.out.keep xJ (λh0=>by
     have :=Ss.out h0;simp only[aS,aV,bL,not_or];exact this)
    have aM:n.E.length≠0->g≠b/\g≠lv:=λh0=>by
     have V:=Ss.out h0;refine⟨V.1,λJ=> ?_⟩;rcases ue with h3|h3
     ·exact V.2 (J.trans h3)
     ·have :=HE.out.apart (l:=[lv]) (λx hx=>by rw[au] at hx;omega) h0
      rw[au] at this;exact this J
    rcases hR.1 with hF|hF
    ·rw[hf.1 hF]
     exact(Pa hs aJ (ag.out y xJ) se af i n v g HB.out aL ai.out aM).mono λe w'=>Tj hi hR hF
    ·rw[hf.2 hF]
     exact(Pb hs aJ (ag.out y xJ) se af i n v g HB.out aL ai.out aM).mono λe w'=>Tk hi hR hF
   have Yb:Hid (∀y,ay [b,z] G y->y.cell? ⟨w.heap.size,0,none⟩=some (.int .i64 n.F)/\(loadVar 110 ⟨w.heap.size,0,none⟩).run Tryz.prog y= .ok (.agg (aU n v)) y):=λy U=>by
    have hb:=VC.out.keep U (by have :=aw.out;simp;omega);refine⟨?_,cH hb HB.out⟩;rw[hb.cell];exact(jo v HB.out).f0
   have M4:=ar (λy=>zI n.F y);have ak:Hid (n.F=1\/n.F=2):=hR.1;have XU:Hid ((0<=i/\i<32)/\bP n):=⟨hi,hR⟩;have lX:Hid (∀y (W:Nat) (r:Int) (qs:List (Int×Int)),(W=z\/(w.heap.size<=W/\W<y.heap.size))->eF y b W B (ps++qs)->ay [b,z] G y->qs.length<=700->pI X i n r qs->mb w b z B ps i n (.returned (.int .i64 r)) y):=λy W r qs V J h3 h4 h5=>
    ⟨r,qs,W,rfl,V,J,(fS.out.mono (by simp)).trans' h3,h4,by rw[hX];exact h5⟩
   have xf:=eV;clear hi hR xK uM hX jr HE ai Ss ag xI sf;have AO:=ar fS.out.size;have Vr:n.F=n.F:=rfl;clear Vr;generalize bl:aU n v=Z at *;clear bl;generalize hf:n.F=f at *;clear hf;go_enter Tryz.func49,Tryz.ntmps49;go_wp2_with fail;rw[nv.out];refine(HI.out _).mono ?_;rintro e w' ⟨rfl,rfl⟩;go_wp2_with((with_reducible show wpList _ _ _ (⟨_,.load 110 (.tmp 5),_,_,_,_⟩::_) _ _);refine dC (by first|rfl|simp[Region.wanted,yielded]) 110 (.tmp 5) rfl _ rfl _ BD.out ?_);refine Wv.out.mono ?_;rintro e w2 ⟨rfl,aa⟩;have fj:=ar aa;clear aa;go_wp2_with fail;refine(KR.out w2 fj.out).mono ?_;rintro e w3 ⟨m,vm,gm,own,va,ga,r,rfl,ax,Yc,bg,hO,sk,aB,aN⟩;have pF:ay [] G w3:=fj.out.trans' aB;obtain⟨w4,q1,q2,QO,⟨a6,M0,aY⟩,aG,bc⟩:=uj pF ax Yc hO (by have :=fj.out.size;omega);have wj:=ar q1;have aR:=ar M0;have bb:=ar aY;have nK:=ar aG;have ae:=ar aN;clear ax Yc bg hO sk aB aN q1 q2 QO M0 aY aG bc pF fj Wv BD KR;generalize aU m vm=ZM at *;generalize aU cB (.slice none 0 0)=ZZ at *;by_cases Ww:r=10
   ·subst Ww
    have aC:pI X i n 10 []:=by
     rcases ae.out with ⟨h,-⟩|⟨h,-⟩|⟨-,V,J,h3,-⟩|⟨h,-⟩
     ·omega
     ·omega
     ·exact .inr (.inl ⟨rfl,XU.out,J,h3,rfl⟩)
     ·omega
    have HP:Hid (mb w b z B ps i n (.returned (.int .i64 10)) w4):=lX.out w4 z 10 [] (.inl rfl) (by rw[bq];exact bk.out w4 nK.out) (nK.out.mono (by simp)) (by simp) aC;clear aC ae lX Yb M4 Dw aq XQ;go_wp2_with(with_reducible refine gS 110 wj.out ?_);go_ret;exact HP.out
   ·have nM:own.length<=32/\Tl X i own:=by
     rcases ae.out with ⟨V,J,-⟩|⟨-,-,J,-,h3⟩|⟨h,-⟩|⟨-,h⟩
     ·exact absurd XU.out.1 J
     ·subst h3;exact⟨by simp,.inl ⟨J,rfl⟩⟩
     ·exact absurd h Ww
     ·exact⟨by have V:=h.ownLen;have J:=Cn h.right;omega,.inr ⟨m,h⟩⟩
    have a7:(r==10)=false:=by simpa using Ww
    have ac:=ar nM;have aH:=ar (aq.out w4 va a6 own nK.out aR.out.reads bb.out nM.1);clear nM ae aq aR Ww;go_wp2_with(with_reducible refine gS 110 wj.out ?_);refine(XQ.out w4 nK.out).mono ?_;rintro e w' ⟨rfl,rfl⟩;go_wp2_with fail;refine aH.out.mono ?_;rintro e w5 ⟨rfl,lv,a8,aD,jG⟩;have oH:Hid (ay [b,z] G w5):=(nK.out.mono (by simp)).trans' jG;have zz:=ar aD;have Wx:Hid (lv<w5.heap.size/\(lv=z\/G.heap.size<=lv)):=by
     have z4:=nK.out.size;have z5:=jG.size;have :=aw.out;have :=AO.out;exact⟨by omega,by omega⟩
    have Kb:=ar (Yb.out w5 oH.out);have c5:=Kb.out.1;clear a8 aD jG aH XQ;go_wp2_with fail;refine(M4.out w5).mono ?_;rintro e w6 ⟨jz,fa,fb,aP,aO,rfl,V,J⟩;have aZ:∃q:Nat,fb= .func (.func q) #[] #[]/\((f=1->q= 141)/\(f=2->q= 143)):=by
     rcases ak.out with hF|hF
     ·exact⟨_,(V hF).2,λ_=>rfl,λh=>by omega⟩
     ·exact⟨_,(J hF).2,λh=>by omega,λ_=>rfl⟩
    rw[bj ak.out];obtain⟨q,rfl,hq⟩:=aZ;have YP:q= 141\/q= 143 :=ak.out.imp (λh=>hq.1 h) λh=>hq.2 h
    have aW:=bm.new w6 #[.nilFunc,.nilFunc] 141;obtain⟨w7,q1,q2,q3⟩:=Cp aW aP aO;have aK:ay [] w6 w7:=((ay.refl [] w6).alloc _).trans q3 (by intro x hx;rw[au] at hx;omega);have Pe:Hid (ay [] w5 w7):=jz.trans' aK;have av:=ar q1;have GU:Hid (ay [b,z] G w7):=oH.out.trans' (Pe.out.mono (by simp));have c7:w7.cell? ⟨w6.heap.size,1,none⟩=some (.func (.func q) #[] #[]):=by rw[q2.cell];rfl
    have XW:=ar (Yb.out w7 GU.out).2;have aj:Hid (eF w7 b lv B (ps++bQ X own)):=zz.out.keep Pe.out (by simp) (by simp);have QB:=ar (Dw.out w7 lv own GU.out aj.out (by have :=Wx.out;have :=Pe.out.size;omega) Wx.out.2 ac.out.1 q hq);clear hq c5 jz aP aO V J aW q1 q2 q3 aK Dw Yb M4 Kb wj a7;rcases YP with rfl|rfl
    all_goals (
     go_wp2_with(first|(with_reducible refine gS 141 av.out ?_)|(with_reducible refine gL 110 XW.out ?_));refine QB.out.mono ?_;rintro e w8 ⟨r2,bp,W,rfl,aA,RV,qP,aQ,aX⟩;have hY:az B (ps++bQ X own)=az X (bQ X own):=by rw[bo,MX.out]
     rw[hY] at aX;have se:=vL own X;have XD:=ac.out.1;have ah:W=z\/(w.heap.size<=W/\W<w8.heap.size):=by
      have V:=Wx.out;have J:=Pe.out.size;have h3:=qP.size;have h4:=AO.out;have h5:=GU.out.size;omega
     have Wy:ay [b,z] G w8:=GU.out.trans qP (by
      intro x hx;have V:=Wx.out.2;simp only[aS,aV,bL] at hx ⊢;omega)
     rcases aX with ⟨rfl,uP,rfl⟩|⟨rfl,uP,rfl⟩
     ·have V9:((ps++bQ X own)++[]).take (zb (ps.length:Int) ((ps++bQ X own)++[]).length)=ps:=by
       have bn:ps.length<=((ps++bQ X own)++[]).length:=by simp
       have :zb (ps.length:Int) ((ps++bQ X own)++[]).length=ps.length:=by have :=D9 (ps.length:Int) ((ps++bQ X own)++[]).length;omega
       rw[this,bq,List.take_left]
      have AD:Hid (Calls Tryz.prog 99 #[.pointer (some ⟨b,0,none⟩),.int .i64 (ps.length:Int)] w8 (Hf w8 b W B ps)):=by
       have :=NC RV (ps.length:Int);rwa[V9] at this
      have HP:Hid (∀w9,eF w9 b W B ps->ay [b] w8 w9->mb w b z B ps i n (.returned (.int .i64 7)) w9):=λw9 V J=>
       lX.out w9 W 7 [] (by have :=J.size;omega) (by rw[bq];exact V) (Wy.trans J (by intro x hx;rw[au] at hx;left;simp[hx])) (by simp) (.inr (.inr ⟨own,XU.out,ac.out.2,.inl ⟨rfl,uP,rfl⟩⟩))
      clear hY se XD ah Wy uP V9 RV qP aA aQ QB lX XW aj av c7 GU Pe zz oH Wx;go_wp2_with fail;refine AD.out.mono ?_;rintro e w9 ⟨rfl,aI,EE⟩;have Wz:=ar (HP.out w9 aI EE);clear aI EE HP AD;go_wp2_with fail;go_ret;exact Wz.out
     ·have HP:Hid (mb w b z B ps i n (.returned (.int .i64 0)) w8):=
       lX.out w8 W 0 (jI X i.toNat n own) ah (by unfold jI;rw[<-bf];exact RV) Wy (by unfold jI;rw[aF];omega) (.inr (.inr ⟨own,XU.out,ac.out.2,.inr ⟨rfl,uP,rfl⟩⟩))
      clear hY se XD ah Wy uP RV qP aA aQ QB lX XW aj av c7 GU Pe zz oH Wx;go_wp2_with fail;go_ret;exact HP.out)
  ·rw[aT hR] at uM
   have HX:Hid (pI (az B ps) i n 1 []):= .inl ⟨rfl,λh=>hR h.2,rfl⟩;have BD:=ar (xK.out G (ay.refl _ _));have Wv:=ar (uM.out G fS.out);clear hi hR xK uM HB;generalize aU n v=Z at *;go_enter Tryz.func49,Tryz.ntmps49;go_wp2_with fail;rw[nv.out];refine(HI.out _).mono ?_;rintro e w' ⟨rfl,rfl⟩;go_wp2_with((with_reducible show wpList _ _ _ (⟨_,.load 110 (.tmp 5),_,_,_,_⟩::_) _ _);refine dC (by first|rfl|simp[Region.wanted,yielded]) 110 (.tmp 5) rfl _ rfl _ BD.out ?_);refine Wv.out.mono ?_;rintro e w2 ⟨rfl,aa⟩;have HP:=ar (jr.out w2 1 (fS.out.trans' aa) HX.out);clear aa;go_wp2_with fail;go_ret;exact HP.out
 ·rw[aT hi] at HI
  have HP:=ar (jr.out G 1 fS.out (.inl ⟨rfl,λh=>hi h.1,rfl⟩));clear hi jr uM xK HB;generalize aU n v=Z at *;go_enter Tryz.func49,Tryz.ntmps49;go_wp2_with fail;rw[nv.out];refine(HI.out _).mono ?_;rintro e w' ⟨rfl,rfl⟩;go_wp2_with fail;go_ret;exact HP.out
def dB (B:List Int) (k:Nat):List Nat:=((B.take k).filter λx=>x != 0).map Int.toNat
def cP (n:bM):List Nat:=dB n.B 13
theorem Gh (B:List Int)(k:Nat)(y:k<B.length):dB B (k+1)=dB B k++(if B.getD k 0=0 then [] else [(B.getD k 0).toNat]):=by
 unfold dB;rw[bt y,dV,dZ]
 congr 1
 have :B.getD k 0=B[k]:=by simp[y]
 rw[this];by_cases h:B[k]=0
 ·simp[h]
 ·simp[h]
theorem Ct (B:List Int)(k:Nat):(dB B k).length<=k:=by
 unfold dB;rw[bJ];exact cu (eN _ _) (by rw[aI];omega)
theorem WA{ws:World}(G:ay [] ws w){va:Value}{own:List Nat}(hO:w.ownsRow ws.heap.size 3 1 va own.length (cW own))(n:bM)(v:Value)(hB:n.B.length=13)(h0:∀k,0<=n.B.getD k 0)(hl:own.length<=1000):
  Calls Tryz.prog 160 #[va,.agg (aU n v)] w λe w'=>∃u,e= .returned u/\w'.ownsRow ws.heap.size 3 1 u (own++cP n).length (cW (own++cP n))/\ay [] ws w':=by
 obtain⟨i0,hi,ag,ac,aa⟩:=cJ Tryz.info_int;have Xq:=G.size;have U:=bm.new w (aU n v) 110;have n5:Hid ((loadVar 108 ⟨w.heap.size,4,none⟩).run Tryz.prog (w.alloc (.cells (aU n v) 110))= .ok (.agg (zs n.B).toArray) (w.alloc (.cells (aU n v) 110))):=eD U hB (jo v hB).f4;have HZ:Hid (∀k,k<13->(zs n.B).toArray[k]? =some (.int .i64 (n.B.getD k 0))):=λk G=>by rw[aC,eR (by omega)]
 have W:Hid ((w.alloc (.cells (aU n v) 110)).ownsRow ws.heap.size 3 1 va (own++dB n.B 0).length (cW (own++dB n.B 0))/\ay [] ws (w.alloc (.cells (aU n v) 110))):=by
  have :own++dB n.B 0=own:=by simp[dB]
  rw[this];exact⟨hO.alloc _,G.alloc _⟩
 have HB:=ar hB;have H0:=ar h0;have ae:Hid (dB n.B 13=cP n):=rfl;clear hO U G hB h0;generalize aU n v=Z at *;generalize (zs n.B).toArray=ZB at *;go_enter Tryz.func160,Tryz.ntmps160;go_wp2_with(with_reducible refine gL 108 n5.out ?_);go_loopg [0,9] 13 (λgh s0 s9 wx=>∃k:Nat,k+gh=13/\s9= .int .i64 (k:Int)/\Hid (wx.ownsRow ws.heap.size 3 1 s0 (own++dB n.B k).length (cW (own++dB n.B k))/\ay [] ws wx))
 case atStart=>exact⟨0,by omega,rfl,W.out⟩
 case round=>
  clear W n5;obtain⟨k,G,rfl,z⟩:=hrel;cases gk with
  |zero=>
   obtain rfl:k=13:=by omega
   have HE:=ar z.out;rw[ae.out] at HE;clear G z;go_wp2_with fail;go_ret;exact⟨_,rfl,HE.out⟩
  |succ gg=>
   have mv:k<13:=by omega
   have ai:(k:Int)<13:=by omega
   have ez:(0:Int)<=(k:Int):=by omega
   have zW:=Em mv (HZ.out k mv);have ak:=H0.out k;have HS:=ar (Gh n.B k (by rw[HB.out];exact mv));have xS:=Ct n.B k;generalize n.B.getD k 0=x at *;by_cases J:x=0
   ·have e0:(x != 0)=false:=by rw[J];rfl
    have HN:Hid (wr.ownsRow ws.heap.size 3 1 u0 (own++dB n.B (k+1)).length (cW (own++dB n.B (k+1)))/\ay [] ws wr):=by
     show _/\_;rw[HS.out,aB J,bq];exact z.out
    clear z HS J;go_wp2_with fail;go_roundg gg;case measure=>omega
    case rel=>exact⟨k+1,by omega,by go_num,HN.out⟩
   ·have e0:(x != 0)=true:=bne_iff_ne.2 J
    have zZ:=ar z.out.1;have gI:=ar z.out.2;have aj:=z.out.2.size;have ah:(own++dB n.B k).length<=2000:=by rw[aF];omega
    have lO:Hid (own++dB n.B (k+1)=(own++dB n.B k)++[x.toNat]):=by
     show _=_;rw[HS.out,aA J,bf]
    have HI:Hid (cW ((own++dB n.B k)++[x.toNat])=cW (own++dB n.B k)++[.int .i64 x]):=by
     show _=_;have af:((x.toNat:Nat):Int)=x:=by omega
     rw[sW];show _++[Value.int .i64 ((x.toNat:Nat):Int)]=_;rw[af]
    have Ek:Hid (((own++dB n.B k)++[x.toNat]).length=(own++dB n.B k).length+1):=aF;clear z HS xS;generalize own++dB n.B k=L at *;generalize hq:L.length=q at *;go_wp2_with(at_builtin;refine dE _ rfl _ _ 134 rfl ws.heap.size 3 i0 (.int .i64 0) 1 8 Tryz.underlying134 hi ag ac aa rfl (by decide) u0 q _ rfl (zZ.out.alloc _) ⟨wr.heap.size,0,none⟩ 1 1 [.int .i64 x] rfl rfl ?c1 ?c2 (by unfold maxLen;omega) (by omega) (by simp;omega) ?_);case c1=>exact iP _ [_] _ _ rfl
    case c2=>simp[Value.oneCell']
    intro v' w1 h y V;have HN:Hid (w1.ownsRow ws.heap.size 3 1 v' (own++dB n.B (k+1)).length (cW (own++dB n.B (k+1)))/\ay [] ws w1):=by
     show _/\_;rw[lO.out,Ek.out,HI.out];exact⟨h,(gI.out.alloc _).grown y (cE zZ.out)⟩
    clear h y V zZ gI lO HI Ek J hq;go_wp2_with fail;go_roundg gg;case measure=>omega
    case rel=>exact⟨k+1,by omega,by go_num,HN.out⟩
def yH (X:List Int) (i:Nat) (n:bM) (own:List Nat):List (Int×Int):=bQ X (own++cP n)++ir (824+8*i) (List.replicate 8 0) 8
def acB (X:List Int) (i r:Int) (qs:List (Int×Int)):Prop:=
 (r=1/\¬(0<=i/\i<32)/\qs=[])\/(r=2/\(0<=i/\i<32)/\dI X i/\qs=[])\/(r=10/\(0<=i/\i<32)/\¬dI X i/\(∀n' h,¬dT X i n' h)/\qs=[])\/
  (r=0/\∃n own,dT X i n own/\qs=yH X i.toNat n own)
def Cu (w:World) (X:List Int) (i:Int) (e:Ending) (w':World):Prop:=
 ∃v g l,e= .returned v/\Reads w' v g (cW l)/\ay [] w w'/\((∃n own,dT X i n own/\l=own++cP n)\/((∀n own,¬dT X i n own)/\l=[]))/\(l≠[]->w.heap.size<=g)
theorem WB (h:eF w b gp B ps)(eT:dD (az B ps))(i:Int):
  Calls Tryz.prog 129 #[.pointer (some ⟨b,0,none⟩),.int .i64 i] w (Cu w (az B ps) i):=by
 have KR:=ar (get_at h eT i);have xf:=eV;clear h eT;go_enter Tryz.func129,Tryz.ntmps129;go_wp2_with fail;refine KR.out.mono ?_;rintro e w1 ⟨n,v,g,own,va,ga,r,rfl,hB,hE,hg,hO,sk,dc,hr⟩;obtain⟨w2,q1,q2,UK,⟨ah,J,G⟩,aa,ae⟩:=uj dc hB hE hO sk;have wk:=ar q1;have pw:=ar q2;have MF:=ar J;have ac:=ar G;have fj:=ar aa;have HR:=ar hr;have HB:=ar hB;clear hB hE hg hO sk dc hr q1 q2 UK J G aa ae KR;by_cases QR:r=0
 ·subst QR
  have y:dT (az B ps) i n own:=by
   rcases HR.out with ⟨h,-⟩|⟨h,-⟩|⟨h,-⟩|⟨-,h⟩
   ·omega
   ·omega
   ·omega
   ·exact h
  have nM:own.length<=32:=by have h1:=y.ownLen;have U:=Cn y.right;omega
  have Vr:∀k,0<=n.B.getD k 0:=λk=>(ud y.right HB.out k).1
  have z:w2.ownsRow w.heap.size 3 1 va own.length (cW own):=by
   obtain⟨⟨h0,h5⟩,U⟩:=MF.out;rcases h5 with h5|⟨g',cap,ag,e1,e2,e3⟩
   ·exact⟨h0,.inl h5⟩
   ·exact⟨h0,.inr ⟨g',cap,ag,e1,by have :=ac.out;omega,e3⟩⟩
  have HW:=ar (WA fj.out z n v HB.out Vr (by omega));have af:=ar y;clear HR y nM Vr z;generalize N9:aU n v=ZN at *;clear N9;generalize aU cB (.slice none 0 0)=ZZ at *;go_wp2_with(first|(with_reducible refine gS 110 wk.out ?_)|(with_reducible refine gL 110 pw.out ?_));refine HW.out.mono ?_;rintro e w3 ⟨u,rfl,hu,Z⟩;obtain⟨gu,W,V⟩:=jL.of_row hu;have HP:Hid (Cu w (az B ps) i (.returned u) w3):=⟨u,gu,_,rfl,W.reads,Z,.inl ⟨n,own,af.out,rfl⟩,λ_=>V⟩;clear hu Z W V HW;go_wp2_with fail;go_ret;exact HP.out
 ·have HP:Hid (Cu w (az B ps) i (.returned (.slice none 0 0)) w2):=by
   refine⟨_,0,[],rfl,Ci _ _,fj.out,.inr ⟨λn' cD hs=> ?_,rfl⟩,λh=>absurd rfl h⟩;rcases HR.out with ⟨h1,U,-⟩|⟨h1,U,h3,-⟩|⟨h1,U,h3,h4,-⟩|⟨h,-⟩
   ·exact U hs.rng
   ·exact hs.notFree h3
   ·exact h4 _ _ hs
   ·exact QR h
  have e0:(r != 0)=true:=bne_iff_ne.2 QR;clear HR QR;generalize aU n v=ZN at *;generalize aU cB (.slice none 0 0)=ZZ at *;go_wp2_with(with_reducible refine gS 110 wk.out ?_);go_ret;exact HP.out
theorem pI.free(h:pI X i n r qs)(W:0<=i/\i<32)(V:dI X i):
  (r=1/\¬bP n/\qs=[])\/(r=7/\bP n/\(bb X).length<cN n/\qs=[])\/(r=0/\bP n/\cN n<=(bb X).length/\qs=jI X i.toNat n []):=by
 rcases h with ⟨G,z,y⟩|⟨-,-,z,-⟩|⟨own,G,z,y⟩
 ·exact .inl ⟨G,λZ=>z ⟨W,Z⟩,y⟩
 ·exact absurd V z
 ·have ho:own=[]:=by
   rcases z with ⟨-,h⟩|⟨m,h⟩
   ·exact h
   ·exact absurd V h.notFree
  subst ho;rcases y with ⟨y,U,J⟩|⟨y,U,J⟩
  ·exact .inr (.inl ⟨y,G.2,U,J⟩)
  ·exact .inr (.inr ⟨y,G.2,U,J⟩)
theorem pI.over{m:bM}{G:List Nat}(h:pI X i n r qs)(U:dT X i m G):
  (r=1/\¬bP n/\qs=[])\/(r=7/\bP n/\(bb (az X (bQ X G))).length<cN n/\qs=[])\/(r=0/\bP n/\cN n<=(bb (az X (bQ X G))).length/\qs=jI X i.toNat n G):=by
 rcases h with ⟨J,z,y⟩|⟨-,-,-,z,-⟩|⟨own,J,z,y⟩
 ·exact .inl ⟨J,λZ=>z ⟨U.rng,Z⟩,y⟩
 ·exact absurd U (z _ _)
 ·have ho:own=G:=by
   rcases z with ⟨h,-⟩|⟨m',h⟩
   ·exact absurd h U.notFree
   ·exact(U.uniq h).2
  subst ho;rcases y with ⟨y,W,V⟩|⟨y,W,V⟩
  ·exact .inr (.inl ⟨y,J.2,W,V⟩)
  ·exact .inr (.inr ⟨y,J.2,W,V⟩)
def WC (X:List Int) (n:bM) (i r:Int) (qs:List (Int×Int)):Prop:=
 (r=7/\i=0/\(∀k:Nat,k<32->¬dI X (k:Int))/\qs=[])\/
 ∃j:Nat,j<32/\dI X (j:Int)/\(∀k:Nat,k<j->¬dI X (k:Int))/\((r=1/\i=0/\¬bP n/\qs=[])\/(r=7/\i=0/\bP n/\(bb X).length<cN n/\qs=[])\/(r=0/\i=(j:Int)/\bP n/\cN n<=(bb X).length/\qs=jI X j n []))
def Gi (w:World) (b y:Nat) (B:List Int) (ps:List (Int×Int)) (n:bM) (e:Ending) (w':World):Prop:=
 ∃i r qs h,e= .returned (.tuple #[.int .i64 i,.int .i64 r])/\(h=y\/(w.heap.size<=h/\h<w'.heap.size))/\eF w' b h B (ps++qs)/\ay [b,y] w w'/\qs.length<=700/\WC (az B ps) n i r qs
theorem Pf (h:eF w b J B ps)(eT:dD (az B ps))(hT:∀y,ay [b,J] w y->kI y)(Df:J<w.heap.size)(pn:ps.length<=700000)(n:bM)(v:Value)(g:Nat)(hB:n.B.length=13)(hE:bz w v g n.E)
  (hN:∀k,k<n.E.length->(eh n.E k).size<=9223372036854775807) (ue:n.E.length≠0->g≠b/\g≠J):
  Calls Tryz.prog 144 #[.pointer (some ⟨b,0,none⟩),.agg (aU n v)] w (Gi w b J B ps n):=by
 have ez:ay [] w (w.alloc (.cells (aU n v) 110)):=(ay.refl _ _).alloc _;have aa:=bm.new w (aU n v) 110;obtain⟨X,hX⟩:∃X,az B ps=X:=⟨_,rfl⟩;obtain⟨W,ac⟩:∃W,w.alloc (.cells (aU n v) 110)=W:=⟨_,rfl⟩;rw[ac] at ez aa;have nJ:Hid (∀y,ay [] W y->(loadVar 110 ⟨w.heap.size,0,none⟩).run Tryz.prog y= .ok (.agg (aU n v)) y):=λy U=>cH (aa.keep U (by simp)) hB
 have xL:Hid (∀y (i:Int),ay [] W y->Calls Tryz.prog 126 #[.pointer (some ⟨b,0,none⟩),.int .i64 i] y λe w'=>e= .returned (.bool (decide ((0<=i/\i<32)/\dI X i)))/\ay [] y w'):=λy i U=>by
  have :=AP (h.keep (ez.trans' U) (by simp) (by simp)) i;rwa[hX] at this
 have LA:Hid (∀y (i:Int),ay [] W y->Calls Tryz.prog 49 #[.pointer (some ⟨b,0,none⟩),.int .i64 i,.agg (aU n v)] y (λe w'=>∃r qs z,e= .returned (.int .i64 r)/\(z=J\/(w.heap.size<=z/\z<w'.heap.size))/\eF w' b z B (ps++qs)/\ay [b,J] w w'/\qs.length<=700/\pI X i n r qs)):=λy i U=>by
  have C5:=ez.trans' U;have :=yG (h.keep C5 (by simp) (by simp)) eT (λwy hy=>hT wy ((C5.mono (by simp)).trans' hy)) (by have :=C5.size;omega) pn i n v g hB (hE.keep C5 (by simp)) hN ue;refine this.mono ?_;rintro e w' ⟨r,qs,z,G,V,h3,h4,h5,h6⟩;rw[hX] at h6;exact⟨r,qs,z,G,by have :=C5.size;omega,h3,(C5.mono (by simp)).trans' h4,h5,h6⟩
 have jr:Hid (∀y,ay [] W y->(∀k:Nat,k<32->¬dI X (k:Int))->Gi w b J B ps n (.returned (.tuple #[.int .i64 0,.int .i64 7])) y):=λy U hf=>
  ⟨0,7,[],J,rfl,.inl rfl,by rw[bq];exact h.keep (ez.trans' U) (by simp) (by simp),(ez.trans' U).mono (by simp),by simp,.inl ⟨rfl,rfl,by rw[hX];exact hf,rfl⟩⟩
 have ae:Hid (∀y i r qs z,(z=J\/(w.heap.size<=z/\z<y.heap.size))->eF y b z B (ps++qs)->ay [b,J] w y->qs.length<=700->WC X n i r qs->Gi w b J B ps n (.returned (.tuple #[.int .i64 i,.int .i64 r])) y):=λy i r qs z G V h3 h4 h5=>
  ⟨i,r,qs,z,rfl,G,V,h3,h4,by rw[hX];exact h5⟩
 have nv:=ar ac;clear h eT hT Df pn hE hN ue hX ac ez aa hB;generalize aU n v=Z at *;go_enter Tryz.func144,Tryz.ntmps144;go_wp2_with fail;rw[nv.out];go_loopg [8] 32 (λgh s8 y=>∃k:Nat,k+gh=32/\s8= .int .i64 (k:Int)/\Hid (ay [] W y/\∀j:Nat,j<k->¬dI X (j:Int)))
 case atStart=>exact⟨0,by omega,rfl,ay.refl _ _,λj hj=>by omega⟩
 case round=>
  obtain⟨k,U,rfl,HP⟩:=hrel;cases gk with
  |zero=>
   obtain rfl:k=32:=by omega
   have HE:=ar (jr.out wr HP.out.1 HP.out.2);clear U jr ae LA xL nJ;go_wp2_with fail;go_ret2;exact HE.out
  |succ gg=>
   have af:(k:Int)<32:=by omega
   have qA:k<32:=by omega
   go_wp2_with fail;refine(xL.out wr (k:Int) HP.out.1).mono ?_;rintro e w2 ⟨rfl,ap⟩;have fj:Hid (ay [] W w2):=HP.out.1.trans' ap;clear ap;by_cases hf:dI X (k:Int)
   ·rw[bj (show(0<=(k:Int)/\(k:Int)<32)/\dI X (k:Int) from ⟨⟨by omega,af⟩,hf⟩)]
    have pw:=ar (nJ.out w2 fj.out);have HF:=ar hf;clear hf;go_wp2_with(with_reducible refine gL 110 pw.out ?_);refine(LA.out w2 (k:Int) fj.out).mono ?_;rintro e w3 ⟨r,qs,z,rfl,ag,aj,ak,ah,ai⟩;have hr:=ai.free ⟨by omega,af⟩ HF.out;rw[aH] at hr;have HY:=ar (λi hr=>ae.out w3 i r qs z ag aj ak ah hr);clear ag aj ak ah ai jr ae LA xL nJ pw fj U;rcases hr with ⟨rfl,G,V⟩|⟨rfl,G,V,h3⟩|⟨rfl,G,V,h3⟩
    ·have HE:=ar (HY.out 0 (.inr ⟨k,qA,HF.out,HP.out.2,.inl ⟨rfl,rfl,G,V⟩⟩))
     clear G V HY qA;go_wp2_with fail;go_ret2;exact HE.out
    ·have HE:=ar (HY.out 0 (.inr ⟨k,qA,HF.out,HP.out.2,.inr (.inl ⟨rfl,rfl,G,V,h3⟩)⟩))
     clear G V h3 HY qA;go_wp2_with fail;go_ret2;exact HE.out
    ·have HE:=ar (HY.out (k:Int) (.inr ⟨k,qA,HF.out,HP.out.2,.inr (.inr ⟨rfl,rfl,G,V,h3⟩)⟩))
     clear G V h3 HY qA;go_wp2_with fail;go_ret2;exact HE.out
   ·rw[aT (show ¬((0<=(k:Int)/\(k:Int)<32)/\dI X (k:Int)) from λh=>hf h.2)]
    have R5:Hid (ay [] W w2/\∀j:Nat,j<k+1->¬dI X (j:Int)):=⟨fj.out,λj hj=>by
     rcases Nat.lt_succ_iff_lt_or_eq.1 hj with h|h
     ·exact HP.out.2 j h
     ·rw[h];exact hf⟩
    clear hf;go_wp2_with fail;go_roundg gg;case measure=>omega
    case rel=>exact⟨k+1,by omega,by go_num,R5.out⟩
end Go.Proofs.YtcecbdeamjigiaaGreatDoor
namespace Go.Proofs.YtcecbdeamjigiaaGreatDoor
open Go.RowKit
open Go.RowKit
variable{w w' z:World}{J b gp y:Nat}{B X:List Int}{ps qs:List (Int×Int)}{i r:Int}{n:bM}{e:Ending}
end Go.Proofs.YtcecbdeamjigiaaGreatDoor
