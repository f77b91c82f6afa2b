/- Lemmas. -/
import Derived.Test.YtepbpdipenedhaaGreatDoorS13
set_option maxHeartbeats 4000000
set_option maxRecDepth 100000
namespace Go.Proofs.YtepbpdipenedhaaGreatDoor
open Go.Proofs.Tryz
open Go.RowKit
variable{w w' z:World}{G J V b gp:Nat}{B X:List Int}{ps qs:List (Int×Int)}{i r:Int}{n:bN}{e:Ending}
theorem AZ (h:eT w b gp B ps)(i:Int):
  Calls prog 129 #[.pointer (some ⟨b,0,none⟩),.int .i64 i] w λe w'=>e= .returned (.bool (decide ((0<=i/\i<32)/\dO (az B ps) i)))/\ay [] w w':=by
 have G:=ar (wq i);have J:=ar (ju i);by_cases y:0<=i/\i<32
 ·rw[bh y] at G
  have W:=ar (mL h (824+8*i.toNat) (by omega));have z:fA i=((824+8*i.toNat:Nat):Int):=by rw[fA,aA (by omega)];omega
  have aa:=jx;have hq:=Es (iB (az B ps) (824+8*i.toNat)) (bj (n:=8) (a:=(0:Int)));have hg:=qA;have U:Hid (decide (dz (az B ps) (824+8*i.toNat)=List.replicate 8 0)=decide ((0<=i/\i<32)/\dO (az B ps) i)):=by
   apply decide_eq_decide.2;exact⟨λh=>⟨y,h⟩,λh=>h.2⟩
  rw[z] at J;clear h y z;generalize ((824+8*i.toNat:Nat):Int)=p at *;generalize decide (dz (az B ps) (824+8*i.toNat)=List.replicate 8 0)=q at *;generalize (aO (dz (az B ps) (824+8*i.toNat))).toArray=Z at *;generalize (aO (List.replicate 8 0)).toArray=Z8 at *;go_enter func129,ntmps129;go_wp2_with fail;refine(G.out _).mono ?_;rintro e w' ⟨rfl,rfl⟩;go_wp2_with fail;refine(J.out _).mono ?_;rintro e w' ⟨rfl,rfl⟩;go_wp2_with fail;refine W.out.mono ?_;rintro e w' ⟨rfl,V⟩;have HK:=ar V;clear V;go_wp2_with fail;go_ret;refine⟨?_,HK.out⟩;show Ending.returned (.bool q)=_;rw[U.out]
 ·rw[aM y] at G
  have U:Hid (decide ((0<=i/\i<32)/\dO (az B ps) i)=false):=aM λh=>y h.1
  clear h y J;go_enter func129,ntmps129;go_wp2_with fail;refine(G.out _).mono ?_;rintro e w' ⟨rfl,rfl⟩;go_wp2_with fail;go_ret;refine⟨?_,ay.refl _ _⟩;rw[U.out];rfl
theorem rN.mono(y:ay [] w z)(h:rN z b G B ps i n e w'):rN w b G B ps i n e w':=by
 obtain⟨r,qs,Z,V,h2,U,h4,h5,W⟩:=h;have hz:=y.size;refine⟨r,qs,Z,V,by omega,U,(y.mono (by simp)).trans h4 λx J=> .inl J,h5,W⟩
theorem pE.mono(y:ay [] w z)(h:pE z b G B ps i n e w'):pE w b G B ps i n e w':=by
 obtain⟨r,qs,Z,V,h2,U,h4,h5,W⟩:=h;have hz:=y.size;refine⟨r,qs,Z,V,by omega,U,(y.mono (by simp)).trans h4 λx J=> .inl J,h5,W⟩
def V4 (w:World) (b:Nat) (i:Int) (Z:Array Value):World:=(w.alloc (.cells #[.pointer (some ⟨b,0,none⟩),.int .i64 i] 152)).alloc (.cells Z 111)
theorem CH (w:World)(b:Nat)(i:Int)(Z:Array Value):ay [] w (V4 w b i Z)/\bf (V4 w b i Z) (w.heap.size+1) Z 111 :=by
 refine⟨((ay.refl _ _).alloc _).alloc _,?_⟩;have :=bf.new (w.alloc (.cells #[.pointer (some ⟨b,0,none⟩),.int .i64 i] 152)) Z 111;rwa[show(w.alloc (.cells #[.pointer (some ⟨b,0,none⟩),.int .i64 i] 152)).heap.size=w.heap.size+1 by simp] at this
theorem O9 (h:eT w b V B ps)(J:In64 (az B ps))(hT:lC w)(Dn:V<w.heap.size)(W:ps.length<=800000)(i:Int)(n:bN)(v:Value)(g:Nat)(hB:n.B.length=13)(hE:br w v g n.E)
  (hN:∀k,k<n.E.length->(dZ n.E k).size<=9223372036854775807) (aa:n.E.length≠0->g≠b/\g≠V):
  Calls prog 144 #[pI b i,.agg (aU n v)] w (rN w b V B ps i n):=by
 obtain⟨z,U⟩:=CH w b i (aU n v);have hz:=z.size;have HC:=ar ((VM (h.keep z (by simp) (by simp)) J (hT.keep z) (by omega) W i n v g hB (hE.keep z (by simp)) hN aa).mono λe w'=>rN.mono z);have HL:=ar (cC U hB);clear h J z U hE hT hN hz;unfold pI;generalize aU n v=Z at *;generalize G:V4 w b i Z=W0 at *;have y:(w.alloc (.cells #[.pointer (some ⟨b,0,none⟩),.int .i64 i] 152)).alloc (.cells Z 111)=W0:=G;have nX:=ar y;have c1:W0.cell? ⟨w.heap.size,0,none⟩=some (.pointer (some ⟨b,0,none⟩)):=by rw[<-y];simp
 have c2:W0.cell? ⟨w.heap.size,1,none⟩=some (.int .i64 i):=by rw[<-y];simp
 clear G y;go_enter func144,ntmps144;go_wp2_with((with_reducible show wpList _ _ _ (⟨_,.load 111 (.tmp 3),_,_,_,_⟩::_) _ _);rw[nX.out];refine ft rfl 111 (.tmp 3) rfl _ rfl _ HL.out ?_);refine HC.out.mono ?_;rintro e w1 hp;have HP:=ar hp;obtain⟨r,qs,ib,rfl,-⟩:=hp;clear HC HL nX c1 c2;go_wp2_with fail;go_ret;exact HP.out
theorem Pa (h:eT w b V B ps)(J:In64 (az B ps))(hT:lC w)(Dn:V<w.heap.size)(W:ps.length<=800000)(i:Int)(n:bN)(v:Value)(g:Nat)(hB:n.B.length=13)(hE:br w v g n.E)
  (hN:∀k,k<n.E.length->(dZ n.E k).size<=9223372036854775807) (aa:n.E.length≠0->g≠b/\g≠V):
  Calls prog 146 #[pI b i,.agg (aU n v)] w (pE w b V B ps i n):=by
 obtain⟨z,U⟩:=CH w b i (aU n v);have hz:=z.size;have HC:=ar ((SD (h.keep z (by simp) (by simp)) J (hT.keep z) (by omega) W i n v g hB (hE.keep z (by simp)) hN aa).mono λe w'=>pE.mono z);have HL:=ar (cC U hB);clear h J z U hE hT hN hz;unfold pI;generalize aU n v=Z at *;generalize G:V4 w b i Z=W0 at *;have y:(w.alloc (.cells #[.pointer (some ⟨b,0,none⟩),.int .i64 i] 152)).alloc (.cells Z 111)=W0:=G;have nX:=ar y;have c1:W0.cell? ⟨w.heap.size,0,none⟩=some (.pointer (some ⟨b,0,none⟩)):=by rw[<-y];simp
 have c2:W0.cell? ⟨w.heap.size,1,none⟩=some (.int .i64 i):=by rw[<-y];simp
 clear G y;go_enter func146,ntmps146;go_wp2_with((with_reducible show wpList _ _ _ (⟨_,.load 111 (.tmp 3),_,_,_,_⟩::_) _ _);rw[nX.out];refine ft rfl 111 (.tmp 3) rfl _ rfl _ HL.out ?_);refine HC.out.mono ?_;rintro e w1 hp;have HP:=ar hp;obtain⟨r,qs,ib,rfl,-⟩:=hp;clear HC HL nX c1 c2;go_wp2_with fail;go_ret;exact HP.out
theorem Jg (X:List Int)(l:List Nat)(k:Nat)(h:k<l.length):cB X (l.take (k+1))=cB X (l.take k)++dR (az X (cB X (l.take k))) (l.getD k 0) false:=by
 rw[bz h,Jf];simp[h]
theorem V5 (h:eT w b G B ps)(V:In64 (az B ps))(_:G<w.heap.size)(J:ps.length<=900000){v:Value}{g:Nat}{l:List Nat}(hR:Reads w v g (cM l))(hl:l.length<=1000)(hg:l≠[]->g≠b/\g≠G):
  Calls prog 99 #[.pointer (some ⟨b,0,none⟩),v] w (iY w b G B (ps++cB (az B ps) l)):=by
 have hX:(az B ps).length=3128:=h.raw.lx;have af:=ar hX;have av:=h.raw.lt;have HS:=ar h;have sD:=ar V;have Af:=ar J;have HR:=ar hR;have HG:=ar hg;obtain⟨a,cap,rfl,q1,q2,-⟩:=hR;obtain⟨n,Z⟩:∃n,l.length=n:=⟨_,rfl⟩;have HN:=ar Z;rw[gD,Z] at HR q1 ⊢;rw[Z] at hl;clear h V J hg hX Z;unfold maxLen at q2;go_enter func99,ntmps99;go_wp2_with fail;go_loopg [8] n (λgh s8 wx=>∃k:Nat,k+gh=n/\s8= .int .i64 (k:Int)/\Hid (Onto w b G B (ps++cB (az B ps) (l.take k)) wx))
 case atStart=>exact⟨0,by omega,rfl,by show Onto _ _ _ _ _ _;rw[eI,show cB (az B ps) []=[] from rfl,bq];exact Onto.refl HS.out⟩
 case round=>
  obtain⟨k,hk,rfl,HQ⟩:=hrel;cases gk with
  |zero=>
   obtain rfl:k=n:=by omega
   have ah:¬(k:Int)<(k:Int):=by omega
   clear hk;go_wp2_with fail;go_end0;have :=HQ.out;rw[aW (by rw[HN.out];omega)] at this;exact this.post
  |succ gg=>
   have ag:k<n:=by omega
   have ah:(k:Int)<(n:Int):=by omega
   have eo:(0:Int)<=(k:Int):=by omega
   have y:k<l.length:=by rw[HN.out];exact ag
   have U:l≠[]:=by intro e;rw[e] at y;simp at y
   obtain⟨mf,p1,p2,p3⟩:=HQ.out;have Ci:=HG.out U;have ai:=HR.out.keep p3 (by simp;omega);have W:=ko (l.take k) (az B ps) sD.out af.out;have ac:=wm (l.take k) (az B ps);have aa:(l.take k).length<=1000:=by rw[aI];omega
   have Yp:=ar (Jg (az B ps) l k y);obtain⟨a',ak,ae,r1,r2,r3⟩:=ai;cases ae;obtain⟨au,off,rfl,r4⟩:=r3 (by intro e;have :=b8 List.length e;rw[gD,b9] at this;omega);have z:=(r4 k (by rw[gD];exact y)).trans (nL y);generalize l.getD k 0=c at *;have R5:Hid (Calls prog 142 #[.pointer (some ⟨b,0,none⟩),.int .i64 (c:Int),.bool false] wr (iY wr b mf B ((ps++cB (az B ps) (l.take k))++dR (az (az B ps) (cB (az B ps) (l.take k))) c false))):=by
    have :=Ia p2 (by rw[bJ];exact W.1) (by rw[aD];have :=Af.out;omega) (c:Int) false;rw[bJ,aJ] at this;exact this
   have XH:=ar p1;have Ac:=ar p3;clear p1 p2 p3 W ac aa r1 r2 r3 r4 Ci U;go_wp2_with fail;refine R5.out.mono ?_;rintro e w2 ⟨rfl,ho⟩;have HO:Hid (Onto w b G B (ps++cB (az B ps) (l.take (k+1))) w2):=by
    show Onto _ _ _ _ _ _;rw[Yp.out,<-ba];exact Onto.trans XH.out Ac.out ho
   clear ho R5 z;go_wp2_with fail;go_roundg gg;case measure=>omega
   case rel=>exact⟨k+1,by omega,by go_num,HO.out⟩
def Pb (X:List Int) (i:Int) (n:bN) (own:List Nat) (r:Int):Prop:=
 (r=1/\¬(0<=i/\i<32)/\n=cX/\own=[])\/(r=2/\(0<=i/\i<32)/\dO X i/\n=cX/\own=[])\/
  (r=10/\(0<=i/\i<32)/\¬dO X i/\(∀y h,¬eP X i y h)/\n=cX/\own=[])\/(r=0/\eP X i n own)
def xK (w:World) (X:List Int) (i:Int) (e:Ending) (w':World):Prop:=
 ∃n v g own h y r,e= .returned (.tuple #[.agg (aU n v),h,.int .i64 r])/\n.B.length=13/\br w' v g n.E/\w.heap.size<=g/\kb w' h y own/\w.heap.size<=y/\ay [] w w'/\Pb X i n own r
theorem V6 (G:ay [] (w.alloc (.cells (aU cX (.slice none 0 0)) 111)) z)(h:Pb X i cX [] r):
  ∃w',(storeVar 111 ⟨w.heap.size,0,none⟩ (.agg (aU cX (.slice none 0 0)))).run prog z= .ok () w'/\(loadVar 111 ⟨w.heap.size,0,none⟩).run prog w'= .ok (.agg (aU cX (.slice none 0 0))) w'/\xK w X i (.returned (.tuple #[.agg (aU cX (.slice none 0 0)),.slice none 0 0,.int .i64 r])) w':=by
 have y:=bf.new w (aU cX (.slice none 0 0)) 111;obtain⟨w',q1,q2,q3⟩:=bo (P:= prog) (ty:= 111) (cs:=mr cX (.slice none 0 0)) iH (y.keep G (by simp)) rfl (jD rfl);exact⟨w',q1,cC q2 rfl,cX,_,w.heap.size,[],_,w.heap.size,r,rfl,rfl,br.nil _ _,aG _,kb.nil _ _,aG _,(((ay.refl [] w).alloc _).trans' G).trans q3 (by intro x J;rw[au] at J;omega),h⟩
def A0 (w:World) (X:List Int) (i f:Int) (e:Ending) (w':World):Prop:=
 ∃n v g own h y ok,e= .returned (.tuple #[.agg (aU n v),h,.bool ok])/\n.B.length=13/\br w' v g n.E/\w.heap.size<=g/\kb w' h y own/\w.heap.size<=y/\ay [] w w'/\
  (ok=true->eP X i n own)/\(ok=false->n=cX/\own=[]/\∀z G,eP X i z G->z.F≠f)
theorem Gs (z:In64 X)(h:jv w X i e w'):A0 w X i 1 e w':=by
 obtain⟨n,v,g,own,va,ga,ok,h1,h2,h3,h4,h5,h6,h7,h8,W⟩:=h;refine⟨n,v,g,own,va,ga,ok,h1,h2,h3,h4,h5,h6,W,λG=> ?_,λG=> ?_⟩
 ·obtain⟨U,J,y,a4⟩:=h7 G
  rw[y,a4];exact O5 z U J
 ·obtain⟨U,J,y⟩:=h8 G
  exact⟨J,y,λn' cH V Z=>U ⟨V.rng,(Gn V Z).1⟩⟩
theorem Gt (h:oV w X i e w'):A0 w X i 2 e w':=by
 obtain⟨n,v,g,own,Z,ga,ok,h1,J,h3,h4,h5,h6,U,h7,h8⟩:=h;refine⟨n,v,g,own,Z,ga,ok,h1,J,h3,h4,h5,h6,U,λz=> ?_,λz=> ?_⟩
 ·obtain⟨G,-,y,-,-⟩:=h7 z
  exact O6 J y G
 ·obtain⟨a2,y,G⟩:=h8 z
  exact⟨a2,y,λW cH hs V=>G W cH (Gp hs V)⟩
theorem uD{h:World}{v Z:Value}{g W:Nat}{own:List Nat}(hk:ay [] w h)(U:n.B.length=13)(J:br h v g n.E)(hO:kb h Z W own)(sG:w.heap.size<=W):
  ∃y,(storeVar 111 ⟨h.heap.size,0,none⟩ (.agg (aU n v))).run prog (h.alloc (.cells (aU cX (.slice none 0 0)) 111))= .ok () y/\(loadVar 111 ⟨h.heap.size,0,none⟩).run prog y= .ok (.agg (aU n v)) y/\
   br y v g n.E/\(∃G,kb y Z G own/\w.heap.size<=G)/\ay [] w y/\bf y h.heap.size (aU n v) 111 :=by
 have hb:=bf.new h (aU cX (.slice none 0 0)) 111;obtain⟨y,q1,q2,q3⟩:=uA (n:=n) (v:=v) hb rfl U (qP J);have V:ay [h.heap.size] h y:=((ay.refl [h.heap.size] h).alloc _).trans' q3;refine⟨y,q1,cC q2 U,J.keep V (λh0=> ?_),?_,(hk.alloc _).trans q3 (by intro x z;rw[au] at z;have :=hk.size;omega),q2⟩
 ·exact J.apart (l:=[h.heap.size]) (λx z=>by rw[au] at z;omega) h0
 ·exact hO.away sG V λx z=>by rw[au] at z;omega
theorem Pd (r:List Int)(w:World):(Instr.field 111 (.agg (aU (gX r) (.slice none 0 0))) 0).run prog w= .ok (.int .i64 (gX r).F) w:=by kernel_rfl
theorem get_at(h:eT w b gp B ps)(aG:In64 (az B ps))(i:Int):
  Calls prog 97 #[.pointer (some ⟨b,0,none⟩),.int .i64 i] w (xK w (az B ps) i):=by
 have eo:ay [] w (w.alloc (.cells (aU cX (.slice none 0 0)) 111)):=(ay.refl _ _).alloc _;have HI:=ar (wq i);have HT:=ar (ju i);have yc:=ar h;have sD:=ar aG;have U:Hid (∀(wz:World) (r:Int),ay [] (w.alloc (.cells (aU cX (.slice none 0 0)) 111)) wz->Pb (az B ps) i cX [] r->_):=λwz r hk hr=>V6 (w:=w) hk hr
 have Az:=ar (AZ (h.keep eo (by simp) (by simp)) i);have xB:=fu;have vv:=ar (bf.new w (aU cX (.slice none 0 0)) 111);obtain⟨W0,av⟩:∃W0,w.alloc (.cells (aU cX (.slice none 0 0)) 111)=W0:=⟨_,rfl⟩;rw[av] at U Az vv eo;have nX:=ar av;have gH:=ar eo;clear h aG av eo;generalize XA:az B ps=X at *;have MW:=ar XA;clear XA;generalize ah:aU cX (.slice none 0 0)=Z0 at *;have AY:=ar ah;clear ah;by_cases hi:0<=i/\i<32
 ·rw[bh hi] at HI
  by_cases hf:dO X i
  ·obtain⟨w1,aI⟩:∃w1,w1=W0:=⟨_,rfl⟩
   rw[bh (show(0<=i/\i<32)/\dO X i from ⟨hi,hf⟩)] at Az;have ac:Hid (∀wz,ay [] W0 wz->_):=λwz hk=>U.out wz 2 hk (.inr (.inl ⟨rfl,hi,hf,rfl,rfl⟩))
   clear hi hf U vv HT aI;go_enter func97,ntmps97;go_wp2_with fail;rw[nX.out];refine(HI.out _).mono ?_;rintro e w' ⟨rfl,rfl⟩;go_wp2_with fail;refine Az.out.mono ?_;rintro e w2 ⟨rfl,aa⟩;obtain⟨w3,q1,q2,q3⟩:=ac.out w2 aa;have HS:=ar q1;have HL:=ar q2;have HP:=ar q3;clear q1 q2 q3 aa ac Az;go_wp2_with(with_reducible refine gS 111 HS.out ?_);exact aL (bB results97 rfl HL.out rfl rfl) rfl HP.out
  ·rw[aM (show ¬((0<=i/\i<32)/\dO X i) from λh=>hf h.2)] at Az
   have aD:fA i=((824+8*i.toNat:Nat):Int):=by rw[fA,aA (by omega)];omega
   rw[aD] at HT;have kH:Hid (∀y,ay [] W0 y->Calls prog 141 #[.pointer (some ⟨b,0,none⟩),.int .i64 ((824+8*i.toNat:Nat):Int)] y λe w'=>e= .returned (.agg (aO (fe X i)).toArray)/\ay [] y w'):=λy hk=>by
    have :=mL (yc.out.keep (gH.out.trans' hk) (by simp) (by simp)) (824+8*i.toNat) (by omega);rw[MW.out] at this;exact this
   have sQ:(fe X i).length=8:=iB _ _;have sH:∀k,0<=(fe X i).getD k 0/\(fe X i).getD k 0<18446744073709551616:=yY.row sD.out _;have ag:=ar (λy=>yN (fe X i) sQ (sH 0) (sH 1) y);have hF:(gX (fe X i)).F=(fe X i).getD 0 0%256:=rfl;have aR:=Pd (fe X i);have ae:Hid (∀n own,eP X i n own->(gX (fe X i)).F=n.F):=λn own h=>h.format
   have XI:=ar (λy=>zV (gX (fe X i)).F y);have HO:Hid (∀y,ay [] W0 y->Calls prog 143 #[pI b i] y (A0 y X i 1)):=λy hk=>by
    have :=LD (yc.out.keep (gH.out.trans' hk) (by simp) (by simp)) (by rw[MW.out];exact sD.out) i;rw[MW.out] at this;exact this.mono λe w'=>Gs sD.out
   have HN:Hid (∀y,ay [] W0 y->Calls prog 145 #[pI b i] y (A0 y X i 2)):=λy hk=>by
    have :=LF (yc.out.keep (gH.out.trans' hk) (by simp) (by simp)) (by rw[MW.out];exact sD.out) i;rw[MW.out] at this;exact this.mono λe w'=>Gt
   have Jh:Hid (Z0.size=18):=by rw[<-AY.out];rfl
   have Ur:=ar hf;have QF:=ar hi;clear hF sQ sH aD hi hf;generalize aN:((824+8*i.toNat:Nat):Int)=pi at *;clear aN;generalize aP:(aO (fe X i)).toArray=R8 at *;clear aP;generalize aJ:aU (gX (fe X i)) (.slice none 0 0)=ZT at *;clear aJ;generalize (gX (fe X i)).F=f at *;go_enter func97,ntmps97;go_wp2_with fail;rw[nX.out];refine(HI.out _).mono ?_;rintro e w' ⟨rfl,rfl⟩;go_wp2_with fail;refine Az.out.mono ?_;rintro e w2 ⟨rfl,aa⟩;have fF:=ar aa;clear aa;go_wp2_with fail;refine(HT.out _).mono ?_;rintro e w' ⟨rfl,rfl⟩;go_wp2_with fail;refine(kH.out _ fF.out).mono ?_;rintro e w3 ⟨rfl,aC⟩;have lV:=ar (fF.out.trans' aC);clear aC fF;go_wp2_with fail;refine(ag.out _).mono ?_;rintro e w4 ⟨rfl,aB⟩;have oN:=ar (lV.out.trans' aB);clear aB lV;go_wp2_with fail;refine(XI.out _).mono ?_;rintro e w5 ⟨kr,fa,fb,ax,ai,rfl,h1,h2⟩;have pk:=ar (oN.out.trans' kr);have aF:=bf.new w5 #[.nilFunc,.nilFunc] 148;obtain⟨w6,q1,q2,q3⟩:=CF aF ax ai;have K7:=ar q1;have nM:Hid (ay [] W0 w6):=(pk.out.alloc _).trans q3 (by intro x hx;rw[au] at hx;have :=pk.out.size;omega);have M3:Hid (w6.cell? ⟨w5.heap.size,0,none⟩=some fa):=by show _=_;rw[q2.cell];rfl
   clear kr oN aF q1 q2 q3;by_cases Uf:f=1
   ·rw[bh (show f=1\/f=2 from .inl Uf)]
    obtain⟨rfl,rfl⟩:=h1 Uf;have c6:=M3.out;clear h1 h2 M3 ax ai;go_wp2_with(with_reducible refine gS 148 K7.out ?_);refine(HO.out w6 nM.out).mono ?_;rintro e w7 ⟨n,v,g,own,va,ga,ok,rfl,hB,hE,hg,hO,sG,Df,IU,DG⟩;have Ha:=ar (nM.out.trans' Df);obtain⟨w8,q1,q2,Xx,⟨aj,Z,SX⟩,sX,VF⟩:=uD Ha.out hB hE hO (by have :=nM.out.size;omega);have Iv:W0.heap.size<=g:=by have :=nM.out.size;omega
    rw[AY.out] at q1;have W:=ar q1;have Um:=ar q2;have QG:=ar sX;have Ag:=ar IU;have MH:=ar DG;have Za:=ar Xx;have yL:=ar Z;have K5:=ar hB;have V:=ar Iv;have SY:=ar SX;clear Df hE hO hB hg sG q1 q2 Xx Z sX VF Iv SX IU DG c6 K7 HO HN ag kH XI HI HT Az;generalize Oa:aU n v=ZN at *;have ak:=ar Oa;clear Oa;cases ok with
    |false=>
     obtain⟨e1,e2,e3⟩:=MH.out rfl;obtain⟨w9,G,J,z⟩:=U.out w8 10 QG.out (.inr (.inr (.inl ⟨rfl,QF.out,Ur.out,λn' cH hs=>e3 n' cH hs ((ae.out n' cH hs).symm.trans Uf),rfl,rfl⟩)));have Zz:=ar G;have Od:=ar J;have VK:=ar z;clear e1 e2 e3 G J z U Ag MH;go_wp2_with(first|(with_reducible refine gS 111 W.out ?_)|(with_reducible refine gS 111 Zz.out ?_));exact aL (bB results97 rfl Od.out rfl rfl) rfl VK.out
    |true=>
     obtain⟨w9,G,J,z⟩:=uA (n:=n) (v:=v) (vv.out.keep QG.out (by simp)) Jh.out K5.out (qP Za.out);have ZF:=cC J K5.out;have ZG:xK w X i (.returned (.tuple #[.agg (aU n v),va,.int .i64 0])) w9:=by
      have ah:=gH.out.size;have aK:=vv.out.lt;refine⟨n,v,g,own,va,aj,0,rfl,K5.out,Za.out.keep z (λh0=> ?_),?_,yL.out.keep z ?_,?_,(gH.out.trans' QG.out).trans z (by intro x hx;rw[au] at hx;omega),.inr (.inr (.inr ⟨rfl,Ag.out rfl⟩))⟩
      ·have :=V.out
       rw[au];omega
      ·have :=V.out;omega
      ·have :=SY.out
       rw[au];omega
      ·have :=SY.out;omega
     rw[ak.out] at G ZF ZG;have Zz:=ar G;have Od:=ar ZF;have VK:=ar ZG;clear G J z ZF ZG U Ag MH;go_wp2_with(first|(with_reducible refine gS 111 W.out ?_)|(with_reducible refine gL 111 Um.out ?_)|(with_reducible refine gS 111 Zz.out ?_));exact aL (bB results97 rfl Od.out rfl rfl) rfl VK.out
   ·by_cases af:f=2
    ·rw[bh (show f=1\/f=2 from .inr af)]
     obtain⟨rfl,rfl⟩:=h2 af;have c6:=M3.out;clear h1 h2 M3 ax ai;go_wp2_with(with_reducible refine gS 148 K7.out ?_);refine(HN.out w6 nM.out).mono ?_;rintro e w7 ⟨n,v,g,own,va,ga,ok,rfl,hB,hE,hg,hO,sG,Df,IU,DG⟩;have Ha:=ar (nM.out.trans' Df);obtain⟨w8,q1,q2,Xx,⟨aj,Z,SX⟩,sX,VF⟩:=uD Ha.out hB hE hO (by have :=nM.out.size;omega);have Iv:W0.heap.size<=g:=by have :=nM.out.size;omega
     rw[AY.out] at q1;have W:=ar q1;have Um:=ar q2;have QG:=ar sX;have Ag:=ar IU;have MH:=ar DG;have Za:=ar Xx;have yL:=ar Z;have K5:=ar hB;have V:=ar Iv;have SY:=ar SX;clear Df hE hO hB hg sG q1 q2 Xx Z sX VF Iv SX IU DG c6 K7 HO HN ag kH XI HI HT Az;generalize Oa:aU n v=ZN at *;have ak:=ar Oa;clear Oa;cases ok with
     |false=>
      obtain⟨e1,e2,e3⟩:=MH.out rfl;obtain⟨w9,G,J,z⟩:=U.out w8 10 QG.out (.inr (.inr (.inl ⟨rfl,QF.out,Ur.out,λn' cH hs=>e3 n' cH hs ((ae.out n' cH hs).symm.trans af),rfl,rfl⟩)));have Zz:=ar G;have Od:=ar J;have VK:=ar z;clear e1 e2 e3 G J z U Ag MH;go_wp2_with(first|(with_reducible refine gS 111 W.out ?_)|(with_reducible refine gS 111 Zz.out ?_));exact aL (bB results97 rfl Od.out rfl rfl) rfl VK.out
     |true=>
      obtain⟨w9,G,J,z⟩:=uA (n:=n) (v:=v) (vv.out.keep QG.out (by simp)) Jh.out K5.out (qP Za.out);have ZF:=cC J K5.out;have ZG:xK w X i (.returned (.tuple #[.agg (aU n v),va,.int .i64 0])) w9:=by
       have ah:=gH.out.size;have aK:=vv.out.lt;refine⟨n,v,g,own,va,aj,0,rfl,K5.out,Za.out.keep z (λh0=> ?_),?_,yL.out.keep z ?_,?_,(gH.out.trans' QG.out).trans z (by intro x hx;rw[au] at hx;omega),.inr (.inr (.inr ⟨rfl,Ag.out rfl⟩))⟩
       ·have :=V.out
        rw[au];omega
       ·have :=V.out;omega
       ·have :=SY.out
        rw[au];omega
       ·have :=SY.out;omega
      rw[ak.out] at G ZF ZG;have Zz:=ar G;have Od:=ar ZF;have VK:=ar ZG;clear G J z ZF ZG U Ag MH;go_wp2_with(first|(with_reducible refine gS 111 W.out ?_)|(with_reducible refine gL 111 Um.out ?_)|(with_reducible refine gS 111 Zz.out ?_));exact aL (bB results97 rfl Od.out rfl rfl) rfl VK.out
    ·rw[aM (show ¬(f=1\/f=2) by omega)]
     have ac:Hid (Pb X i cX [] 10):= .inr (.inr (.inl ⟨rfl,QF.out,Ur.out,λn' cH hs=>by
      have :=ae.out n' cH hs;have :=hs.right.1;omega,rfl,rfl⟩))
     obtain⟨w7,G,J,z⟩:=U.out w6 10 nM.out ac.out;have aH:=ar G;have Xu:=ar J;have aQ:=ar z;clear G J z U HO HN ag kH XI HI HT Az ac h1 h2 Uf af ae;go_wp2_with(first|(with_reducible refine gS 148 K7.out ?_)|(with_reducible refine gS 111 aH.out ?_));exact aL (bB results97 rfl Xu.out rfl rfl) rfl aQ.out
 ·rw[aM hi] at HI
  obtain⟨w1,q1,q2,q3⟩:=U.out W0 1 (ay.refl _ _) (.inl ⟨rfl,hi,rfl,rfl⟩);have HS:=ar q1;have HL:=ar q2;have HP:=ar q3;clear q1 q2 q3 hi U Az vv HT;go_enter func97,ntmps97;go_wp2_with fail;rw[nX.out];refine(HI.out _).mono ?_;rintro e w' ⟨rfl,rfl⟩;go_wp2_with(with_reducible refine gS 111 HS.out ?_);exact aL (bB results97 rfl HL.out rfl rfl) rfl HP.out
def CI (w:World) (b y:Nat) (B:List Int) (ps:List (Int×Int)) (i:Int) (n:bN) (e:Ending) (w':World):Prop:=
 ∃r qs h,e= .returned (.int .i64 r)/\(h=y\/(w.heap.size<=h/\h<w'.heap.size))/\eT w' b h B (ps++qs)/\ay [b,y] w w'/\qs.length<=600/\
  ((r=7/\(bp (az B ps)).length<dK n/\qs=[])\/(r=0/\dK n<=(bp (az B ps)).length/\qs=DR (az B ps) i.toNat n ((bp (az B ps)).take (dK n))))
theorem SZ (U:0<=i/\i<32)(hR:bR n)(hF:n.F=1)(h:rN w b J B ps i n e w'):CI w b J B ps i n e w':=by
 have h1:dK n=ez n:=aA (by omega);have V:∀X own,DR X i.toNat n own=mP X i.toNat n own:=λX own=>aA (by omega)
 obtain⟨r,qs,ib,a1,Z,a3,W,a5,a6⟩:=h;refine⟨r,qs,ib,a1,Z,a3,W,by omega,?_⟩;rw[h1,V];rcases a6 with ⟨-,c,-⟩|⟨G,-,y,z⟩|⟨G,-,y,z⟩
 ·exact absurd ⟨U,hF,hR⟩ c
 ·exact .inl ⟨G,y,z⟩
 ·exact .inr ⟨G,y,z⟩
theorem S4 (U:0<=i/\i<32)(hR:bR n)(hF:n.F=2)(h:pE w b J B ps i n e w'):CI w b J B ps i n e w':=by
 have h1:dK n=dS n:=aB hF;have V:∀X own,DR X i.toNat n own=kI X i.toNat n own:=λX own=>aB hF
 obtain⟨r,qs,ib,a1,Z,a3,W,a5,a6⟩:=h;refine⟨r,qs,ib,a1,Z,a3,W,by omega,?_⟩;rw[h1,V];rcases a6 with ⟨-,c,-⟩|⟨G,-,y,z⟩|⟨G,-,y,z⟩
 ·exact absurd ⟨U,hF,hR⟩ c
 ·exact .inl ⟨G,y,z⟩
 ·exact .inr ⟨G,y,z⟩
def S5 (X:List Int) (i:Int) (own:List Nat):Prop:=(dO X i/\own=[])\/∃m,eP X i m own
def uQ (X:List Int) (i:Int) (n:bN) (r:Int) (qs:List (Int×Int)):Prop:=
 (r=1/\¬((0<=i/\i<32)/\bR n)/\qs=[])\/
 (r=10/\((0<=i/\i<32)/\bR n)/\¬dO X i/\(∀y h,¬eP X i y h)/\qs=[])\/
 (∃own,((0<=i/\i<32)/\bR n)/\S5 X i own/\((r=7/\(bp (az X (cB X own))).length<dK n/\qs=[])\/(r=0/\dK n<=(bp (az X (cB X own))).length/\qs=j0 X i.toNat n own)))
def mR (w:World) (b y:Nat) (B:List Int) (ps:List (Int×Int)) (i:Int) (n:bN) (e:Ending) (w':World):Prop:=
 ∃r qs h,e= .returned (.int .i64 r)/\(h=y\/(w.heap.size<=h/\h<w'.heap.size))/\eT w' b h B (ps++qs)/\ay [b,y] w w'/\qs.length<=700/\uQ (az B ps) i n r qs
theorem mR.nothing{y:Nat}(h:eT w b y B ps)(z:ay [] w w')(G:uQ (az B ps) i n r []):mR w b y B ps i n (.returned (.int .i64 r)) w':=
 ⟨r,[],y,rfl,.inl rfl,by rw[bq];exact h.keep z (by simp) (by simp),z.mono (by simp),by simp,G⟩
theorem za{z:Nat}(h:eT w b z B ps)(bb:In64 (az B ps))(hT:∀y,ay [b,z] w y->lC y)(Dn:z<w.heap.size)(aJ:ps.length<=700000)(i:Int)(n:bN)(v:Value)(g:Nat)(hB:n.B.length=13)(hE:br w v g n.E)
  (hN:∀k,k<n.E.length->(dZ n.E k).size<=9223372036854775807) (af:n.E.length≠0->g≠b/\g≠z):
  Calls prog 49 #[.pointer (some ⟨b,0,none⟩),.int .i64 i,.agg (aU n v)] w (mR w b z B ps i n):=by
 have eo:ay [] w (w.alloc (.cells (aU n v) 111)):=(ay.refl _ _).alloc _;have qg:=bf.new w (aU n v) 111;have HI:=ar (wq i);have vt:=ar (λy (U:ay [] w y)=>lO n v g hB y (hE.keep U (by simp)) hN);have jc:Hid (∀(w':World) (r:Int),ay [] w w'->uQ (az B ps) i n r []->mR w b z B ps i n (.returned (.int .i64 r)) w'):=λw' r U hr=>mR.nothing h U hr
 have AV:=ar (λy (U:ay [] (w.alloc (.cells (aU n v) 111)) y)=>cC (qg.keep U (by simp)) hB);obtain⟨G,av⟩:∃G,w.alloc (.cells (aU n v) 111)=G:=⟨_,rfl⟩;rw[av] at eo qg AV;have nX:=ar av;have gH:=ar eo;have Vi:=ar qg;have yc:=ar h;have sD:=ar bb;have HE:=ar hE;have HB:=ar hB;have ax:=ar hT;have XG:=ar hN;have Sc:=ar af;have Af:=ar aJ;have aj:=ar Dn;clear h bb av eo qg hE hN hT af aJ Dn;by_cases hi:0<=i/\i<32
 ·rw[bh hi] at HI
  by_cases hR:bR n
  ·rw[bh hR] at vt
   obtain⟨X,hX⟩:∃X,az B ps=X:=⟨_,rfl⟩;have MW:=ar hX;have bB:Hid (X.length=3128):=by show _=_;rw[<-hX];exact yc.out.raw.lx
   have bk:b<w.heap.size:=yc.out.raw.lt;have bC:=ar bk;have O0:Hid (In64 X):=by show In64 X;rw[<-hX];exact sD.out
   have Dw:=ar (AV.out G (ay.refl _ _));have V7:=ar (vt.out G gH.out);have KU:Hid (∀y,ay [] G y->Calls prog 97 #[.pointer (some ⟨b,0,none⟩),.int .i64 i] y (xK y X i)):=λy U=>by
    have :=get_at (yc.out.keep (gH.out.trans' U) (by simp) (by simp)) sD.out i;rwa[hX] at this
   have bv:Hid (∀y,ay [] G y->eT y b z B ps):=λy U=>yc.out.keep (gH.out.trans' U) (by simp) (by simp)
   have Ge:Hid (∀y,ay [] G y->Calls prog 98 #[.pointer (some ⟨b,0,none⟩)] y λe w'=>e= .returned (.int .i64 (ps.length:Int))/\y=w'):=λy U=>
    ND (yc.out.keep (gH.out.trans' U) (by simp) (by simp))
   have aA:Hid (∀y va ga own,ay [] G y->Reads y va ga (cM own)->G.heap.size<=ga->own.length<=32->Calls prog 99 #[.pointer (some ⟨b,0,none⟩),va] y (iY y b z B (ps++cB X own))):=λy va ga own U hr hg hl=>by
    have hz:=gH.out.size;have aa:=aj.out;have :=V5 (yc.out.keep (gH.out.trans' U) (by simp) (by simp)) sD.out (by have :=U.size;omega) (by have :=Af.out;omega) hr (by omega) (λ_=>by omega);rwa[hX] at this
   have DF:Hid (∀y mf own,ay [b,z] G y->eT y b mf B (ps++cB X own)->mf<y.heap.size->(mf=z\/G.heap.size<=mf)->own.length<=32->∀f:Nat,((n.F=1->f= 144)/\(n.F=2->f= 146))->
     Calls prog f #[pI b i,.agg (aU n v)] y (CI y b mf B (ps++cB X own) i n)):=λy mf own U hs aa af ae f hf=>by
    have ai:ay [b,z] w y:=(gH.out.mono (by simp)).trans' U;have aN:In64 (az B (ps++cB X own)):=by rw[bJ,hX];exact(ko own X O0.out bB.out).1
    have ah:(ps++cB X own).length<=800000:=by
     have V:=wm own X;have J:=Af.out;rw[aD];omega
    have bF:=gH.out.size;have bg:br y v g n.E:=HE.out.keep ai (λh0=>by
     have :=Sc.out h0;simp only[aQ,aS,bD,not_or];exact this)
    have bc:n.E.length≠0->g≠b/\g≠mf:=λh0=>by
     have V:=Sc.out h0;refine⟨V.1,λJ=> ?_⟩;rcases af with h3|h3
     ·exact V.2 (J.trans h3)
     ·have :=HE.out.apart (l:=[mf]) (λx hx=>by rw[au] at hx;omega) h0
      rw[au] at this;exact this J
    rcases hR.1 with hF|hF
    ·rw[hf.1 hF]
     exact(O9 hs aN (ax.out y ai) aa ah i n v g HB.out bg XG.out bc).mono λe w'=>SZ hi hR hF
    ·rw[hf.2 hF]
     exact(Pa hs aN (ax.out y ai) aa ah i n v g HB.out bg XG.out bc).mono λe w'=>S4 hi hR hF
   have XJ:Hid (∀y,ay [b,z] G y->y.cell? ⟨w.heap.size,0,none⟩=some (.int .i64 n.F)/\(loadVar 111 ⟨w.heap.size,0,none⟩).run prog y= .ok (.agg (aU n v)) y):=λy U=>by
    have hb:=Vi.out.keep U (by have :=aj.out;simp;omega);refine⟨?_,cC hb HB.out⟩;rw[hb.cell];exact(jL v HB.out).f0
   have XI:=ar (λy=>zV n.F y);have ZH:Hid (n.F=1\/n.F=2):=hR.1;have Xq:Hid ((0<=i/\i<32)/\bR n):=⟨hi,hR⟩;have mJ:Hid (∀y (W:Nat) (r:Int) (qs:List (Int×Int)),(W=z\/(w.heap.size<=W/\W<y.heap.size))->eT y b W B (ps++qs)->ay [b,z] G y->qs.length<=700->uQ X i n r qs->mR w b z B ps i n (.returned (.int .i64 r)) y):=λy W r qs V J h3 h4 h5=>
    ⟨r,qs,W,rfl,V,J,(gH.out.mono (by simp)).trans' h3,h4,by rw[hX];exact h5⟩
   have xB:=fu;clear hi hR AV vt hX jc HE XG Sc ax yc sD;have AY:=ar gH.out.size;have bA:n.F=n.F:=rfl;clear bA;generalize bj:aU n v=Z at *;clear bj;generalize hf:n.F=f at *;clear hf;go_enter func49,ntmps49;go_wp2_with fail;rw[nX.out];refine(HI.out _).mono ?_;rintro e w' ⟨rfl,rfl⟩;go_wp2_with((with_reducible show wpList _ _ _ (⟨_,.load 111 (.tmp 5),_,_,_,_⟩::_) _ _);refine dC (by first|rfl|simp[Region.wanted,yielded]) 111 (.tmp 5) rfl _ rfl _ Dw.out ?_);refine V7.out.mono ?_;rintro e w2 ⟨rfl,ac⟩;have fF:=ar ac;clear ac;go_wp2_with fail;refine(KU.out w2 fF.out).mono ?_;rintro e w3 ⟨m,vm,gm,own,va,ga,r,rfl,aL,XK,bu,hO,sG,aK,aH⟩;have mO:ay [] G w3:=fF.out.trans' aK;obtain⟨w4,q1,q2,QJ,⟨bo,MZ,aW⟩,aB,bz⟩:=uD mO aL XK hO (by have :=fF.out.size;omega);have wQ:=ar q1;have V2:=ar MZ;have bp:=ar aW;have oN:=ar aB;have ag:=ar aH;clear aL XK bu hO sG aK aH q1 q2 QJ MZ aW aB bz mO fF V7 Dw KU;generalize aU m vm=ZM at *;generalize aU cX (.slice none 0 0)=ZZ at *;by_cases V8:r=10
   ·subst V8
    have aC:uQ X i n 10 []:=by
     rcases ag.out with ⟨h,-⟩|⟨h,-⟩|⟨-,V,J,h3,-⟩|⟨h,-⟩
     ·omega
     ·omega
     ·exact .inr (.inl ⟨rfl,Xq.out,J,h3,rfl⟩)
     ·omega
    have HP:Hid (mR w b z B ps i n (.returned (.int .i64 10)) w4):=mJ.out w4 z 10 [] (.inl rfl) (by rw[bq];exact bv.out w4 oN.out) (oN.out.mono (by simp)) (by simp) aC;clear aC ag mJ XJ XI DF aA Ge;go_wp2_with(with_reducible refine gS 111 wQ.out ?_);go_ret;exact HP.out
   ·have ae:own.length<=32/\S5 X i own:=by
     rcases ag.out with ⟨V,J,-⟩|⟨-,-,J,-,h3⟩|⟨h,-⟩|⟨-,h⟩
     ·exact absurd Xq.out.1 J
     ·subst h3;exact⟨by simp,.inl ⟨J,rfl⟩⟩
     ·exact absurd h V8
     ·exact⟨by have V:=h.ownLen;have J:=CD h.right;omega,.inr ⟨m,h⟩⟩
    have bn:(r==10)=false:=by simpa using V8
    have Uj:=ar ae;have aO:=ar (aA.out w4 va bo own oN.out V2.out.reads bp.out ae.1);clear ae ag aA V2 V8;go_wp2_with(with_reducible refine gS 111 wQ.out ?_);refine(Ge.out w4 oN.out).mono ?_;rintro e w' ⟨rfl,rfl⟩;go_wp2_with fail;refine aO.out.mono ?_;rintro e w5 ⟨rfl,mf,bw,aZ,kr⟩;have pk:Hid (ay [b,z] G w5):=(oN.out.mono (by simp)).trans' kr;have zL:=ar aZ;have V9:Hid (mf<w5.heap.size/\(mf=z\/G.heap.size<=mf)):=by
     have z4:=oN.out.size;have z5:=kr.size;have :=aj.out;have :=AY.out;exact⟨by omega,by omega⟩
    have Ke:=ar (XJ.out w5 pk.out);have c5:=Ke.out.1;clear bw aZ kr aO Ge;go_wp2_with fail;refine(XI.out w5).mono ?_;rintro e w6 ⟨jZ,fa,fb,aT,aF,rfl,V,J⟩;have bl:∃q:Nat,fb= .func (.func q) #[] #[]/\((f=1->q= 144)/\(f=2->q= 146)):=by
     rcases ZH.out with hF|hF
     ·exact⟨_,(V hF).2,λ_=>rfl,λh=>by omega⟩
     ·exact⟨_,(J hF).2,λh=>by omega,λ_=>rfl⟩
    rw[bh ZH.out];obtain⟨q,rfl,hq⟩:=bl;have bt:q= 144\/q= 146 :=ZH.out.imp (λh=>hq.1 h) λh=>hq.2 h
    have aR:=bf.new w6 #[.nilFunc,.nilFunc] 148;obtain⟨w7,q1,q2,q3⟩:=CF aR aT aF;have aV:ay [] w6 w7:=((ay.refl [] w6).alloc _).trans q3 (by intro x hx;rw[au] at hx;omega);have Pe:Hid (ay [] w5 w7):=jZ.trans' aV;have ak:=ar q1;have Ha:Hid (ay [b,z] G w7):=pk.out.trans' (Pe.out.mono (by simp));have c7:w7.cell? ⟨w6.heap.size,1,none⟩=some (.func (.func q) #[] #[]):=by rw[q2.cell];rfl
    have Xu:=ar (XJ.out w7 Ha.out).2;have ZJ:Hid (eT w7 b mf B (ps++cB X own)):=zL.out.keep Pe.out (by simp) (by simp);have Qw:=ar (DF.out w7 mf own Ha.out ZJ.out (by have :=V9.out;have :=Pe.out.size;omega) V9.out.2 Uj.out.1 q hq);clear hq c5 jZ aT aF V J aR q1 q2 q3 aV DF XJ XI Ke wQ bn;rcases bt with rfl|rfl
    all_goals (
     go_wp2_with(first|(with_reducible refine gS 148 ak.out ?_)|(with_reducible refine gL 111 Xu.out ?_));refine Qw.out.mono ?_;rintro e w8 ⟨r2,bG,W,rfl,aP,RG,sX,aG,aI⟩;have hY:az B (ps++cB X own)=az X (cB X own):=by rw[bJ,MW.out]
     rw[hY] at aI;have aa:=wm own X;have Xe:=Uj.out.1;have ZK:W=z\/(w.heap.size<=W/\W<w8.heap.size):=by
      have V:=V9.out;have J:=Pe.out.size;have h3:=sX.size;have h4:=AY.out;have h5:=Ha.out.size;omega
     have Wa:ay [b,z] G w8:=Ha.out.trans sX (by
      intro x hx;have V:=V9.out.2;simp only[aQ,aS,bD] at hx ⊢;omega)
     rcases aI with ⟨rfl,ye,rfl⟩|⟨rfl,ye,rfl⟩
     ·have aX:((ps++cB X own)++[]).take (zt (ps.length:Int) ((ps++cB X own)++[]).length)=ps:=by
       have bE:ps.length<=((ps++cB X own)++[]).length:=by simp
       have :zt (ps.length:Int) ((ps++cB X own)++[]).length=ps.length:=by have :=Eg (ps.length:Int) ((ps++cB X own)++[]).length;omega
       rw[this,bq,List.take_left]
      have AO:Hid (Calls prog 101 #[.pointer (some ⟨b,0,none⟩),.int .i64 (ps.length:Int)] w8 (Hv w8 b W B ps)):=by
       have :=NC RG (ps.length:Int);rwa[aX] at this
      have HP:Hid (∀w9,eT w9 b W B ps->ay [b] w8 w9->mR w b z B ps i n (.returned (.int .i64 7)) w9):=λw9 V J=>
       mJ.out w9 W 7 [] (by have :=J.size;omega) (by rw[bq];exact V) (Wa.trans J (by intro x hx;rw[au] at hx;left;simp[hx])) (by simp) (.inr (.inr ⟨own,Xq.out,Uj.out.2,.inl ⟨rfl,ye,rfl⟩⟩))
      clear hY aa Xe ZK Wa ye aX RG sX aP aG Qw mJ Xu ZJ ak c7 Ha Pe zL pk V9;go_wp2_with fail;refine AO.out.mono ?_;rintro e w9 ⟨rfl,aY,EK⟩;have ET:=ar (HP.out w9 aY EK);clear aY EK HP AO;go_wp2_with fail;go_ret;exact ET.out
     ·have HP:Hid (mR w b z B ps i n (.returned (.int .i64 0)) w8):=
       mJ.out w8 W 0 (j0 X i.toNat n own) ZK (by unfold j0;rw[<-ba];exact RG) Wa (by unfold j0;rw[aD];omega) (.inr (.inr ⟨own,Xq.out,Uj.out.2,.inr ⟨rfl,ye,rfl⟩⟩))
      clear hY aa Xe ZK Wa ye RG sX aP aG Qw mJ Xu ZJ ak c7 Ha Pe zL pk V9;go_wp2_with fail;go_ret;exact HP.out)
  ·rw[aM hR] at vt
   have HX:Hid (uQ (az B ps) i n 1 []):= .inl ⟨rfl,λh=>hR h.2,rfl⟩;have Dw:=ar (AV.out G (ay.refl _ _));have V7:=ar (vt.out G gH.out);clear hi hR AV vt HB;generalize aU n v=Z at *;go_enter func49,ntmps49;go_wp2_with fail;rw[nX.out];refine(HI.out _).mono ?_;rintro e w' ⟨rfl,rfl⟩;go_wp2_with((with_reducible show wpList _ _ _ (⟨_,.load 111 (.tmp 5),_,_,_,_⟩::_) _ _);refine dC (by first|rfl|simp[Region.wanted,yielded]) 111 (.tmp 5) rfl _ rfl _ Dw.out ?_);refine V7.out.mono ?_;rintro e w2 ⟨rfl,ac⟩;have HP:=ar (jc.out w2 1 (gH.out.trans' ac) HX.out);clear ac;go_wp2_with fail;go_ret;exact HP.out
 ·rw[aM hi] at HI
  have HP:=ar (jc.out G 1 gH.out (.inl ⟨rfl,λh=>hi h.1,rfl⟩));clear hi jc vt AV HB;generalize aU n v=Z at *;go_enter func49,ntmps49;go_wp2_with fail;rw[nX.out];refine(HI.out _).mono ?_;rintro e w' ⟨rfl,rfl⟩;go_wp2_with fail;go_ret;exact HP.out
def fK (B:List Int) (k:Nat):List Nat:=((B.take k).filter λx=>x != 0).map Int.toNat
def eU (n:bN):List Nat:=fK n.B 13
theorem Gu (B:List Int)(k:Nat)(y:k<B.length):fK B (k+1)=fK B k++(if B.getD k 0=0 then [] else [(B.getD k 0).toNat]):=by
 unfold fK;rw[bz y,fM,eJ]
 congr 1
 have :B.getD k 0=B[k]:=by simp[y]
 rw[this];by_cases h:B[k]=0
 ·simp[h]
 ·simp[h]
theorem CJ (B:List Int)(k:Nat):(fK B k).length<=k:=by
 unfold fK;rw[bG];exact cJ (fH _ _) (by rw[aI];omega)
theorem Wb{ws:World}(U:ay [] ws w){va:Value}{own:List Nat}(hO:w.ownsRow ws.heap.size 3 1 va own.length (cM own))(n:bN)(v:Value)(hB:n.B.length=13)(h0:∀k,0<=n.B.getD k 0)(hl:own.length<=1000):
  Calls prog 163 #[va,.agg (aU n v)] w λe w'=>∃u,e= .returned u/\w'.ownsRow ws.heap.size 3 1 u (own++eU n).length (cM (own++eU n))/\ay [] ws w':=by
 obtain⟨i0,hi,af,ai,ah⟩:=cr Tryz.info_int;have aj:=U.size;have V:=bf.new w (aU n v) 111;have oO:Hid ((loadVar 109 ⟨w.heap.size,4,none⟩).run prog (w.alloc (.cells (aU n v) 111))= .ok (.agg (zs n.B).toArray) (w.alloc (.cells (aU n v) 111))):=eN V hB (jL v hB).f4;have HZ:Hid (∀k,k<13->(zs n.B).toArray[k]? =some (.int .i64 (n.B.getD k 0))):=λk U=>by rw[aC,fp (by omega)]
 have W:Hid ((w.alloc (.cells (aU n v) 111)).ownsRow ws.heap.size 3 1 va (own++fK n.B 0).length (cM (own++fK n.B 0))/\ay [] ws (w.alloc (.cells (aU n v) 111))):=by
  have :own++fK n.B 0=own:=by simp[fK]
  rw[this];exact⟨hO.alloc _,U.alloc _⟩
 have HB:=ar hB;have H0:=ar h0;have ae:Hid (fK n.B 13=eU n):=rfl;clear hO V U hB h0;generalize aU n v=Z at *;generalize (zs n.B).toArray=ZB at *;go_enter func163,ntmps163;go_wp2_with(with_reducible refine gL 109 oO.out ?_);go_loopg [0,9] 13 (λgh s0 s9 wx=>∃k:Nat,k+gh=13/\s9= .int .i64 (k:Int)/\Hid (wx.ownsRow ws.heap.size 3 1 s0 (own++fK n.B k).length (cM (own++fK n.B k))/\ay [] ws wx))
 case atStart=>exact⟨0,by omega,rfl,W.out⟩
 case round=>
  clear W oO;obtain⟨k,U,rfl,G⟩:=hrel;cases gk with
  |zero=>
   obtain rfl:k=13:=by omega
   have HE:=ar G.out;rw[ae.out] at HE;clear U G;go_wp2_with fail;go_ret;exact⟨_,rfl,HE.out⟩
  |succ gg=>
   have pW:k<13:=by omega
   have ax:(k:Int)<13:=by omega
   have eo:(0:Int)<=(k:Int):=by omega
   have Ad:=Et pW (HZ.out k pW);have av:=H0.out k;have HS:=ar (Gu n.B k (by rw[HB.out];exact pW));have ac:=CJ n.B k;generalize n.B.getD k 0=x at *;by_cases J:x=0
   ·have e0:(x != 0)=false:=by rw[J];rfl
    have HN:Hid (wr.ownsRow ws.heap.size 3 1 u0 (own++fK n.B (k+1)).length (cM (own++fK n.B (k+1)))/\ay [] ws wr):=by
     show _/\_;rw[HS.out,aB J,bq];exact G.out
    clear G HS J;go_wp2_with fail;go_roundg gg;case measure=>omega
    case rel=>exact⟨k+1,by omega,by go_num,HN.out⟩
   ·have e0:(x != 0)=true:=bne_iff_ne.2 J
    have h:=ar G.out.1;have iA:=ar G.out.2;have ak:=G.out.2.size;have au:(own++fK n.B k).length<=2000:=by rw[aD];omega
    have kR:Hid (own++fK n.B (k+1)=(own++fK n.B k)++[x.toNat]):=by
     show _=_;rw[HS.out,aA J,ba]
    have HI:Hid (cM ((own++fK n.B k)++[x.toNat])=cM (own++fK n.B k)++[.int .i64 x]):=by
     show _=_;have ag:((x.toNat:Nat):Int)=x:=by omega
     rw[tB];show _++[Value.int .i64 ((x.toNat:Nat):Int)]=_;rw[ag]
    have Er:Hid (((own++fK n.B k)++[x.toNat]).length=(own++fK n.B k).length+1):=aD;clear G HS ac;generalize own++fK n.B k=L at *;generalize hq:L.length=q at *;go_wp2_with(at_builtin;refine dw _ rfl _ _ 141 rfl ws.heap.size 3 i0 (.int .i64 0) 1 8 underlying141 hi af ai ah rfl (by decide) u0 q _ rfl (h.out.alloc _) ⟨wr.heap.size,0,none⟩ 1 1 [.int .i64 x] rfl rfl ?c1 ?c2 (by unfold maxLen;omega) (by omega) (by simp;omega) ?_);case c1=>exact iX _ [_] _ _ rfl
    case c2=>simp[Value.oneCell']
    intro v' w1 z y aa;have HN:Hid (w1.ownsRow ws.heap.size 3 1 v' (own++fK n.B (k+1)).length (cM (own++fK n.B (k+1)))/\ay [] ws w1):=by
     show _/\_;rw[kR.out,Er.out,HI.out];exact⟨z,(iA.out.alloc _).grown y (cz h.out)⟩
    clear z y aa h iA kR HI Er J hq;go_wp2_with fail;go_roundg gg;case measure=>omega
    case rel=>exact⟨k+1,by omega,by go_num,HN.out⟩
def CK (w:World) (X:List Int) (i:Int) (e:Ending) (w':World):Prop:=
 ∃v g l,e= .returned v/\Reads w' v g (cM l)/\ay [] w w'/\((∃n own,eP X i n own/\l=own++eU n)\/((∀n own,¬eP X i n own)/\l=[]))/\(l≠[]->w.heap.size<=g)
theorem Wc (h:eT w b gp B ps)(aa:In64 (az B ps))(i:Int):
  Calls prog 132 #[.pointer (some ⟨b,0,none⟩),.int .i64 i] w (CK w (az B ps) i):=by
 have KU:=ar (get_at h aa i);have xB:=fu;clear h aa;go_enter func132,ntmps132;go_wp2_with fail;refine KU.out.mono ?_;rintro e w1 ⟨n,v,g,own,va,ga,r,rfl,hB,hE,hg,hO,sG,J,hr⟩;obtain⟨w2,q1,q2,Us,⟨au,G,V⟩,af,ah⟩:=uD J hB hE hO sG;have sS:=ar q1;have pd:=ar q2;have MH:=ar G;have ai:=ar V;have fF:=ar af;have HR:=ar hr;have HB:=ar hB;clear hB hE hg hO sG J hr q1 q2 Us G V af ah KU;by_cases QK:r=0
 ·subst QK
  have y:eP (az B ps) i n own:=by
   rcases HR.out with ⟨h,-⟩|⟨h,-⟩|⟨h,-⟩|⟨-,h⟩
   ·omega
   ·omega
   ·omega
   ·exact h
  have aj:own.length<=32:=by have h1:=y.ownLen;have Z:=CD y.right;omega
  have ac:∀k,0<=n.B.getD k 0:=λk=>(uy y.right HB.out k).1
  have z:w2.ownsRow w.heap.size 3 1 va own.length (cM own):=by
   obtain⟨⟨h0,h5⟩,Z⟩:=MH.out;rcases h5 with h5|⟨g',cap,ag,e1,e2,e3⟩
   ·exact⟨h0,.inl h5⟩
   ·exact⟨h0,.inr ⟨g',cap,ag,e1,by have :=ai.out;omega,e3⟩⟩
  have HW:=ar (Wb fF.out z n v HB.out ac (by omega));have ak:=ar y;clear HR y aj ac z;generalize Oa:aU n v=ZN at *;clear Oa;generalize aU cX (.slice none 0 0)=ZZ at *;go_wp2_with(first|(with_reducible refine gS 111 sS.out ?_)|(with_reducible refine gL 111 pd.out ?_));refine HW.out.mono ?_;rintro e w3 ⟨u,rfl,hu,U⟩;obtain⟨gu,W,ae⟩:=kb.of_row hu;have HP:Hid (CK w (az B ps) i (.returned u) w3):=⟨u,gu,_,rfl,W.reads,U,.inl ⟨n,own,ak.out,rfl⟩,λ_=>ae⟩;clear hu U W ae HW;go_wp2_with fail;go_ret;exact HP.out
 ·have HP:Hid (CK w (az B ps) i (.returned (.slice none 0 0)) w2):=by
   refine⟨_,0,[],rfl,Cx _ _,fF.out,.inr ⟨λn' cH hs=> ?_,rfl⟩,λh=>absurd rfl h⟩;rcases HR.out with ⟨h1,Z,-⟩|⟨h1,Z,h3,-⟩|⟨h1,Z,h3,h4,-⟩|⟨h,-⟩
   ·exact Z hs.rng
   ·exact hs.notFree h3
   ·exact h4 _ _ hs
   ·exact QK h
  have e0:(r != 0)=true:=bne_iff_ne.2 QK;clear HR QK;generalize aU n v=ZN at *;generalize aU cX (.slice none 0 0)=ZZ at *;go_wp2_with(with_reducible refine gS 111 sS.out ?_);go_ret;exact HP.out
theorem uQ.free(h:uQ X i n r qs)(W:0<=i/\i<32)(V:dO X i):
  (r=1/\¬bR n/\qs=[])\/(r=7/\bR n/\(bp X).length<dK n/\qs=[])\/(r=0/\bR n/\dK n<=(bp X).length/\qs=j0 X i.toNat n []):=by
 rcases h with ⟨G,z,y⟩|⟨-,-,z,-⟩|⟨own,G,z,y⟩
 ·exact .inl ⟨G,λhR=>z ⟨W,hR⟩,y⟩
 ·exact absurd V z
 ·have Z:own=[]:=by
   rcases z with ⟨-,h⟩|⟨m,h⟩
   ·exact h
   ·exact absurd V h.notFree
  subst Z;rcases y with ⟨y,U,J⟩|⟨y,U,J⟩
  ·exact .inr (.inl ⟨y,G.2,U,J⟩)
  ·exact .inr (.inr ⟨y,G.2,U,J⟩)
theorem uQ.over{m:bN}{z:List Nat}(h:uQ X i n r qs)(U:eP X i m z):
  (r=1/\¬bR n/\qs=[])\/(r=7/\bR n/\(bp (az X (cB X z))).length<dK n/\qs=[])\/(r=0/\bR n/\dK n<=(bp (az X (cB X z))).length/\qs=j0 X i.toNat n z):=by
 rcases h with ⟨J,G,y⟩|⟨-,-,-,G,-⟩|⟨own,J,G,y⟩
 ·exact .inl ⟨J,λhR=>G ⟨U.rng,hR⟩,y⟩
 ·exact absurd U (G _ _)
 ·have Z:own=z:=by
   rcases G with ⟨h,-⟩|⟨m',h⟩
   ·exact absurd h U.notFree
   ·exact(U.uniq h).2
  subst Z;rcases y with ⟨y,W,V⟩|⟨y,W,V⟩
  ·exact .inr (.inl ⟨y,J.2,W,V⟩)
  ·exact .inr (.inr ⟨y,J.2,W,V⟩)
def Wd (X:List Int) (n:bN) (i r:Int) (qs:List (Int×Int)):Prop:=
 (r=7/\i=0/\(∀k:Nat,k<32->¬dO X (k:Int))/\qs=[])\/
 ∃j:Nat,j<32/\dO X (j:Int)/\(∀k:Nat,k<j->¬dO X (k:Int))/\((r=1/\i=0/\¬bR n/\qs=[])\/(r=7/\i=0/\bR n/\(bp X).length<dK n/\qs=[])\/(r=0/\i=(j:Int)/\bR n/\dK n<=(bp X).length/\qs=j0 X j n []))
def Gv (w:World) (b y:Nat) (B:List Int) (ps:List (Int×Int)) (n:bN) (e:Ending) (w':World):Prop:=
 ∃i r qs h,e= .returned (.tuple #[.int .i64 i,.int .i64 r])/\(h=y\/(w.heap.size<=h/\h<w'.heap.size))/\eT w' b h B (ps++qs)/\ay [b,y] w w'/\qs.length<=700/\Wd (az B ps) n i r qs
theorem Pf (h:eT w b J B ps)(ai:In64 (az B ps))(hT:∀y,ay [b,J] w y->lC y)(Dn:J<w.heap.size)(ae:ps.length<=700000)(n:bN)(v:Value)(g:Nat)(hB:n.B.length=13)(hE:br w v g n.E)
  (hN:∀k,k<n.E.length->(dZ n.E k).size<=9223372036854775807) (af:n.E.length≠0->g≠b/\g≠J):
  Calls prog 147 #[.pointer (some ⟨b,0,none⟩),.agg (aU n v)] w (Gv w b J B ps n):=by
 have eo:ay [] w (w.alloc (.cells (aU n v) 111)):=(ay.refl _ _).alloc _;have aa:=bf.new w (aU n v) 111;obtain⟨X,hX⟩:∃X,az B ps=X:=⟨_,rfl⟩;obtain⟨W,ac⟩:∃W,w.alloc (.cells (aU n v) 111)=W:=⟨_,rfl⟩;rw[ac] at eo aa;have nC:Hid (∀y,ay [] W y->(loadVar 111 ⟨w.heap.size,0,none⟩).run prog y= .ok (.agg (aU n v)) y):=λy V=>cC (aa.keep V (by simp)) hB
 have Az:Hid (∀y (i:Int),ay [] W y->Calls prog 129 #[.pointer (some ⟨b,0,none⟩),.int .i64 i] y λe w'=>e= .returned (.bool (decide ((0<=i/\i<32)/\dO X i)))/\ay [] y w'):=λy i V=>by
  have :=AZ (h.keep (eo.trans' V) (by simp) (by simp)) i;rwa[hX] at this
 have LG:Hid (∀y (i:Int),ay [] W y->Calls prog 49 #[.pointer (some ⟨b,0,none⟩),.int .i64 i,.agg (aU n v)] y (λe w'=>∃r qs z,e= .returned (.int .i64 r)/\(z=J\/(w.heap.size<=z/\z<w'.heap.size))/\eT w' b z B (ps++qs)/\ay [b,J] w w'/\qs.length<=700/\uQ X i n r qs)):=λy i V=>by
  have yI:=eo.trans' V;have :=za (h.keep yI (by simp) (by simp)) ai (λwy hy=>hT wy ((yI.mono (by simp)).trans' hy)) (by have :=yI.size;omega) ae i n v g hB (hE.keep yI (by simp)) hN af;refine this.mono ?_;rintro e w' ⟨r,qs,z,G,U,h3,h4,h5,h6⟩;rw[hX] at h6;exact⟨r,qs,z,G,by have :=yI.size;omega,h3,(yI.mono (by simp)).trans' h4,h5,h6⟩
 have jc:Hid (∀y,ay [] W y->(∀k:Nat,k<32->¬dO X (k:Int))->Gv w b J B ps n (.returned (.tuple #[.int .i64 0,.int .i64 7])) y):=λy V hf=>
  ⟨0,7,[],J,rfl,.inl rfl,by rw[bq];exact h.keep (eo.trans' V) (by simp) (by simp),(eo.trans' V).mono (by simp),by simp,.inl ⟨rfl,rfl,by rw[hX];exact hf,rfl⟩⟩
 have ZV:Hid (∀y i r qs z,(z=J\/(w.heap.size<=z/\z<y.heap.size))->eT y b z B (ps++qs)->ay [b,J] w y->qs.length<=700->Wd X n i r qs->Gv w b J B ps n (.returned (.tuple #[.int .i64 i,.int .i64 r])) y):=λy i r qs z G U h3 h4 h5=>
  ⟨i,r,qs,z,rfl,G,U,h3,h4,by rw[hX];exact h5⟩
 have nX:=ar ac;clear h ai hT Dn ae hE hN af hX ac eo aa hB;generalize aU n v=Z at *;go_enter func147,ntmps147;go_wp2_with fail;rw[nX.out];go_loopg [8] 32 (λgh s8 y=>∃k:Nat,k+gh=32/\s8= .int .i64 (k:Int)/\Hid (ay [] W y/\∀j:Nat,j<k->¬dO X (j:Int)))
 case atStart=>exact⟨0,by omega,rfl,ay.refl _ _,λj hj=>by omega⟩
 case round=>
  obtain⟨k,V,rfl,HP⟩:=hrel;cases gk with
  |zero=>
   obtain rfl:k=32:=by omega
   have HE:=ar (jc.out wr HP.out.1 HP.out.2);clear V jc ZV LG Az nC;go_wp2_with fail;go_ret2;exact HE.out
  |succ gg=>
   have au:(k:Int)<32:=by omega
   have qT:k<32:=by omega
   go_wp2_with fail;refine(Az.out wr (k:Int) HP.out.1).mono ?_;rintro e w2 ⟨rfl,av⟩;have fF:Hid (ay [] W w2):=HP.out.1.trans' av;clear av;by_cases hf:dO X (k:Int)
   ·rw[bh (show(0<=(k:Int)/\(k:Int)<32)/\dO X (k:Int) from ⟨⟨by omega,au⟩,hf⟩)]
    have pd:=ar (nC.out w2 fF.out);have HF:=ar hf;clear hf;go_wp2_with(with_reducible refine gL 111 pd.out ?_);refine(LG.out w2 (k:Int) fF.out).mono ?_;rintro e w3 ⟨r,qs,z,rfl,ah,ak,ag,YW,aj⟩;have hr:=aj.free ⟨by omega,au⟩ HF.out;rw[aJ] at hr;have HY:=ar (λi hr=>ZV.out w3 i r qs z ah ak ag YW hr);clear ah ak ag YW aj jc ZV LG Az nC pd fF V;rcases hr with ⟨rfl,G,U⟩|⟨rfl,G,U,h3⟩|⟨rfl,G,U,h3⟩
    ·have HE:=ar (HY.out 0 (.inr ⟨k,qT,HF.out,HP.out.2,.inl ⟨rfl,rfl,G,U⟩⟩))
     clear G U HY qT;go_wp2_with fail;go_ret2;exact HE.out
    ·have HE:=ar (HY.out 0 (.inr ⟨k,qT,HF.out,HP.out.2,.inr (.inl ⟨rfl,rfl,G,U,h3⟩)⟩))
     clear G U h3 HY qT;go_wp2_with fail;go_ret2;exact HE.out
    ·have HE:=ar (HY.out (k:Int) (.inr ⟨k,qT,HF.out,HP.out.2,.inr (.inr ⟨rfl,rfl,G,U,h3⟩)⟩))
     clear G U h3 HY qT;go_wp2_with fail;go_ret2;exact HE.out
   ·rw[aM (show ¬((0<=(k:Int)/\(k:Int)<32)/\dO X (k:Int)) from λh=>hf h.2)]
    have RO:Hid (ay [] W w2/\∀j:Nat,j<k+1->¬dO X (j:Int)):=⟨fF.out,λj hj=>by
     rcases Nat.lt_succ_iff_lt_or_eq.1 hj with h|h
     ·exact HP.out.2 j h
     ·rw[h];exact hf⟩
    clear hf;go_wp2_with fail;go_roundg gg;case measure=>omega
    case rel=>exact⟨k+1,by omega,by go_num,RO.out⟩
end Go.Proofs.YtepbpdipenedhaaGreatDoor
namespace Go.Proofs.YtepbpdipenedhaaGreatDoor
open Go.Proofs.Tryz
open Go.RowKit
open Go.RowKit
variable{w w' z:World}{G J V b gp:Nat}{B X:List Int}{ps qs:List (Int×Int)}{i r:Int}{n:bN}{e:Ending}
end Go.Proofs.YtepbpdipenedhaaGreatDoor
