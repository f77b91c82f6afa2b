/- Lemmas. -/
import Derived.Test.YtimcfdnbpkiniaaGreatDoorM13
set_option maxHeartbeats 4000000
set_option maxRecDepth 100000
namespace Go.Proofs.YtimcfdnbpkiniaaGreatDoor
open Go.Proofs.Tryz
open Go.RowKit
section
variable{w w':World}{B X:List Int}{i r:Int}{e:Ending}{n:bT}{U b gp:Nat}{ps qs:List (Int×Int)}
def Vi (X:List Int) (i:Int) (n:bT) (own:List Nat) (r:Int):Prop:=
 (r=1/\¬(0<=i/\i<32)/\n=ck/\own=[])\/(r=2/\(0<=i/\i<32)/\dS X i/\n=ck/\own=[])\/
  (r=10/\(0<=i/\i<32)/\¬dS X i/\(∀n' h,¬eH X i n' h)/\n=ck/\own=[])\/(r=0/\eH X i n own)
def Fm (w:World) (X:List Int) (i:Int) (e:Ending) (w':World):Prop:=
 ∃n v g own h z r,e= .returned (.tuple #[aM n v,h,(r:Int)])/\n.B.length=13/\bD w' v g n.E/\w.heap.size<=g/\ma w' h z own/\w.heap.size<=z/\ay [] w w'/\Vi X i n own r
theorem abU{J:World}(G:ay [] (w.alloc (.cells (aM ck (.slice none 0 0)) 75)) J)(h:Vi X i ck [] r):
  ∃w',(storeVar 75 w.heap.size (.agg (aM ck (.slice none 0 0)))).run prog J= .ok () w'/\(loadVar 75 w.heap.size).run prog w'= .ok (.agg (aM ck (.slice none 0 0))) w'/\Fm w X i (.returned (.tuple #[aM ck (.slice none 0 0),(),r])) w':=by
 have z:=bh.new w (aM ck (.slice none 0 0)) 75;obtain⟨w',q1,q2,q3⟩:=bG (P:= prog) (ty:= 75) (cs:=mZ ck (.slice none 0 0)) iX (z.keep G (by simp)) rfl (kY rfl);exact⟨w',q1,cg q2 rfl,ck,_,w.heap.size,[],_,w.heap.size,r,rfl,rfl,bD.nil _ _,aH _,ma.nil _ _,aH _,(((ay.refl [] w).alloc _).trans' G).trans q3 (by intro x U;rw[au] at U;omega),h⟩
def Fp (w:World) (X:List Int) (i f:Int) (e:Ending) (w':World):Prop:=
 ∃n v g own h z ok,e= .returned (.tuple #[aM n v,h,.bool ok])/\n.B.length=13/\bD w' v g n.E/\w.heap.size<=g/\ma w' h z own/\w.heap.size<=z/\ay [] w w'/\
  (ok=true->eH X i n own)/\(ok=false->n=ck/\own=[]/\∀n' G,eH X i n' G->n'.F≠f)
theorem Lx (V:In64 X)(h:mK w X i e w'):Fp w X i 1 e w':=by
 obtain⟨n,v,g,own,va,ga,ok,h1,h2,h3,h4,h5,h6,h7,h8,h9⟩:=h;refine⟨n,v,g,own,va,ga,ok,h1,h2,h3,h4,h5,h6,h9,λz=> ?_,λz=> ?_⟩
 ·obtain⟨U,G,J,a4⟩:=h7 z
  rw[J,a4];exact Vd V U G
 ·obtain⟨U,G,J⟩:=h8 z
  exact⟨G,J,λn' cX W hf=>U ⟨W.rng,(Lq W hf).1⟩⟩
theorem Lz (h:sy w X i e w'):Fp w X i 2 e w':=by
 obtain⟨n,v,g,own,W,ga,ok,h1,U,h3,h4,h5,h6,h9,h7,V⟩:=h;refine⟨n,v,g,own,W,ga,ok,h1,U,h3,h4,h5,h6,h9,λz=> ?_,λz=> ?_⟩
 ·obtain⟨J,-,G,-,-⟩:=h7 z
  exact Ve U G J
 ·obtain⟨a2,G,J⟩:=V z
  exact⟨a2,G,λn' cX hs hf=>J n' cX (Lr hs hf)⟩
theorem y9{h:World}{v va:Value}{g ga:Nat}{own:List Nat}(W:ay [] w h)(hB:n.B.length=13)(U:bD h v g n.E)(hO:ma h va ga own)(xh:w.heap.size<=ga):
  ∃z,(storeVar 75 h.heap.size (.agg (aM n v))).run prog (h.alloc (.cells (aM ck (.slice none 0 0)) 75))= .ok () z/\(loadVar 75 h.heap.size).run prog z= .ok (.agg (aM n v)) z/\
   bD z v g n.E/\(∃G,ma z va G own/\w.heap.size<=G)/\ay [] w z/\bh z h.heap.size (aM n v) 75 :=by
 have hb:=bh.new h (aM ck (.slice none 0 0)) 75;obtain⟨z,q1,q2,q3⟩:=C3 (n:=n) (v:=v) hb rfl hB (yY U);have V:ay [h.heap.size] h z:=((ay.refl [h.heap.size] h).alloc _).trans' q3;refine⟨z,q1,cg q2 hB,U.keep V (λh0=> ?_),?_,(W.alloc _).trans q3 (by intro x J;rw[au] at J;have :=W.size;omega),q2⟩
 ·exact U.apart (l:=[h.heap.size]) (λx J=>by rw[au] at J;omega) h0
 ·exact hO.away xh V λx J=>by rw[au] at J;omega
theorem Vj (r:List Int)(w:World):(Instr.field 75 (.agg (aM (iR r) (.slice none 0 0))) 0).run prog w= .ok (.int .i64 (iR r).F) w:=by kernel_rfl
theorem get_at(h:eK w b gp B ps)(aK:In64 (az B ps))(i:Int):
  Calls prog 30 #[b,i] w (Fm w (az B ps) i):=by
 have cM:ay [] w (w.alloc (.cells (aM ck (.slice none 0 0)) 75)):=(ay.refl _ _).alloc _;obtain⟨HI,HT,vT,uQ⟩:=hh4 (AB i) (kz i) h aK;have rU:Hid (∀(wz:World) (r:Int),ay [] (w.alloc (.cells (aM ck (.slice none 0 0)) 75)) wz->Vi (az B ps) i ck [] r->_):=λwz r hk hr=>abU (w:=w) hk hr
 have zX:=ar (Fl (h.keep cM (by simp) (by simp)) i);have rH:=dA;have CX:=ar (bh.new w (aM ck (.slice none 0 0)) 75);obtain⟨W,ai⟩:∃W,w.alloc (.cells (aM ck (.slice none 0 0)) 75)=W:=⟨_,rfl⟩;rw[ai] at rU zX CX cM;obtain⟨ry,fJ⟩:=hh2 ai cM;clear h aK ai cM;generalize aV:az B ps=X at *;have SU:=ar aV;clear aV;generalize aj:aM ck (.slice none 0 0)=Z0 at *;have jy:=ar aj;clear aj;by_cases hi:0<=i/\i<32
 ·rw[bu hi] at HI
  by_cases hf:dS X i
  ·obtain⟨w1,bf⟩:∃w1,w1=W:=⟨_,rfl⟩
   rw[bu (show(0<=i/\i<32)/\dS X i from ⟨hi,hf⟩)] at zX;have G:Hid (∀wz,ay [] W wz->_):=λwz hk=>rU.out wz 2 hk (.inr (.inl ⟨rfl,hi,hf,rfl,rfl⟩))
   clear hi hf rU CX HT bf;go_in;go_wp2_with fail;rw[ry.out];refine C' (HI.out _) ?_;go_wp2_with fail;refine Rr zX.out λw2 U=> ?_;obtain⟨w3,q1,q2,q3⟩:=G.out w2 U;obtain⟨HS,HL,HP⟩:=hh3 q1 q2 q3;clear q1 q2 q3 U G zX;go_wp2_with(with_reducible refine gS 75 HS.out ?_);exact aI (cJ results30 rfl HL.out rfl rfl) rfl HP.out
  ·rw[aQ (show ¬((0<=i/\i<32)/\dS X i) from λh=>hf h.2)] at zX
   have aN:gF i=((824+8*i.toNat:Nat):Int):=by rw[gF,aA];omega
   rw[aN] at HT;have nt:Hid (∀z,ay [] W z->Calls prog 62 #[b,((824+8*i.toNat:Nat):Int)] z λe w'=>e=(aY (fT X i)).toArray/\ay [] z w'):=λz hk=>by
    have :=pH (vT.out.keep (fJ.out.trans' hk) (by simp) (by simp)) (824+8*i.toNat) (by omega);rw[SU.out] at this;exact this
   have xG:(fT X i).length=8:=iF _ _;have xu:∀k,0<=(fT X i).getD k 0/\(fT X i).getD k 0<18446744073709551616:=C5.row uQ.out _;have ae:=ar (λz=>CR (fT X i) xG (xu 0) (xu 1) z);have hF:(iR (fT X i)).F=(fT X i).getD 0 0%256:=rfl;have bl:=Vj (fT X i);have af:Hid (∀n own,eH X i n own->(iR (fT X i)).F=n.F):=λn own h=>h.format
   have ag:=ar (λz=>El (iR (fT X i)).F z);have HO:Hid (∀z,ay [] W z->Calls prog 110 #[tz b i] z (Fp z X i 1)):=λz hk=>by
    have :=Q0 (vT.out.keep (fJ.out.trans' hk) (by simp) (by simp)) (by rw[SU.out];exact uQ.out) i;rw[SU.out] at this;exact this.mono λe w'=>Lx uQ.out
   have HN:Hid (∀z,ay [] W z->Calls prog 112 #[tz b i] z (Fp z X i 2)):=λz hk=>by
    have :=Q4 (vT.out.keep (fJ.out.trans' hk) (by simp) (by simp)) (by rw[SU.out];exact uQ.out) i;rw[SU.out] at this;exact this.mono λe w'=>Lz
   have Fq:Hid (Z0.size=18):=by rw[<-jy.out];rfl
   obtain⟨aU,Yj⟩:=hh2 hf hi;clear hF xG xu aN hi hf;generalize bg:((824+8*i.toNat:Nat):Int)=pi at *;clear bg;generalize ba:(aY (fT X i)).toArray=R8 at *;clear ba;generalize bj:aM (iR (fT X i)) (.slice none 0 0)=ZT at *;clear bj;generalize (iR (fT X i)).F=f at *;go_in;go_wp2_with fail;rw[ry.out];refine C' (HI.out _) ?_;go_wp2_with fail;refine Rr zX.out λw2 U=> ?_;have fo:=ar U;clear U;go_wp2_with fail;refine C' (HT.out _) ?_;go_wp2_with fail;refine Rr (nt.out _ fo.out) λw3 aF=> ?_;have oI:=ar (fo.out.trans' aF);clear aF fo;go_wp2_with fail;refine Rr (ae.out _) λw4 aT=> ?_;have qb:=ar (oI.out.trans' aT);clear aT oI;go_wp2_with fail;refine(ag.out _).mono ?_;rintro e w5 ⟨lh,fa,fb,aP,aH,rfl,h1,h2⟩;have qU:=ar (qb.out.trans' lh);have aL:=bh.new w5 #[.nilFunc,.nilFunc] 128;obtain⟨w6,q1,q2,q3⟩:=G5 aL aP aH;have GA:=ar q1;have uB:Hid (ay [] W w6):=(qU.out.alloc _).trans q3 (by intro x hx;rw[au] at hx;have :=qU.out.size;omega);have aJ:Hid (w6.cell? w5.heap.size=some fa):=by show _=_;rw[q2.cell];rfl
   clear lh qb aL q1 q2 q3;by_cases J:f=1;rw[bu (show f=1\/f=2 from .inl J)];obtain⟨rfl,rfl⟩:=h1 J;have aB:=HO
   rotate_left
   by_cases aa:f=2;rw[bu (show f=1\/f=2 from .inr aa)];obtain⟨rfl,rfl⟩:=h2 aa;have aB:=HN;have J:=aa
   rotate_left
   ·rw[aQ (show ¬(f=1\/f=2) by omega)]
    have G:Hid (Vi X i ck [] 10):= .inr (.inr (.inl ⟨rfl,Yj.out,aU.out,λn' cX hs=>by
     have :=af.out n' cX hs;have :=hs.right.1;omega,rfl,rfl⟩))
    obtain⟨w7,p1,p2,V⟩:=rU.out w6 10 uB.out G.out;obtain⟨aZ,bk,bc⟩:=hh3 p1 p2 V;clear p1 p2 V rU HO HN ae nt ag HI HT zX G h1 h2 J aa af;go_wp2_with(with_reducible first|refine gS 128 GA.out ?_|refine gS 75 aZ.out ?_);exact aI (cJ results30 rfl bk.out rfl rfl) rfl bc.out
   all_goals
    have c6:=aJ.out;clear h1 h2 aJ aP aH;go_wp2_with(with_reducible refine gS 128 GA.out ?_);refine(aB.out w6 uB.out).mono ?_;rintro e w7 ⟨n,v,g,own,va,ga,ok,rfl,hB,hE,hg,hO,xh,xw,SM,Mj⟩;have J0:=ar (uB.out.trans' xw);obtain⟨w8,q1,q2,aD,⟨bb,aO,aR⟩,uA,aX⟩:=y9 J0.out hB hE hO (by have :=uB.out.size;omega);have Sw:W.heap.size<=g:=by have :=uB.out.size;omega
    rw[jy.out] at q1;obtain⟨aG,IY,Yl,MP,WU,aC,Gq⟩:=hh7 q1 q2 uA SM Mj aD aO;obtain⟨X8,aS,aW⟩:=hh3 hB Sw aR;clear xw hE hO hB hg xh q1 q2 aD aO uA aX Sw aR SM Mj c6 GA HO HN aB ae nt ag HI HT zX;generalize WV:aM n v=ZN at *;have WZ:=ar WV;clear WV;cases ok with
    |false=>
     obtain⟨e1,e2,e3⟩:=WU.out rfl;obtain⟨w9,p1,p2,V⟩:=rU.out w8 10 Yl.out (.inr (.inr (.inl ⟨rfl,Yj.out,aU.out,λn' cX hs=>e3 n' cX hs ((af.out n' cX hs).symm.trans J),rfl,rfl⟩)));obtain⟨ac,ax,ak⟩:=hh3 p1 p2 V;clear e1 e2 e3 p1 p2 V rU MP WU;go_wp2_with(with_reducible first|refine gS 75 aG.out ?_|refine gS 75 ac.out ?_);exact aI (cJ results30 rfl ax.out rfl rfl) rfl ak.out
    |true=>
     obtain⟨w9,p1,p2,V⟩:=C3 (n:=n) (v:=v) (CX.out.keep Yl.out (by simp)) Fq.out X8.out (yY aC.out);have ah:=cg p2 X8.out;have av:Fm w X i (.returned (.tuple #[aM n v,va,(0:Int)])) w9:=by
      have aj:=fJ.out.size;have bn:=CX.out.lt;refine⟨n,v,g,own,va,bb,0,rfl,X8.out,aC.out.keep V (λh0=> ?_),?_,Gq.out.keep V ?_,?_,(fJ.out.trans' Yl.out).trans V (by intro x hx;rw[au] at hx;omega),.inr (.inr (.inr ⟨rfl,MP.out rfl⟩))⟩
      ·have :=aS.out
       rw[au];omega
      ·have :=aS.out;omega
      ·have :=aW.out
       rw[au];omega
      ·have :=aW.out;omega
     rw[WZ.out] at p1 ah av;obtain⟨ac,ax,ak⟩:=hh3 p1 ah av;clear p1 p2 V ah av rU MP WU;go_wp2_with(with_reducible first|refine gS 75 aG.out ?_|refine gL 75 IY.out ?_|refine gS 75 ac.out ?_);exact aI (cJ results30 rfl ax.out rfl rfl) rfl ak.out
 ·rw[aQ hi] at HI
  obtain⟨w1,q1,q2,q3⟩:=rU.out W 1 (ay.refl _ _) (.inl ⟨rfl,hi,rfl,rfl⟩);obtain⟨HS,HL,HP⟩:=hh3 q1 q2 q3;clear q1 q2 q3 hi rU zX CX HT;go_in;go_wp2_with fail;rw[ry.out];refine C' (HI.out _) ?_;go_wp2_with(with_reducible refine gS 75 HS.out ?_);exact aI (cJ results30 rfl HL.out rfl rfl) rfl HP.out
def G9 (w:World) (b z:Nat) (B:List Int) (ps:List (Int×Int)) (i:Int) (n:bT) (e:Ending) (w':World):Prop:=
 ∃r qs h,e=(r:Int)/\(h=z\/(w.heap.size<=h/\h<w'.heap.size))/\eK w' b h B (ps++qs)/\ay [b,z] w w'/\qs.length<=600/\
  ((r=7/\(aZ (az B ps)).length<dx n/\qs=[])\/(r=0/\dx n<=(aZ (az B ps)).length/\qs=I1 (az B ps) i.toNat n ((aZ (az B ps)).take (dx n))))
theorem YP (hi:0<=i/\i<32)(hR:ct n)(hF:n.F=1)(h:wG w b U B ps i n e w'):G9 w b U B ps i n e w':=by
 have h1:dx n=eY n:=aA;have h2:∀X own,I1 X i.toNat n own=pN X i.toNat n own:=λX own=>aA
 obtain⟨r,qs,gI,a1,a2,V,a4,a5,W⟩:=h;refine⟨r,qs,gI,a1,a2,V,a4,by omega,?_⟩;rw[h1,h2];rcases W with ⟨-,c,-⟩|⟨z,-,G,J⟩|⟨z,-,G,J⟩
 ·exact absurd ⟨hi,hF,hR⟩ c
 ·exact .inl ⟨z,G,J⟩
 ·exact .inr ⟨z,G,J⟩
theorem YQ (hi:0<=i/\i<32)(hR:ct n)(hF:n.F=2)(h:tj w b U B ps i n e w'):G9 w b U B ps i n e w':=by
 have h1:dx n=eW n:=aB hF;have h2:∀X own,I1 X i.toNat n own=nb X i.toNat n own:=λX own=>aB hF
 obtain⟨r,qs,gI,a1,a2,V,a4,a5,W⟩:=h;refine⟨r,qs,gI,a1,a2,V,a4,by omega,?_⟩;rw[h1,h2];rcases W with ⟨-,c,-⟩|⟨z,-,G,J⟩|⟨z,-,G,J⟩
 ·exact absurd ⟨hi,hF,hR⟩ c
 ·exact .inl ⟨z,G,J⟩
 ·exact .inr ⟨z,G,J⟩
def YR (X:List Int) (i:Int) (own:List Nat):Prop:=(dS X i/\own=[])\/∃m,eH X i m own
def nU (X:List Int) (i:Int) (n:bT) (r:Int) (qs:List (Int×Int)):Prop:=
 (r=1/\¬((0<=i/\i<32)/\ct n)/\qs=[])\/
 (r=10/\((0<=i/\i<32)/\ct n)/\¬dS X i/\(∀n' h,¬eH X i n' h)/\qs=[])\/
 (∃own,((0<=i/\i<32)/\ct n)/\YR X i own/\((r=7/\(aZ (az X (cm X own))).length<dx n/\qs=[])\/(r=0/\dx n<=(aZ (az X (cm X own))).length/\qs=mj X i.toNat n own)))
def mL (w:World) (b z:Nat) (B:List Int) (ps:List (Int×Int)) (i:Int) (n:bT) (e:Ending) (w':World):Prop:=
 ∃r qs h,e=(r:Int)/\(h=z\/(w.heap.size<=h/\h<w'.heap.size))/\eK w' b h B (ps++qs)/\ay [b,z] w w'/\qs.length<=700/\nU (az B ps) i n r qs
theorem mL.nothing{z:Nat}(h:eK w b z B ps)(G:ay [] w w')(J:nU (az B ps) i n r []):mL w b z B ps i n (.returned r) w':=
 ⟨r,[],z,rfl,.inl rfl,by rw[br];exact h.keep G (by simp) (by simp),G.mono (by simp),by simp,J⟩
theorem sB{G:Nat}(h:eK w b G B ps)(bk:In64 (az B ps))(hT:∀z,ay [b,G] w z->kN z)(DV:G<w.heap.size)(aW:ps.length<=700000)(i:Int)(n:bT)(v:Value)(g:Nat)(hB:n.B.length=13)(hE:bD w v g n.E)
  (hN:∀k,k<n.E.length->(eX n.E k).size<=9223372036854775807) (ax:n.E.length≠0->g≠b/\g≠G):
  Calls prog 48 #[b,i,aM n v] w (mL w b G B ps i n):=by
 have cM:ay [] w (w.alloc (.cells (aM n v) 75)):=(ay.refl _ _).alloc _;have rT:=bh.new w (aM n v) 75;obtain⟨HI,BA⟩:=hh2 (AB i) (λz (V:ay [] w z)=>oz n v g hB z (hE.keep V (by simp)) hN);have jY:Hid (∀(w':World) (r:Int),ay [] w w'->nU (az B ps) i n r []->mL w b G B ps i n (.returned (r:Int)) w'):=λw' r V hr=>mL.nothing h V hr
 have Ed:=ar (λz (V:ay [] (w.alloc (.cells (aM n v) 75)) z)=>cg (rT.keep V (by simp)) hB);obtain⟨J,aP⟩:∃J,w.alloc (.cells (aM n v) 75)=J:=⟨_,rfl⟩;rw[aP] at cM rT Ed;obtain⟨ry,fJ,Uq,vT,uQ,HE,HB⟩:=hh7 aP cM rT h bk hE hB;obtain⟨aN,NW,UN,zN,aD⟩:=hh5 hT hN ax aW DV;clear h bk aP cM rT hE hN hT ax aW DV;by_cases hi:0<=i/\i<32
 ·rw[bu hi] at HI
  by_cases hR:ct n
  ·rw[bu hR] at BA
   obtain⟨X,hX⟩:∃X,az B ps=X:=⟨_,rfl⟩;have SU:=ar hX;have bS:Hid (X.length=3128):=by show _=_;rw[<-hX];exact vT.out.raw.lx
   have bN:b<w.heap.size:=vT.out.raw.lt;have bW:=ar bN;have U9:Hid (In64 X):=by show In64 X;rw[<-hX];exact uQ.out
   obtain⟨F9,av⟩:=hh2 (Ed.out J (ay.refl _ _)) (BA.out J fJ.out);have EI:Hid (∀z,ay [] J z->Calls prog 30 #[b,i] z (Fm z X i)):=λz V=>by
    have :=get_at (vT.out.keep (fJ.out.trans' V) (by simp) (by simp)) uQ.out i;rwa[hX] at this
   have bL:Hid (∀z,ay [] J z->eK z b G B ps):=λz V=>vT.out.keep (fJ.out.trans' V) (by simp) (by simp)
   have Mi:Hid (∀z,ay [] J z->Calls prog 102 #[b] z λe w'=>e=(ps.length:Int)/\z=w'):=λz V=>
    TP (vT.out.keep (fJ.out.trans' V) (by simp) (by simp))
   have aF:Hid (∀z va ga own,ay [] J z->Reads z va ga (dL own)->J.heap.size<=ga->own.length<=32->Calls prog 103 #[b,va] z (jQ z b G B (ps++cm X own))):=λz va ga own V hr hg hl=>by
    have hz:=fJ.out.size;have aa:=aD.out;have :=Lv (vT.out.keep (fJ.out.trans' V) (by simp) (by simp)) uQ.out (by have :=V.size;omega) (by have :=zN.out;omega) hr (by omega) (λ_=>by omega);rwa[hX] at this
   have IV:Hid (∀z kX own,ay [b,G] J z->eK z b kX B (ps++cm X own)->kX<z.heap.size->(kX=G\/J.heap.size<=kX)->own.length<=32->∀f:Nat,((n.F=1->f= 111)/\(n.F=2->f= 113))->
     Calls prog f #[tz b i,aM n v] z (G9 z b kX B (ps++cm X own) i n)):=λz kX own V hs aa ax af f hf=>by
    have aO:ay [b,G] w z:=(fJ.out.mono (by simp)).trans' V;have LA:In64 (az B (ps++cm X own)):=by rw[bz,hX];exact(iB own X U9.out bS.out).1
    have aB:(ps++cm X own).length<=800000:=by
     have W:=qA own X;have U:=zN.out;rw[aC];omega
    have bY:=fJ.out.size;have aX:bD z v g n.E:=HE.out.keep aO (λh0=>by
     have :=UN.out h0;simp only[aL,aK,bC,not_or];exact this)
    have bF:n.E.length≠0->g≠b/\g≠kX:=λh0=>by
     have W:=UN.out h0;refine⟨W.1,λU=> ?_⟩;rcases ax with h3|h3
     ·exact W.2 (U.trans h3)
     ·have :=HE.out.apart (l:=[kX]) (λx hx=>by rw[au] at hx;omega) h0
      rw[au] at this;exact this U
    rcases hR.1 with hF|hF
    ·rw[hf.1 hF]
     exact(Vg hs LA (aN.out z aO) aa aB i n v g HB.out aX NW.out bF).mono λe w'=>YP hi hR hF
    ·rw[hf.2 hF]
     exact(Vh hs LA (aN.out z aO) aa aB i n v g HB.out aX NW.out bF).mono λe w'=>YQ hi hR hF
   have ag:Hid (∀z,ay [b,G] J z->z.cell? w.heap.size=some (.int .i64 n.F)/\(loadVar 75 w.heap.size).run prog z= .ok (.agg (aM n v)) z):=λz V=>by
    have hb:=Uq.out.keep V (by have :=aD.out;simp;omega);refine⟨?_,cg hb HB.out⟩;rw[hb.cell];exact(gG v HB.out).f0
   have aJ:=ar (λz=>El n.F z);have aH:Hid (n.F=1\/n.F=2):=hR.1;have aj:Hid ((0<=i/\i<32)/\ct n):=⟨hi,hR⟩;have mn:Hid (∀z (lS:Nat) (r:Int) (qs:List (Int×Int)),(lS=G\/(w.heap.size<=lS/\lS<z.heap.size))->eK z b lS B (ps++qs)->ay [b,G] J z->qs.length<=700->nU X i n r qs->mL w b G B ps i n (.returned (r:Int)) z):=λz lS r qs W U h3 h4 h5=>
    ⟨r,qs,lS,rfl,W,U,(fJ.out.mono (by simp)).trans' h3,h4,by rw[hX];exact h5⟩
   have rH:=dA;clear hi hR Ed BA hX jY HE NW UN aN vT uQ;have jy:=ar fJ.out.size;have bQ:n.F=n.F:=rfl;clear bQ;generalize bI:aM n v=Z at *;clear bI;generalize hf:n.F=f at *;clear hf;go_in;go_wp2_with fail;rw[ry.out];refine C' (HI.out _) ?_;go_wp2_with((with_reducible show wpList _ _ _ (⟨_,.load 75 (.tmp 5),_,_,_,_⟩::_) _ _);refine eA (by first|rfl|simp[Region.wanted,yielded]) 75 (.tmp 5) rfl _ rfl _ F9.out ?_);refine Rr av.out λw2 ae=> ?_;have fo:=ar ae;clear ae;go_wp2_with fail;refine(EI.out w2 fo.out).mono ?_;rintro e w3 ⟨m,vm,gm,own,va,ga,r,rfl,bt,bb,bR,hO,xh,aZ,bp⟩;have nD:ay [] J w3:=fo.out.trans' aZ;obtain⟨w4,q1,q2,WY,⟨bO,SX,bw⟩,bE,bM⟩:=y9 nD bt bb hO (by have :=fo.out.size;omega);obtain⟨tT,bo,bU,qb,ak⟩:=hh5 q1 SX bw bE bp;clear bt bb bR hO xh aZ bp q1 q2 WY SX bw bE bM nD fo av F9 EI;generalize aM m vm=ZM,aM ck (.slice none 0 0)=ZZ at *;by_cases ai:r=10
   ·subst ai
    have bg:nU X i n 10 []:=by
     rcases ak.out with ⟨h,-⟩|⟨h,-⟩|⟨-,W,U,h3,-⟩|⟨h,-⟩
     ·omega
     ·omega
     ·exact .inr (.inl ⟨rfl,aj.out,U,h3,rfl⟩)
     ·omega
    have HP:Hid (mL w b G B ps i n (.returned (10:Int)) w4):=mn.out w4 G 10 [] (.inl rfl) (by rw[br];exact bL.out w4 qb.out) (qb.out.mono (by simp)) (by simp) bg;clear bg ak mn ag aJ IV aF Mi;go_wp2_with(with_reducible refine gS 75 tT.out ?_);go_ret;exact HP.out
   ·have af:own.length<=32/\YR X i own:=by
     rcases ak.out with ⟨W,U,-⟩|⟨-,-,U,-,h3⟩|⟨h,-⟩|⟨-,h⟩
     ·exact absurd aj.out.1 U
     ·subst h3;exact⟨by simp,.inl ⟨U,rfl⟩⟩
     ·exact absurd h ai
     ·exact⟨by have W:=h.ownLen;have U:=vA h.right;omega,.inr ⟨m,h⟩⟩
    have bK:(r==10)=false:=by simpa using ai
    obtain⟨ah,bG⟩:=hh2 af (aF.out w4 va bO own qb.out bo.out.reads bU.out af.1);clear af ak aF bo ai;go_wp2_with(with_reducible refine gS 75 tT.out ?_);refine C' (Mi.out w4 qb.out) ?_;go_wp2_with fail;refine Rr bG.out ?_;rintro w5 ⟨kX,bP,bc,lh⟩;have qU:Hid (ay [b,G] J w5):=(qb.out.mono (by simp)).trans' lh;have rA:=ar bc;have ac:Hid (kX<w5.heap.size/\(kX=G\/J.heap.size<=kX)):=by
     have z4:=qb.out.size;have z5:=lh.size;have :=aD.out;have :=jy.out;exact⟨by omega,by omega⟩
    have bB:=ar (ag.out w5 qU.out);have c5:=bB.out.1;clear bP bc lh bG Mi;go_wp2_with fail;refine(aJ.out w5).mono ?_;rintro e w6 ⟨jv,fa,fb,bn,ba,rfl,W,U⟩;have bH:∃q:Nat,fb= .func (.func q) #[] #[]/\((f=1->q= 111)/\(f=2->q= 113)):=by
     rcases aH.out with hF|hF
     ·exact⟨_,(W hF).2,λ_=>rfl,λh=>by omega⟩
     ·exact⟨_,(U hF).2,λh=>by omega,λ_=>rfl⟩
    rw[bu aH.out];obtain⟨q,rfl,hq⟩:=bH;have bJ:q= 111\/q= 113 :=aH.out.imp (λh=>hq.1 h) λh=>hq.2 h
    have bl:=bh.new w6 #[.nilFunc,.nilFunc] 128;obtain⟨w7,q1,q2,q3⟩:=G5 bl bn ba;have bv:ay [] w6 w7:=((ay.refl [] w6).alloc _).trans q3 (by intro x hx;rw[au] at hx;omega);have Vk:Hid (ay [] w5 w7):=jv.trans' bv;have aI:=ar q1;have J0:Hid (ay [b,G] J w7):=qU.out.trans' (Vk.out.mono (by simp));have c7:w7.cell? ⟨w6.heap.size,1,none⟩=some (.func (.func q) #[] #[]):=by rw[q2.cell];rfl
    have aT:=ar (ag.out w7 J0.out).2;have aS:Hid (eK w7 b kX B (ps++cm X own)):=rA.out.keep Vk.out (by simp) (by simp);have aG:=ar (IV.out w7 kX own J0.out aS.out (by have :=ac.out;have :=Vk.out.size;omega) ac.out.2 ah.out.1 q hq);clear hq c5 jv bn ba W U bl q1 q2 q3 bv IV ag aJ bB tT bK;rcases bJ with rfl|rfl
    all_goals (
     go_wp2_with(with_reducible first|refine gS 128 aI.out ?_|refine gL 75 aT.out ?_);refine aG.out.mono ?_;rintro e w8 ⟨r2,bV,lS,rfl,aU,Mg,uA,bj,aY⟩;have hY:az B (ps++cm X own)=az X (cm X own):=by rw[bz,SU.out]
     rw[hY] at aY;have aa:=qA own X;have bA:=ah.out.1;have aR:lS=G\/(w.heap.size<=lS/\lS<w8.heap.size):=by
      have W:=ac.out;have U:=Vk.out.size;have h3:=uA.size;have h4:=jy.out;have h5:=J0.out.size;omega
     have aA:ay [b,G] J w8:=J0.out.trans uA (by
      intro x hx;have W:=ac.out.2;simp only[aL,aK,bC] at hx ⊢;omega)
     rcases aY with ⟨rfl,po,rfl⟩|⟨rfl,po,rfl⟩
     ·have bf:((ps++cm X own)++[]).take (DK (ps.length:Int) ((ps++cm X own)++[]).length)=ps:=by
       have bX:ps.length<=((ps++cm X own)++[]).length:=by simp
       have :DK (ps.length:Int) ((ps++cm X own)++[]).length=ps.length:=by have :=Jr (ps.length:Int) ((ps++cm X own)++[]).length;omega
       rw[this,br,List.take_left]
      have D8:Hid (Calls prog 104 #[b,(ps.length:Int)] w8 (MF w8 b lS B ps)):=by
       have :=TN Mg (ps.length:Int);rwa[bf] at this
      have HP:Hid (∀w9,eK w9 b lS B ps->ay [b] w8 w9->mL w b G B ps i n (.returned (7:Int)) w9):=λw9 W U=>
       mn.out w9 lS 7 [] (by have :=U.size;omega) (by rw[br];exact W) (aA.trans U (by intro x hx;rw[au] at hx;left;simp[hx])) (by simp) (.inr (.inr ⟨own,aj.out,ah.out.2,.inl ⟨rfl,po,rfl⟩⟩))
      clear hY aa bA aR aA po bf Mg uA aU bj aG mn aT aS aI c7 J0 Vk rA qU ac;go_wp2_with fail;refine Rr D8.out ?_;rintro w9 ⟨bq,PF⟩;have BI:=ar (HP.out w9 bq PF);clear bq PF HP D8;go_wp2_with fail;go_ret;exact BI.out
     ·have HP:Hid (mL w b G B ps i n (.returned (0:Int)) w8):=
       mn.out w8 lS 0 (mj X i.toNat n own) aR (by unfold mj;rw[<-aV];exact Mg) aA (by unfold mj;rw[aC];omega) (.inr (.inr ⟨own,aj.out,ah.out.2,.inr ⟨rfl,po,rfl⟩⟩))
      clear hY aa bA aR aA po Mg uA aU bj aG mn aT aS aI c7 J0 Vk rA qU ac;go_wp2_with fail;go_ret;exact HP.out)
  ·rw[aQ hR] at BA
   have HX:Hid (nU (az B ps) i n 1 []):= .inl ⟨rfl,λh=>hR h.2,rfl⟩;obtain⟨F9,av⟩:=hh2 (Ed.out J (ay.refl _ _)) (BA.out J fJ.out);clear hi hR Ed BA HB;generalize aM n v=Z at *;go_in;go_wp2_with fail;rw[ry.out];refine C' (HI.out _) ?_;go_wp2_with((with_reducible show wpList _ _ _ (⟨_,.load 75 (.tmp 5),_,_,_,_⟩::_) _ _);refine eA (by first|rfl|simp[Region.wanted,yielded]) 75 (.tmp 5) rfl _ rfl _ F9.out ?_);refine Rr av.out λw2 ae=> ?_;have HP:=ar (jY.out w2 1 (fJ.out.trans' ae) HX.out);clear ae;go_wp2_with fail;go_ret;exact HP.out
 ·rw[aQ hi] at HI
  have HP:=ar (jY.out J 1 fJ.out (.inl ⟨rfl,λh=>hi h.1,rfl⟩));clear hi jY BA Ed HB;generalize aM n v=Z at *;go_in;go_wp2_with fail;rw[ry.out];refine C' (HI.out _) ?_;go_wp2_with fail;go_ret;exact HP.out
def ez (B:List Int) (k:Nat):List Nat:=((B.take k).filter λx=>x != 0).map Int.toNat
def dn (n:bT):List Nat:=ez n.B 13
theorem LC (B:List Int)(k:Nat)(z:k<B.length):ez B (k+1)=ez B k++(if B.getD k 0=0 then [] else [(B.getD k 0).toNat]):=by
 unfold ez;rw[bP z,eJ,ey]
 congr 1
 have :B.getD k 0=B[k]:=by simp[z]
 rw[this];by_cases h:B[k]=0
 ·simp[h]
 ·simp[h]
theorem AE (B:List Int)(k:Nat):(ez B k).length<=k:=by
 unfold ez;rw[bY];exact cG (fR _ _) (by rw[aJ];omega)
theorem SZ{ws:World}(U:ay [] ws w){va:Value}{own:List Nat}(hO:w.ownsRow ws.heap.size 3 1 va own.length (dL own))(n:bT)(v:Value)(hB:n.B.length=13)(h0:∀k,0<=n.B.getD k 0)(hl:own.length<=1000):
  Calls prog 169 #[va,aM n v] w λe w'=>∃u,e=(u:Value)/\w'.ownsRow ws.heap.size 3 1 u (own++dn n).length (dL (own++dn n))/\ay [] ws w':=by
 obtain⟨i0,hi,af,ah,ag⟩:=df Tryz.info_int;have av:=U.size;have ac:=bh.new w (aM n v) 75;have rZ:Hid ((loadVar 73 ⟨w.heap.size,4,none⟩).run prog (w.alloc (.cells (aM n v) 75))= .ok (.agg (zs n.B).toArray) (w.alloc (.cells (aM n v) 75))):=fA ac hB (gG v hB).f4;have HZ:Hid (∀k,k<13->(zs n.B).toArray[k]? =some (.int .i64 (n.B.getD k 0))):=λk U=>by rw[aF,gK (by omega)]
 have W:Hid ((w.alloc (.cells (aM n v) 75)).ownsRow ws.heap.size 3 1 va (own++ez n.B 0).length (dL (own++ez n.B 0))/\ay [] ws (w.alloc (.cells (aM n v) 75))):=by
  have :own++ez n.B 0=own:=by simp[ez]
  rw[this];exact⟨hO.alloc _,U.alloc _⟩
 obtain⟨HB,H0⟩:=hh2 hB h0;have Vl:Hid (ez n.B 13=dn n):=rfl;clear hO ac U hB h0;generalize aM n v=Z,(zs n.B).toArray=ZB at *;go_in;go_wp2_with(with_reducible refine gL 73 rZ.out ?_);go_loopg [0,9] 13 (λgh s0 s9 wx=>∃k:Nat,k+gh=13/\s9= .int .i64 (k:Int)/\Hid (wx.ownsRow ws.heap.size 3 1 s0 (own++ez n.B k).length (dL (own++ez n.B k))/\ay [] ws wx))
 case atStart=>exact⟨0,by omega,rfl,W.out⟩
 case round=>
  clear W rZ;obtain⟨k,U,rfl,J⟩:=hrel;cases gk with
  |zero=>
   obtain rfl:k=13:=by omega
   have HE:=ar J.out;rw[Vl.out] at HE;clear U J;go_wp2_with fail;go_ret;exact⟨_,rfl,HE.out⟩
  |succ gg=>
   have mo:k<13:=by omega
   have au:(k:Int)<13:=by omega
   have cM:(0:Int)<=(k:Int):=by omega
   have Iu:=yR mo (HZ.out k mo);have ak:=H0.out k;have HS:=ar (LC n.B k (by rw[HB.out];exact mo));have ae:=AE n.B k;generalize n.B.getD k 0=x at *;by_cases V:x=0
   ·have e0:(x != 0)=false:=by rw[V];rfl
    have HN:Hid (wr.ownsRow ws.heap.size 3 1 u0 (own++ez n.B (k+1)).length (dL (own++ez n.B (k+1)))/\ay [] ws wr):=by
     show _/\_;rw[HS.out,aB V,br];exact J.out
    clear J HS V;go_wp2_with fail;go_roundg gg;case measure=>omega
    case rel=>exact⟨k+1,by omega,by go_num,HN.out⟩
   ·have e0:(x != 0)=true:=bne_iff_ne.2 V
    obtain⟨z,jr⟩:=hh2 J.out.1 J.out.2;have aj:=J.out.2.size;have ax:(own++ez n.B k).length<=2000:=by rw[aC];omega
    have nE:Hid (own++ez n.B (k+1)=(own++ez n.B k)++[x.toNat]):=by
     show _=_;rw[HS.out,aA V,aV]
    have HI:Hid (dL ((own++ez n.B k)++[x.toNat])=dL (own++ez n.B k)++[.int .i64 x]):=by
     show _=_;have ai:((x.toNat:Nat):Int)=x:=by omega
     rw[ub];show _++[Value.int .i64 ((x.toNat:Nat):Int)]=_;rw[ai]
    have EC:Hid (((own++ez n.B k)++[x.toNat]).length=(own++ez n.B k).length+1):=aC;clear J HS ae;generalize own++ez n.B k=L at *;generalize hq:L.length=q at *;go_wp2_with(at_builtin;refine eU _ rfl _ _ 76 rfl ws.heap.size 3 i0 (.int .i64 0) 1 8 underlying76 hi af ah ag rfl (by decide) u0 q _ rfl (z.out.alloc _) ⟨wr.heap.size,0,none⟩ 1 1 [.int .i64 x] rfl rfl ?c1 ?c2 (by unfold maxLen;omega) (by omega) (by simp;omega) ?_);case c1=>exact lH _ [_] _ _ rfl
    case c2=>simp[Value.oneCell']
    intro v' w1 h G aa;have HN:Hid (w1.ownsRow ws.heap.size 3 1 v' (own++ez n.B (k+1)).length (dL (own++ez n.B (k+1)))/\ay [] ws w1):=by
     show _/\_;rw[nE.out,EC.out,HI.out];exact⟨h,(jr.out.alloc _).grown G (dQ z.out)⟩
    clear h G aa z jr nE HI EC V hq;go_wp2_with fail;go_roundg gg;case measure=>omega
    case rel=>exact⟨k+1,by omega,by go_num,HN.out⟩
def wK (X:List Int) (i:Nat) (n:bT) (own:List Nat):List (Int×Int):=cm X (own++dn n)++jP (824+8*i) (List.replicate 8 0) 8
def NZ (X:List Int) (i r:Int) (qs:List (Int×Int)):Prop:=
 (r=1/\¬(0<=i/\i<32)/\qs=[])\/(r=2/\(0<=i/\i<32)/\dS X i/\qs=[])\/(r=10/\(0<=i/\i<32)/\¬dS X i/\(∀n' h,¬eH X i n' h)/\qs=[])\/
  (r=0/\∃n own,eH X i n own/\qs=wK X i.toNat n own)
def Ha (w:World) (b z:Nat) (B:List Int) (ps:List (Int×Int)) (i:Int) (e:Ending) (w':World):Prop:=
 ∃r qs h,e=(r:Int)/\(h=z\/(w.heap.size<=h/\h<w'.heap.size))/\eK w' b h B (ps++qs)/\ay [b,z] w w'/\qs.length<=700/\NZ (az B ps) i r qs
def Hb (w:World) (X:List Int) (i:Int) (e:Ending) (w':World):Prop:=
 ∃v g l,e=(v:Value)/\Reads w' v g (dL l)/\ay [] w w'/\((∃n own,eH X i n own/\l=own++dn n)\/((∀n own,¬eH X i n own)/\l=[]))/\(l≠[]->w.heap.size<=g)
theorem abY:(aY (List.replicate 8 0)).toArray= #[.int .u64 0,.int .u64 0,.int .u64 0,.int .u64 0,.int .u64 0,.int .u64 0,.int .u64 0,.int .u64 0]:=rfl
theorem abZ{W:Nat}(h:eK w b W B ps)(ac:In64 (az B ps))(DV:W<w.heap.size)(af:ps.length<=700000)(i:Int):
  Calls prog 193 #[b,i] w (Ha w b W B ps i):=by
 have HX:Hid ((az B ps).length=3128):=h.raw.lx;have hb:=h.raw.lt;obtain⟨vT,uQ,EI,zN,ae⟩:=hh5 h ac (get_at h ac i) af (kz i);have rH:=dA;clear h ac af;go_in;go_wp2_with fail;refine EI.out.mono ?_;rintro e w1 ⟨n,v,g,own,va,ga,r,rfl,hB,hE,hg,hO,xh,ai,hr⟩;obtain⟨w2,q1,q2,Ml,⟨aU,aF,YS⟩,ah,aI⟩:=y9 ai hB hE hO xh;obtain⟨jw,rN,WU,aJ,fo,HR,HB⟩:=hh7 q1 q2 aF YS ah hr hB;clear hB hE hg hO xh ai hr q1 q2 Ml aF YS ah aI EI;have jY:Hid (NZ (az B ps) i r []->Ha w b W B ps i (.returned r) w2):=λh=>
  ⟨r,[],W,rfl,.inl rfl,by rw[br];exact vT.out.keep fo.out (by simp) (by simp),fo.out.mono (by simp),by simp,h⟩
 by_cases LD:r=0
 ·subst LD
  have z:eH (az B ps) i n own:=by
   rcases HR.out with ⟨h,-⟩|⟨h,-⟩|⟨h,-⟩|⟨-,h⟩
   ·omega
   ·omega
   ·omega
   ·exact h
  have aG:own.length<=32:=by have h1:=z.ownLen;have U:=vA z.right;omega
  have aO:(dn n).length<=13:=AE _ _;have hi:=z.rng;have av:gF i=((824+8*i.toNat:Nat):Int):=by rw[gF,aA];omega
  rw[av] at ae;have ax:∀k,0<=n.B.getD k 0:=λk=>(vg z.right HB.out k).1
  have V:w2.ownsRow w.heap.size 3 1 va own.length (dL own):=by
   obtain⟨⟨h0,h5⟩,U⟩:=WU.out;rcases h5 with h5|⟨g',cap,aQ,e1,e2,e3⟩
   ·exact⟨h0,.inl h5⟩
   ·exact⟨h0,.inr ⟨g',cap,aQ,e1,by have :=aJ.out;omega,e3⟩⟩
  obtain⟨HW,aN,HI⟩:=hh3 (SZ fo.out V n v HB.out ax (by omega)) z hi;have G:Hid ((own++dn n).length<=45):=by show _<=_;rw[aC];omega
  clear HR jY z aG aO av ax V hi;generalize WV:aM n v=ZN at *;clear WV;generalize aM ck (.slice none 0 0)=ZZ at *;go_wp2_with(with_reducible first|refine gS 75 jw.out ?_|refine gL 75 rN.out ?_);refine HW.out.mono ?_;rintro e w3 ⟨u,rfl,hu,J⟩;obtain⟨gu,aB,aP⟩:=ma.of_row hu;obtain⟨oI,ag⟩:=hh2 J (Lv (vT.out.keep J (by simp) (by simp)) uQ.out (by have :=J.size;omega) (by have :=zN.out;omega) aB.reads (by have :=G.out;omega) (λ_=>by omega));clear hu J aB aP HW;go_wp2_with fail;refine Rr ag.out ?_;rintro w4 ⟨aa,aT,ak,aD⟩;have aj:=qA (own++dn n) (az B ps);have Gd:=ar (se ak (by have :=zN.out;have :=G.out;rw[aC];omega) (824+8*i.toNat) (by have :=HI.out;omega) (List.replicate 8 0) (by simp));rw[abY] at Gd;have qb:Hid (ay [b,W] w w4):=(oI.out.mono (by simp)).trans' aD;have aR:Hid (aa=W\/(w.heap.size<=aa/\aa<w4.heap.size)):=by
   have :=oI.out.size;show _\/_;omega
  have PE:=ar aj;clear aT ak aD aj ag;generalize ((824+8*i.toNat:Nat):Int)=pi at *;go_wp2_with fail;refine C' (ae.out _) ?_;go_wp2_with fail;refine Rr Gd.out ?_;rintro w5 ⟨aS,aH,au,lh⟩;have HP:Hid (Ha w b W B ps i (.returned (0:Int)) w5):=by
   have h1:=aR.out;have U:=qb.out.size;have h3:=lh.size;refine⟨0,wK (az B ps) i.toNat n own,aS,rfl,by omega,by unfold wK;rw[<-aV];exact au,qb.out.trans lh (by intro x hx;simp only[aL,aK,bC] at hx ⊢;omega),?_,.inr (.inr (.inr ⟨rfl,n,own,aN.out,rfl⟩))⟩;have h4:=PE.out;have h5:=G.out;unfold wK;rw[aC,oX];omega
  clear aH au lh Gd;go_wp2_with fail;go_ret;exact HP.out
 ·have hd:NZ (az B ps) i r []:=by
   rcases HR.out with ⟨h1,U,-⟩|⟨h1,U,h3,-⟩|⟨h1,U,h3,h4,-⟩|⟨h,-⟩
   ·exact .inl ⟨h1,U,rfl⟩
   ·exact .inr (.inl ⟨h1,U,h3,rfl⟩)
   ·exact .inr (.inr (.inl ⟨h1,U,h3,h4,rfl⟩))
   ·exact absurd h LD
  have HP:=ar (jY.out hd);have e0:(r != 0)=true:=bne_iff_ne.2 LD;clear hd jY HR ae LD;generalize aM n v=ZN,aM ck (.slice none 0 0)=ZZ at *;go_wp2_with(with_reducible refine gS 75 jw.out ?_);go_ret;exact HP.out
theorem ab0 (h:eK w b gp B ps)(ag:In64 (az B ps))(i:Int):
  Calls prog 140 #[b,i] w (Hb w (az B ps) i):=by
 have EI:=ar (get_at h ag i);have rH:=dA;clear h ag;go_in;go_wp2_with fail;refine EI.out.mono ?_;rintro e w1 ⟨n,v,g,own,va,ga,r,rfl,hB,hE,hg,hO,xh,aa,hr⟩;obtain⟨w2,q1,q2,Ml,⟨av,af,YS⟩,W,aj⟩:=y9 aa hB hE hO xh;obtain⟨jw,rN,WU,au,fo,HR,HB⟩:=hh7 q1 q2 af YS W hr hB;clear hB hE hg hO xh aa hr q1 q2 Ml af YS W aj EI;by_cases LD:r=0
 ·subst LD
  have z:eH (az B ps) i n own:=by
   rcases HR.out with ⟨h,-⟩|⟨h,-⟩|⟨h,-⟩|⟨-,h⟩
   ·omega
   ·omega
   ·omega
   ·exact h
  have ah:own.length<=32:=by have h1:=z.ownLen;have U:=vA z.right;omega
  have V:∀k,0<=n.B.getD k 0:=λk=>(vg z.right HB.out k).1
  have G:w2.ownsRow w.heap.size 3 1 va own.length (dL own):=by
   obtain⟨⟨h0,h5⟩,U⟩:=WU.out;rcases h5 with h5|⟨g',cap,ak,e1,e2,e3⟩
   ·exact⟨h0,.inl h5⟩
   ·exact⟨h0,.inr ⟨g',cap,ak,e1,by have :=au.out;omega,e3⟩⟩
  obtain⟨HW,ai⟩:=hh2 (SZ fo.out G n v HB.out V (by omega)) z;clear HR z ah V G;generalize WV:aM n v=ZN at *;clear WV;generalize aM ck (.slice none 0 0)=ZZ at *;go_wp2_with(with_reducible first|refine gS 75 jw.out ?_|refine gL 75 rN.out ?_);refine HW.out.mono ?_;rintro e w3 ⟨u,rfl,hu,J⟩;obtain⟨gu,ac,ae⟩:=ma.of_row hu;have HP:Hid (Hb w (az B ps) i (.returned u) w3):=⟨u,gu,_,rfl,ac.reads,J,.inl ⟨n,own,ai.out,rfl⟩,λ_=>ae⟩;clear hu J ac ae HW;go_wp2_with fail;go_ret;exact HP.out
 ·have HP:Hid (Hb w (az B ps) i (.returned ()) w2):=by
   refine⟨_,0,[],rfl,GV _ _,fo.out,.inr ⟨λn' cX hs=> ?_,rfl⟩,λh=>absurd rfl h⟩;rcases HR.out with ⟨h1,U,-⟩|⟨h1,U,h3,-⟩|⟨h1,U,h3,h4,-⟩|⟨h,-⟩
   ·exact U hs.rng
   ·exact hs.notFree h3
   ·exact h4 _ _ hs
   ·exact LD h
  have e0:(r != 0)=true:=bne_iff_ne.2 LD;clear HR LD;generalize aM n v=ZN,aM ck (.slice none 0 0)=ZZ at *;go_wp2_with(with_reducible refine gS 75 jw.out ?_);go_ret;exact HP.out
theorem nU.free(h:nU X i n r qs)(hi:0<=i/\i<32)(W:dS X i):
  (r=1/\¬ct n/\qs=[])\/(r=7/\ct n/\(aZ X).length<dx n/\qs=[])\/(r=0/\ct n/\dx n<=(aZ X).length/\qs=mj X i.toNat n []):=by
 rcases h with ⟨J,G,z⟩|⟨-,-,G,-⟩|⟨own,J,G,z⟩
 ·exact .inl ⟨J,λhR=>G ⟨hi,hR⟩,z⟩
 ·exact absurd W G
 ·have ho:own=[]:=by
   rcases G with ⟨-,h⟩|⟨m,h⟩
   ·exact h
   ·exact absurd W h.notFree
  subst ho;rcases z with ⟨z,U,V⟩|⟨z,U,V⟩
  ·exact .inr (.inl ⟨z,J.2,U,V⟩)
  ·exact .inr (.inr ⟨z,J.2,U,V⟩)
theorem nU.over{m:bT}{J:List Nat}(h:nU X i n r qs)(U:eH X i m J):
  (r=1/\¬ct n/\qs=[])\/(r=7/\ct n/\(aZ (az X (cm X J))).length<dx n/\qs=[])\/(r=0/\ct n/\dx n<=(aZ (az X (cm X J))).length/\qs=mj X i.toNat n J):=by
 rcases h with ⟨V,G,z⟩|⟨-,-,-,G,-⟩|⟨own,V,G,z⟩
 ·exact .inl ⟨V,λhR=>G ⟨U.rng,hR⟩,z⟩
 ·exact absurd U (G _ _)
 ·have ho:own=J:=by
   rcases G with ⟨h,-⟩|⟨m',h⟩
   ·exact absurd h U.notFree
   ·exact(U.uniq h).2
  subst ho;rcases z with ⟨z,W,h5⟩|⟨z,W,h5⟩
  ·exact .inr (.inl ⟨z,V.2,W,h5⟩)
  ·exact .inr (.inr ⟨z,V.2,W,h5⟩)
def ab1 (X:List Int) (n:bT) (i r:Int) (qs:List (Int×Int)):Prop:=
 (r=7/\i=0/\(∀k:Nat,k<32->¬dS X (k:Int))/\qs=[])\/
 ∃j:Nat,j<32/\dS X (j:Int)/\(∀k:Nat,k<j->¬dS X (k:Int))/\((r=1/\i=0/\¬ct n/\qs=[])\/(r=7/\i=0/\ct n/\(aZ X).length<dx n/\qs=[])\/(r=0/\i=(j:Int)/\ct n/\dx n<=(aZ X).length/\qs=mj X j n []))
def LF (w:World) (b z:Nat) (B:List Int) (ps:List (Int×Int)) (n:bT) (e:Ending) (w':World):Prop:=
 ∃i r qs h,e= .returned (.tuple #[(i:Int),(r:Int)])/\(h=z\/(w.heap.size<=h/\h<w'.heap.size))/\eK w' b h B (ps++qs)/\ay [b,z] w w'/\qs.length<=700/\ab1 (az B ps) n i r qs
theorem Vm (h:eK w b U B ps)(ax:In64 (az B ps))(hT:∀z,ay [b,U] w z->kN z)(DV:U<w.heap.size)(ak:ps.length<=700000)(n:bT)(v:Value)(g:Nat)(hB:n.B.length=13)(hE:bD w v g n.E)
  (hN:∀k,k<n.E.length->(eX n.E k).size<=9223372036854775807) (ah:n.E.length≠0->g≠b/\g≠U):
  Calls prog 153 #[b,aM n v] w (LF w b U B ps n):=by
 have cM:ay [] w (w.alloc (.cells (aM n v) 75)):=(ay.refl _ _).alloc _;have ae:=bh.new w (aM n v) 75;obtain⟨X,hX⟩:∃X,az B ps=X:=⟨_,rfl⟩;obtain⟨W0,aa⟩:∃W0,w.alloc (.cells (aM n v) 75)=W0:=⟨_,rfl⟩;rw[aa] at cM ae;have mY:Hid (∀z,ay [] W0 z->(loadVar 75 w.heap.size).run prog z= .ok (.agg (aM n v)) z):=λz V=>cg (ae.keep V (by simp)) hB
 have zX:Hid (∀z (i:Int),ay [] W0 z->Calls prog 59 #[b,(i:Int)] z λe w'=>e=(decide ((0<=i/\i<32)/\dS X i))/\ay [] z w'):=λz i V=>by
  have :=Fl (h.keep (cM.trans' V) (by simp) (by simp)) i;rwa[hX] at this
 have Db:Hid (∀z (i:Int),ay [] W0 z->Calls prog 48 #[b,(i:Int),aM n v] z (λe w'=>∃r qs G,e=(r:Int)/\(G=U\/(w.heap.size<=G/\G<w'.heap.size))/\eK w' b G B (ps++qs)/\ay [b,U] w w'/\qs.length<=700/\nU X i n r qs)):=λz i V=>by
  have vS:=cM.trans' V;have :=sB (h.keep vS (by simp) (by simp)) ax (λwy hy=>hT wy ((vS.mono (by simp)).trans' hy)) (by have :=vS.size;omega) ak i n v g hB (hE.keep vS (by simp)) hN ah;refine this.mono ?_;rintro e w' ⟨r,qs,G,J,W,h3,h4,h5,h6⟩;rw[hX] at h6;exact⟨r,qs,G,J,by have :=vS.size;omega,h3,(vS.mono (by simp)).trans' h4,h5,h6⟩
 have jY:Hid (∀z,ay [] W0 z->(∀k:Nat,k<32->¬dS X (k:Int))->LF w b U B ps n (.returned (.tuple #[(0:Int),(7:Int)])) z):=λz V hf=>
  ⟨0,7,[],U,rfl,.inl rfl,by rw[br];exact h.keep (cM.trans' V) (by simp) (by simp),(cM.trans' V).mono (by simp),by simp,.inl ⟨rfl,rfl,by rw[hX];exact hf,rfl⟩⟩
 have ac:Hid (∀z i r qs G,(G=U\/(w.heap.size<=G/\G<z.heap.size))->eK z b G B (ps++qs)->ay [b,U] w z->qs.length<=700->ab1 X n i r qs->LF w b U B ps n (.returned (.tuple #[(i:Int),(r:Int)])) z):=λz i r qs G J W h3 h4 h5=>
  ⟨i,r,qs,G,rfl,J,W,h3,h4,by rw[hX];exact h5⟩
 have ry:=ar aa;clear h ax hT DV ak hE hN ah hX aa cM ae hB;generalize aM n v=Z at *;go_in;go_wp2_with fail;rw[ry.out];go_loopg [8] 32 (λgh s8 z=>∃k:Nat,k+gh=32/\s8= .int .i64 (k:Int)/\Hid (ay [] W0 z/\∀j:Nat,j<k->¬dS X (j:Int)))
 case atStart=>exact⟨0,by omega,rfl,ay.refl _ _,λj hj=>by omega⟩
 case round=>
  obtain⟨k,V,rfl,HP⟩:=hrel;cases gk with
  |zero=>
   obtain rfl:k=32:=by omega
   have HE:=ar (jY.out wr HP.out.1 HP.out.2);clear V jY ac Db zX mY;go_wp2_with fail;go_ret2;exact HE.out
  |succ gg=>
   have av:(k:Int)<32:=by omega
   have vB:k<32:=by omega
   go_wp2_with fail;refine Rr (zX.out wr (k:Int) HP.out.1) λw2 aj=> ?_;have fo:Hid (ay [] W0 w2):=HP.out.1.trans' aj;clear aj;by_cases hf:dS X (k:Int)
   ·rw[bu (show(0<=(k:Int)/\(k:Int)<32)/\dS X (k:Int) from ⟨⟨by omega,av⟩,hf⟩)]
    obtain⟨rN,HF⟩:=hh2 (mY.out w2 fo.out) hf;clear hf;go_wp2_with(with_reducible refine gL 75 rN.out ?_);refine(Db.out w2 (k:Int) fo.out).mono ?_;rintro e w3 ⟨r,qs,G,rfl,af,ai,ag,SL,au⟩;have hr:=au.free ⟨by omega,av⟩ HF.out;rw[aG] at hr;have HY:=ar (λi hr=>ac.out w3 i r qs G af ai ag SL hr);clear af ai ag SL au jY ac Db zX mY rN fo V;rcases hr with ⟨rfl,J,W⟩|⟨rfl,J,W,h3⟩|⟨rfl,J,W,h3⟩
    ·have HE:=ar (HY.out 0 (.inr ⟨k,vB,HF.out,HP.out.2,.inl ⟨rfl,rfl,J,W⟩⟩))
     clear J W HY vB;go_wp2_with fail;go_ret2;exact HE.out
    ·have HE:=ar (HY.out 0 (.inr ⟨k,vB,HF.out,HP.out.2,.inr (.inl ⟨rfl,rfl,J,W,h3⟩)⟩))
     clear J W h3 HY vB;go_wp2_with fail;go_ret2;exact HE.out
    ·have HE:=ar (HY.out (k:Int) (.inr ⟨k,vB,HF.out,HP.out.2,.inr (.inr ⟨rfl,rfl,J,W,h3⟩)⟩))
     clear J W h3 HY vB;go_wp2_with fail;go_ret2;exact HE.out
   ·rw[aQ (show ¬((0<=(k:Int)/\(k:Int)<32)/\dS X (k:Int)) from λh=>hf h.2)]
    have Qs:Hid (ay [] W0 w2/\∀j:Nat,j<k+1->¬dS X (j:Int)):=⟨fo.out,λj hj=>by
     rcases Nat.lt_succ_iff_lt_or_eq.1 hj with h|h
     ·exact HP.out.2 j h
     ·rw[h];exact hf⟩
    clear hf;go_wp2_with fail;go_roundg gg;case measure=>omega
    case rel=>exact⟨k+1,by omega,by go_num,Qs.out⟩
end
section
open Go.RowKit
open Go.RowKit
open Go.RowKit
open Go.RowKit
variable{w w':World}{B X:List Int}{i r:Int}{e:Ending}{n:bT}{U b gp:Nat}{ps qs:List (Int×Int)}
end
end Go.Proofs.YtimcfdnbpkiniaaGreatDoor
