/- Lemmas. -/
import Derived.Test.YtepbpdipenedhaaGreatDoorM21
import Derived.Maps.OwnOps
import Derived.Maps.Views
set_option maxHeartbeats 4000000
set_option maxRecDepth 100000
namespace Go.Proofs.YtepbpdipenedhaaGreatDoor
open Go.Proofs.Tryz
section
open Go.RowKit Go.Maps
variable{w w':World}{B X Y f xs:List Int}{G J b g gf gl gn gp k z:Nat}{D:DataW Unit}{ps qs:List (Int×Int)}{d:Int}{U ex ks l:List Nat}{F:Int->World->Prop}{v:Value}{R:Nat->World->Prop}{T V:List (bT×Value)}{own:Nat->List Nat}
theorem ze:Keyed prog 3 :=int_keyed underlying3
theorem Hq (w:World):(zeroValue 3).run prog w= .ok (.int .i64 0) w:=by kernel_rfl
structure zY (w:World) (B k:Nat) (f:List Int) (D:DataW Unit):Prop where
 own:w.ownsMap prog 3 (plainElem prog 3) B k D
 map:IsMap D
 get:∀q:Int,D.atKey (.int .i64 q) (.lit (.int .i64 0))= .lit (.int .i64 (if q∈f then 1 else 0))
theorem zY.keep{B:Nat}(h:zY w B k f D){l:List Nat}(J:ay l w w')(hb:B∉l):zY w' B k f D:=by
 refine⟨?_,h.map,h.get⟩;have G:=h.own.lt;obtain⟨es,z,h1,W,U,V⟩:=h.own;exact⟨es,z,(J.block B G hb).trans h1,W,U,V⟩
theorem zY.skip{B:Nat}(h:zY w B k f D){q:Int}(z:q∈f):zY w B (k+1) (f++[q]) D:=by
 refine⟨h.own.mono (by omega),h.map,λx=> ?_⟩;rw[h.get];have :x∈f++[q]↔x∈f:=by simp;rintro rfl;exact z
 simp only[this]
theorem zY.put{B:Nat}(h:zY w B k f D){q:Int}(z:w'.ownsMap prog 3 (plainElem prog 3) B (k+1) (D.put (.int .i64 q) (.lit (.int .i64 1)))):
  zY w' B (k+1) (f++[q]) (D.put (.int .i64 q) (.lit (.int .i64 1))):=by
 refine⟨z,h.map.put _ _,λx=> ?_⟩;by_cases e:x=q
 ·subst e
  rw[atKey_put_same h.map (show WideAt.IsKeyLit (.int .i64 x) from trivial),aB (by simp)]
 ·rw[atKey_put_other (by intro h;cases h;exact e rfl),h.get]
  have :x∈f++[q]↔x∈f:=by simp[e]
  simp only[this]
theorem Je (h:fw w b gn gl gf (iE xs ps qs d))(J:0<=d)(U:d<4611686018427387904)(i x:Int)(G:0<=i)(z:i<xs.length):
  Calls prog 102 #[b,i] w λe w'=>e=(0:Int)/\fw w' b gn gl gf (iE xs ps (qs++[(i,x)]) (d+1))/\ay [b,gn,gl,gf] w w':=by
 have :=FB h (yF _ _ _ _ J U) i;rw[mO G z,Jc _ _ _ _ _ x G z] at this;exact this
theorem Jf (h:fw w b gn gl gf (iE xs ps [] d))(J:0<=d)(U:d<4611686018427387904)(i x:Int)(G:0<=i)(z:i<xs.length):
  Calls prog 18 #[b,i,.int .u64 x] w λe w'=>e=(0:Int)/\fw w' b gn gl gf (iE xs (ps++[(i,x)]) [] (d+1))/\ay [b,gn,gl,gf] w w':=by
 have :=FA h (yF _ _ _ _ J U) i x;rw[mO G z,Jb _ _ _ _ _ G z] at this;exact this
theorem fw.old{s:iV}(h:fw w b gn gl gf s)(z:s.now.length≠0):b<w.heap.size/\gn<w.heap.size/\gl<w.heap.size/\gf<w.heap.size:=by
 obtain⟨J,U,G,a,c,d,e⟩:=h.at_;exact⟨a.lt,(c.cell z).1,(d.cell z).1,(e.cell (by omega)).1⟩
def zf (w:World) (ks:List Nat) (R:World->Prop) (F:Int->World->Prop) (e:Ending) (w':World):Prop:=
 ∃y,e=(y:Int)/\ay ks w w'/\((y=0/\R w')\/(y≠0/\F y w'))
theorem zf.mono{R z:World->Prop}{G:Int->World->Prop}{e:Ending}(h:zf w ks R F e w')(J:∀x,R x->z x)(hF:∀y x,F y x->G y x):zf w ks z G e w':=by
 obtain⟨y,a,b,⟨c,d⟩|⟨c,d⟩⟩:=h
 ·exact⟨y,a,b,.inl ⟨c,J _ d⟩⟩
 ·exact⟨y,a,b,.inr ⟨c,hF _ _ d⟩⟩
theorem aeA (hr:ku w v g qs)(hq:Me qs 100000)(hn:qs.length<=1000)(hg:qs.length≠0->g∉ks)(ak:∀y∈ks,y<w.heap.size)
  (hR:∀k wa wb l,(∀y∈l,w.heap.size<=y)->ay l wa wb->R k wa->R k wb) (h0:R 0 w)
  (Oz:∀k G,k<qs.length->R k G->iw qs k/8∈iC (qs.take k)->R (k+1) G)
  (ah:∀k G,k<qs.length->R k G->¬iw qs k/8∈iC (qs.take k)->Calls prog 102 #[b,(iw qs k:Int)] G (zf G ks (R (k+1)) F)):
  Calls prog 123 #[b,v] w (zf w ks (R qs.length) F):=by
 obtain⟨HR,HQ,HG,ag,ax,Vm,az⟩:=hh7 hr hq hg hR Oz ah (hR 0 w _ [] (by simp) ((ay.refl [] w).alloc (.map #[] 0)) h0);obtain⟨a,cap,rfl,h1,h2⟩:=hr.val;unfold maxLen at h2;have HB:Hid (w.heap.size∉ks):=λhm=>by have :=ak _ hm;omega
 have aF:= @run_makeMap prog;clear hr hq hg hR Oz ah h0 ak;go_in;go_wp2_with fail;go_loopg [13] qs.length (λgh s13 G=>∃k:Nat,k+gh=qs.length/\s13= .int .i64 (k:Int)/\
  Hid ((∃D,zY G w.heap.size k ((iC qs).take k) D)/\R k G/\ay ks w G))
 case atStart=>
  exact⟨0,by omega,rfl,⟨.map [],World.ownsMap_made _ _ _ _,isMap_empty,λq=>by simp[DataW.atKey]⟩,az.out,(ay.refl _ _).alloc _⟩
 case round=>
  obtain⟨k,hk,rfl,HI⟩:=hrel;cases gk with
  |zero=>
   obtain rfl:k=qs.length:=by omega
   have aD:¬(qs.length:Int)<(qs.length:Int):=by omega
   have HE:Hid (zf w ks (R qs.length) F (.returned (0:Int)) wr):=⟨0,rfl,HI.out.2.2,.inl ⟨rfl,HI.out.2.1⟩⟩;go_wp2_with fail;go_ret;exact HE.out
  |succ gg=>
   have aD:(k:Int)<(qs.length:Int):=by omega
   obtain⟨⟨D,hD⟩,hp,fW⟩:=HI.out;have av:=HG.out (by omega);obtain⟨aH,off,rfl,c0,c1⟩:=(HR.out.keep fW (λ_=>av)).get (j:=k) (by omega);obtain⟨x0,x1⟩:=ug HQ.out (k:=k) (by omega);obtain⟨HS,aG⟩:=hh2 (KM qs k (by omega)) fW.size;have uo:Hid (∀G,ay [] wr G->R k G):=λG hk=>ag.out k wr G [] (by simp) hk hp
   have aj:Hid (iw qs k/8∈(iC qs).take k->∀G,R k G->R (k+1) G):=λhm G h=>ax.out k G (by omega) h (by rw[<-nO];exact hm)
   have au:Hid (¬iw qs k/8∈(iC qs).take k->∀G,R k G->Calls prog 102 #[b,(iw qs k:Int)] G (zf G ks (R (k+1)) F)):=λhm G h=>Vm.out k G (by omega) h (by rw[<-nO];exact hm)
   generalize iw qs k=x,lv qs k=y at *;obtain⟨HD,jA⟩:=hh2 hD fW;have ae:keyOf prog 3 (.int .i64 (x/8))=some (.int .i64 (x/8)):=keyOf_int_mk underlying3 (WalkArith.wf_i64 (by omega));have U:=ar ae;clear hD hp fW av HI ae ax Vm;generalize (iC qs).take k=f at *;by_cases hm:x/8∈f
   ·have HM:=ar hm
    clear hm;go_wp2_with(at_lookup;refine wpList_lookup_own_int _ rfl _ _ 215 rfl 3 3 .i64 ze underlying215 underlying3 (Hq _) w.heap.size k _ rfl (HD.out.own.alloc _) _ _ rfl U.out ?_;intro c J aa;(obtain rfl:c=1:=by(rw[HD.out.get,aB HM.out] at J;cases J;rfl));clear J aa);go_roundg gg;case measure=>omega
    case rel=>
     refine⟨k+1,by omega,by go_num,⟨D,?_⟩,aj.out HM.out _ (uo.out _ ((ay.refl [] _).alloc _)),jA.out.alloc _⟩;rw[HS.out];exact(HD.out.skip HM.out).keep ((ay.refl [] _).alloc _) (by simp)
   ·have HM:=ar hm
    clear hm;go_wp2_with(at_lookup;refine wpList_lookup_own_int _ rfl _ _ 215 rfl 3 3 .i64 ze underlying215 underlying3 (Hq _) w.heap.size k _ rfl (HD.out.own.alloc _) _ _ rfl U.out ?_;intro c J aa;(obtain rfl:c=0:=by(rw[HD.out.get,aA HM.out] at J;cases J;rfl));clear J aa);refine(au.out HM.out _ (uo.out _ ((ay.refl [] _).alloc _))).mono ?_;rintro e w2 ⟨z,rfl,V,⟨rfl,W⟩|⟨hz,W⟩⟩
    ·have mZ:=ar W
     obtain⟨ac,fx⟩:=hh2 ((HD.out.keep ((ay.refl [] _).alloc _) (by simp)).keep V HB.out) ((jA.out.alloc _).trans' V);clear W V;go_wp2_with(first|(at_lookup;refine wpList_lookup_own_int _ rfl _ _ 215 rfl 3 3 .i64 ze underlying215 underlying3 (Hq _) w.heap.size k _ rfl ac.out.own _ _ rfl U.out ?_;intro c J aa;(obtain rfl:c=0:=by(rw[ac.out.get,aA HM.out] at J;cases J;rfl));clear J aa)|(at_mapUpdate;refine wpList_mapUpdate_own _ rfl _ _ _ 215 rfl 3 3 ze underlying215 _ w.heap.size k _ rfl ac.out.own (by unfold maxLen;omega) _ _ _ rfl rfl U.out (.lit (.int .i64 1)) [] (plainElem_int underlying3 (by decide)) ?_;intro w3 ai Zc));have aC:=ar (ac.out.put ai);have af:ay [w.heap.size] w2 w3:=ay.of_grown Zc (by intro q hq;cases hq;simp);obtain⟨Cm,oI⟩:=hh2 (ag.out (k+1) w2 w3 [w.heap.size] (by simp) af mZ.out) (fx.out.trans af (by simp));clear ai Zc af;go_wp2_with fail;go_roundg gg;case measure=>omega
     case rel=>
      refine⟨k+1,by omega,by go_num,⟨D.put (.int .i64 (x/8)) (.lit (.int .i64 1)),?_⟩,Cm.out,oI.out⟩;rw[HS.out];exact aC.out
    ·have HE:Hid (zf w ks (R qs.length) F (.returned z) w2):=⟨z,rfl,(jA.out.alloc _).trans' V,.inr ⟨hz,W⟩⟩
     have hb:(z != 0)=true:=by simpa using hz
     clear W V au aj ag;go_wp2_with fail;go_ret;exact HE.out
theorem Te{S:Nat->World->Prop}{T:World->Prop}(hr:ku w v g ps)(hq:Me ps 100000)(hn:ps.length<=1000)(hg:ps.length≠0->g∉ks)(ag:∀y∈ks,y<w.heap.size)
  (hS:∀k wa V,ay [] wa V->S k wa->S k V) (h0:S 0 w)
  (af:∀k h,k<ps.length->S k h->Calls prog 18 #[b,(iw ps k:Int),.int .u64 (lv ps k)] h (zf h ks (S (k+1)) F))
  (hR:∀k wa V l,(∀y∈l,w.heap.size<=y)->ay l wa V->R k wa->R k V) (h1:∀h,S ps.length h->R 0 h)
  (Oz:∀k h,k<ps.length->R k h->iw ps k/8∈iC (ps.take k)->R (k+1) h)
  (ac:∀k h,k<ps.length->R k h->¬iw ps k/8∈iC (ps.take k)->Calls prog 102 #[b,(iw ps k:Int)] h (zf h ks (R (k+1)) F))
  (ah:∀h,R ps.length h->Calls prog 103 #[b] h (zf h ks T F)):
  Calls prog 69 #[b,v] w (zf w ks T F):=by
 obtain⟨HR,HQ,HG,Uc,aa,Ny,ai⟩:=hh7 hr hq hg hS af ah h0;have U:Hid (∀h,ay ks w h->S ps.length h->Calls prog 123 #[b,v] h (zf h ks (R ps.length) F)):=λh hk hs=>
  aeA (hr.keep hk hg) hq hn hg (λy hy=>by have :=ag y hy;have :=hk.size;omega) (λk wa V l hl=>hR k wa V l λy hy=>by have :=hl y hy;have :=hk.size;omega) (h1 h hs) Oz ac
 obtain⟨a,cap,rfl,ak,h2⟩:=hr.val;unfold maxLen at h2;clear hr hq hg hS af hR h1 Oz ac ah h0 ag;go_in;go_wp2_with fail;go_loopg [11] ps.length (λgh M8 h=>∃k:Nat,k+gh=ps.length/\M8= .int .i64 (k:Int)/\Hid (S k h/\ay ks w h))
 case atStart=>exact⟨0,by omega,rfl,ai.out,ay.refl _ _⟩
 case round=>
  obtain⟨k,hk,rfl,HI⟩:=hrel;cases gk with
  |zero=>
   obtain rfl:k=ps.length:=by omega
   have aj:¬(ps.length:Int)<(ps.length:Int):=by omega
   obtain⟨HF,HK⟩:=hh2 (U.out _ HI.out.2 HI.out.1) HI.out.2;clear HI U Uc aa;go_wp2_with fail;refine HF.out.mono ?_;rintro e w2 ⟨z,rfl,J,⟨rfl,G⟩|⟨hz,G⟩⟩
   ·have Zd:=ar (Ny.out _ G)
    have fx:=ar (HK.out.trans' J);clear G J HF Ny;go_wp2_with fail;refine Zd.out.mono ?_;rintro e w3 ⟨z,rfl,ae,h3⟩;have HE:Hid (zf w ks T F (.returned z) w3):=⟨z,rfl,fx.out.trans' ae,h3⟩;clear ae h3 Zd;go_wp2_with fail;go_ret;exact HE.out
   ·have HE:Hid (zf w ks T F (.returned z) w2):=⟨z,rfl,HK.out.trans' J,.inr ⟨hz,G⟩⟩
    have hb:(z != 0)=true:=by simpa using hz
    clear G J HF Ny;go_wp2_with fail;go_ret;exact HE.out
  |succ gg=>
   have aj:(k:Int)<(ps.length:Int):=by omega
   obtain⟨hp,fW⟩:=HI.out;obtain⟨au,off,rfl,c0,c1⟩:=(HR.out.keep fW HG.out).get (j:=k) (by omega);obtain⟨x0,x1⟩:=ug HQ.out (k:=k) (by omega);have W:Hid (∀h,ay [] wr h->Calls prog 18 #[b,(iw ps k:Int),.int .u64 (lv ps k)] h (zf h ks (S (k+1)) F)):=λh hk=>aa.out k h (by omega) (Uc.out _ _ _ hk hp)
   generalize iw ps k=x,lv ps k=y at *;have jA:=ar fW;clear hp fW HI aa U Uc Ny;go_wp2_with fail;refine(W.out _ ((ay.refl [] _).alloc _)).mono ?_;rintro e w2 ⟨z,rfl,J,⟨rfl,G⟩|⟨hz,G⟩⟩
   ·have mZ:=ar G
    have fx:=ar ((jA.out.alloc _).trans' J);clear G J W;go_wp2_with fail;go_roundg gg;case measure=>omega
    case rel=>exact⟨k+1,by omega,by go_num,mZ.out,fx.out⟩
   ·have HE:Hid (zf w ks T F (.returned z) w2):=⟨z,rfl,(jA.out.alloc _).trans' J,.inr ⟨hz,G⟩⟩
    have hb:(z != 0)=true:=by simpa using hz
    clear G J W;go_wp2_with fail;go_ret;exact HE.out
theorem Dd (h:fw w b gn gl gf (calm xs d))(h0:0<=d)(hd:d<3000000000000000000){v:Value}{g:Nat}{ps:List (Int×Int)}(hr:ku w v g ps)
  (hq:Me ps xs.length) (V:ps.length<=1000) (hx:xs.length=3128) (hg:ps.length≠0->g∉[b,gn,gl,gf]):
  Calls prog 69 #[b,v] w λe w'=>e=(0:Int)/\fw w' b gn gl gf (calm (az xs ps) (d+(mr ps:Nat)))/\ay [b,gn,gl,gf] w w':=by
 have ho:=h.old (by show xs.length≠0;omega);have ac:∀y∈[b,gn,gl,gf],y<w.heap.size:=λy hy=>by simp only[aL,aK,bC] at hy;omega
 have aa:=Ae (iC ps);refine(Te (S:=λk J=>fw J b gn gl gf (iE xs (ps.take k) [] (d+(k:Nat)))) (R:=λk J=>fw J b gn gl gf (iE xs ps (ps.take k) (d+(ps.length:Nat)+(nN (iC ps) k:Nat)))) (T:=λJ=>fw J b gn gl gf (calm (az xs ps) (d+(mr ps:Nat)))) (F:=λ_ _=>False) hr (λp hp=>by have :=hq p hp;omega) V hg ac ?_ ?_ ?_ ?_ ?_ ?_ ?_ ?_).mono ?_
 ·intro k wa wb G z
  exact z.keep G (by simp) (by simp)
 ·rw[Td] at h
  simpa using h
 ·intro k J G z
  obtain⟨x0,x1⟩:=ug hq (k:=k) G;refine Rr (Jf z (by omega) (by omega) _ (lv ps k) x0 x1) ?_;rintro w' ⟨U,h3⟩;refine⟨0,rfl,h3,.inl ⟨rfl,?_⟩⟩;rw[qf ps k G,show d+((k+1:Nat):Int)=d+(k:Nat)+1 by omega];exact U
 ·intro k wa wb l hl G z
  have V:∀y,y∈[b,gn,gl,gf]->y∉l:=λy hy W=>by have :=hl y W;have :=ac y hy;omega
  exact z.keep G (V _ (by simp)) (λ_=>⟨V _ (by simp),V _ (by simp),V _ (by simp)⟩)
 ·intro J z
  rw[aW (aH _)] at z;simpa[nN] using z
 ·intro k J G z W
  rw[qf ps k G,LO _ _ _ _ _ _ W,nN,Dy ps k G,nO,aB W];exact z
 ·intro k J G z W
  obtain⟨x0,x1⟩:=ug hq (k:=k) G;have :=aa k;refine Rr (Je z (by omega) (by omega) _ (lv ps k) x0 x1) ?_;rintro w' ⟨U,h3⟩;refine⟨0,rfl,h3,.inl ⟨rfl,?_⟩⟩;rw[qf ps k G,nN,Dy ps k G,nO,aA W,show d+(ps.length:Nat)+((nN (iC ps) k+1:Nat):Int)=d+(ps.length:Nat)+(nN (iC ps) k:Nat)+1 by omega];exact U
 ·intro J z
  rw[aW (aH _)] at z;have :=aa ps.length;have ae:=FC z (yF _ _ _ _ (by omega) (by omega));obtain⟨e1,e2⟩:=Jd xs ps (d+(ps.length:Nat)+(nN (iC ps) ps.length:Nat)) (λp hp=>(hq p hp).1);rw[e1,e2] at ae;refine Rr ae ?_;rintro w' ⟨U,h3⟩;refine⟨0,rfl,h3,.inl ⟨rfl,?_⟩⟩;rw[show d+((mr ps:Nat):Int)=d+(ps.length:Nat)+(nN (iC ps) ps.length:Nat)+1 by unfold mr KL;omega];exact U
 ·rintro e w' ⟨y,rfl,z,⟨rfl,U⟩|⟨-,U⟩⟩
  ·exact⟨rfl,U,z⟩
  ·exact U.elim
theorem OA (w:World)(a x:Int)(T:Nat):ku (w.alloc (.cells #[a,.int .u64 x] T)) (.slice w.heap.size 1 1) w.heap.size [(a,x)]:=
 fp.preads (T:=T) ⟨rfl,_,1,rfl,aH _,by unfold maxLen;omega,λ_=>⟨rfl,_,bh.new _ _ _,rfl,rfl⟩⟩
theorem rP (h:fw w b gn gl gf (calm xs d))(h0:0<=d)(hd:d<3000000000000000000)(hx:xs.length=3128)(x:Int):
  Calls prog 71 #[b,.int .u64 x] w λe w'=>e=(0:Int)/\fw w' b gn gl gf (calm (az xs [(8,x)]) (d+3))/\ay [b,gn,gl,gf] w w':=by
 have ho:=h.old (by show xs.length≠0;omega);have U:=λ(J:World) (W:ay [] w J) (he:J.heap.size=w.heap.size)=>Dd (h.keep (W.alloc (.cells #[(8:Int),.int .u64 x] 58)) (by simp) (by simp)) h0 hd (OA J 8 x 58) (by intro p V;simp at V;subst V;simp;omega) (by simp) (by omega) (by intro _ hm;simp at hm;omega)
 rw[Mx] at U;have HS:=ar U;clear U ho h;go_in;go_wp2_with fail;refine Rr (HS.out w (ay.refl _ _) rfl) ?_;rintro w2 ⟨G,z⟩;obtain⟨mZ,fx⟩:=hh2 G (((ay.refl _ _).alloc _).trans' z);clear G z;go_wp2_with fail;go_ret;exact⟨rfl,mZ.out,fx.out⟩
theorem OB (h:fw w b gn gl gf (calm xs d))(h0:0<=d)(hd:d<2000000000000000000)(V:xs.length=3128){v:Value}{g:Nat}{ps:List (Int×Int)}(U:ku w v g ps)
  (hq:Me ps 3128) (hn:ps.length<=1000) (hg:ps.length≠0->g∉[b,gn,gl,gf]):
  Calls prog 73 #[b,v] w λe w'=>e=(0:Int)/\fw w' b gn gl gf (calm (W8 xs ps) (d+(mr ps:Nat)+3))/\ay [b,gn,gl,gf] w w':=by
 have HS:=ar (Dd h h0 (by omega) U (by rw[V];exact hq) hn (by omega) hg);have aa:=wj ps;have HX:=ar V;obtain⟨a,cap,rfl,-,-⟩:=U.val;clear h U hq hg V;go_in;go_wp2_with fail;refine Rr HS.out ?_;rintro w2 ⟨J,G⟩;obtain⟨HC,fx⟩:=hh2 (rP J (by omega) (by omega) (by rw[ct];exact HX.out) 0) G;clear J G;go_wp2_with fail;refine Rr HC.out ?_;rintro w3 ⟨W,z⟩;obtain⟨Cm,oI⟩:=hh2 W (fx.out.trans' z);clear W z;go_wp2_with fail;go_ret;exact⟨rfl,Cm.out,oI.out⟩
end
section
open Go.RowKit
variable{w w':World}{B X Y f xs:List Int}{G J b g gf gl gn gp k z:Nat}{D:DataW Unit}{ps qs:List (Int×Int)}{d:Int}{U ex ks l:List Nat}{F:Int->World->Prop}{v:Value}{R:Nat->World->Prop}{T V:List (bT×Value)}{own:Nat->List Nat}
theorem Hr (h:fw w b gn gl gf (calm xs d))(z:xs.length=3128):
  Calls prog 46 #[b] w λe w'=>e=(3128:Int)/\w=w':=by
 have :=PQ h;rw[show((calm xs d).now.length:Int)=3128 by show(xs.length:Int)=3128;omega] at this;exact this
theorem OC (h:xM ps=true):Me ps 3128:=λp z=>by have :=TG h z;omega
theorem ab5 (h:ps.length<=400):Me (nt (fq ps)) 3128:=λp z=>by
 have :=Mw z;rw[ny] at this;omega
def VL (w:World) (b gn gl gf:Nat) (xs:List Int) (d:Int) (e:Ending) (w':World):Prop:=
 e=(0:Int)/\fw w' b gn gl gf (calm xs d)/\ay [b,gn,gl,gf] w w'
theorem VM (h:fw w b gn gl gf (calm xs d))(h0:0<=d)(hd:d<1000000000000000000)(hx:xs.length=3128){v:Value}{g:Nat}{ps:List (Int×Int)}(hr:ku w v g ps)
  (G:okP ps) (ah:xM ps=true) (hn:ps.length<=400) (hg:ps.length≠0->g∉[b,gn,gl,gf]):
  Calls prog 28 #[b,v] w (VL w b gn gl gf (nP xs ps) (d+(Ck ps:Nat))):=by
 obtain⟨H,HR,HX,HG,ae,qZ,HL⟩:=hh7 h hr hx hg ah G (Hr h hx);have HW:=ar (Rj hr G hn);obtain⟨a,cap,rfl,h1,h2⟩:=hr.val;unfold maxLen at h2;have z:=ar (h.old (by show xs.length≠0;omega));have q4:¬(400:Int)<(ps.length:Int):=by omega
 clear h hr G hg ah hx;go_in;go_wp2_with fail;refine C' HL.out ?_;go_wp2_with fail;refine HW.out.mono ?_;rintro e w1 ⟨vw,gw,rfl,WZ,S5,W⟩;obtain⟨aw,cw,rfl,-,-,-⟩:=fV WZ;obtain⟨JL,jK,HU⟩:=hh3 WZ W (Fx qZ.out);have PF:=wY WZ HU.out ps.length (ny ps) (by omega);rw[Fy qZ.out,ae.out] at PF;obtain⟨PF,V⟩:=hh2 PF (H.out.keep W (by simp) (by simp));clear WZ W;go_wp2_with fail;refine C' PF.out ?_;go_wp2_with fail;refine C' (Dc V.out 8 (by omega) (by rw[HX.out];omega)) ?_;by_cases hz:ps.length=0
 ·obtain rfl:ps=[]:=bo hz
  clear hz;go_wp2_with fail;go_ret;refine⟨rfl,?_,jK.out.mono (by simp)⟩;simpa[nP,Ck] using V.out
 ·have aj:((ps.length:Int)==0)=false:=cP.2 (by omega)
  have aC:(ps.length==0)=false:=cP.2 hz;have WX:Hid (ps≠[]):=λe=>hz (by rw[e];rfl)
  have HZ:=ar hz;clear hz;go_wp2_with fail;refine(Za JL.out (by rw[ny];omega)).mono ?_;rintro e w2 ⟨vl,aB,rfl,aa,aD,U⟩;obtain⟨al,cl,rfl,-,-⟩:=aa.val;have fx:=ar U;have ho:=z.out;have aj:=jK.out.size;have PH:=ar (Dd (V.out.keep U (by simp) (by simp)) h0 (by omega) aa (by rw[HX.out];exact ab5 hn) (by rw[oo,ny];omega) HX.out (by intro _ hm;simp only[aL,aK,bC] at hm;omega));clear aa U ho aj;go_wp2_with fail;refine Rr PH.out ?_;rintro w3 ⟨WY,J⟩;have Cm:=ar WY;have ho:=z.out;have ag:=(JL.out.keep fx.out (by simp)).keep J (by intro hm;simp only[aL,aK,bC] at hm;omega);have ax:=ar (uL ag HU.out (by rw[ny];omega));have oI:Hid (ay [b,gn,gl,gf] w w3):=((jK.out.trans fx.out (by simp)).mono (by simp)).trans' J;clear WY J ag ho;go_wp2_with fail;refine Rr ax.out λw4 ac=> ?_;have av:=wj (nt (fq ps));rw[oo,ny] at av;obtain⟨au,qb⟩:=hh2 (rP (Cm.out.keep ac (by simp) (by simp)) (by omega) (by omega) (by rw[ct];exact HX.out) (rL (fq ps))) (oI.out.trans ac (by simp));clear ac;go_wp2_with fail;refine Rr au.out ?_;rintro w5 ⟨af,kR⟩;have qR:=ar (qb.out.trans' kR);have ak:=ar (OB af (by omega) (by omega) (by rw[ct,ct];exact HX.out) (HR.out.keep qR.out HG.out) (OC ae.out) (by omega) HG.out);clear af kR;go_wp2_with fail;refine Rr ak.out ?_;rintro w6 ⟨ai,jW⟩;obtain⟨az,tX⟩:=hh2 ai (qR.out.trans' jW);clear ai jW;go_wp2_with fail;go_ret;refine⟨rfl,?_,tX.out⟩;rw[nP,aA WX.out,Ck,aA WX.out];have :=az.out;rw[show d+((mr (nt (fq ps))+3+mr ps+3:Nat):Int)=d+(mr (nt (fq ps)):Nat)+3+(mr ps:Nat)+3 by omega];exact this
def BQ (xs:List Int):Nat:=(xs.getD 8 0/4294967296).toNat
def rI (xs:List Int):Option (List (Int×Int)):=
 if 1<=BQ xs/\BQ xs<=400/\xs.getD 8 0=rL (oD xs (2*BQ xs))/\lZ (oD xs (2*BQ xs)) (BQ xs)=true then some (lH (oD xs (2*BQ xs)) (BQ xs)) else none
def VN (w:World) (e:Ending) (w':World):Prop:=e= .returned (.tuple #[(),false,(0:Int)])/\ay [] w w'
def Ko (w:World) (ps:List (Int×Int)) (e:Ending) (w':World):Prop:=∃v g,e= .returned (.tuple #[v,true,(0:Int)])/\ku w' v g ps/\w.heap.size<=g/\ay [] w w'
theorem Rl (h:fw w b gn gl gf (calm xs d))(G:xs.length=3128):Hp w b xs:=λk _ J z=>by
 have :=Dc (h.keep z (by simp) (by simp)) (k:Int) (by omega) (by rw[G];omega);rw[aG] at this;exact this
theorem zZ (h:Calls prog 46 #[b] w λe w'=>e=(3128:Int)/\w=w')(ot:Hp w b xs)(hu:Ev xs)(V:rI xs=none):
  Calls prog 89 #[b] w (VN w):=by
 obtain⟨HL,Ll⟩:=hh2 h (ot 8 w (by omega) (ay.refl _ _));obtain⟨c0,c1⟩:=AZ hu 8;obtain⟨n,hn⟩:∃n:Nat,BQ xs=n:=⟨_,rfl⟩;have hc:xs.getD 8 0/4294967296=(n:Int):=by unfold BQ at hn;omega
 obtain⟨PF,HU⟩:=hh2 (Oy ot (2*n)) hu;unfold rI at V;rw[hn] at V;have HS:Hid (¬(1<=n/\n<=400/\xs.getD 8 0=rL (oD xs (2*n))/\lZ (oD xs (2*n)) n=true)):=λe=>by rw[aB e] at V;cases V
 generalize aa:xs.getD 8 0=c at *;clear h ot hu hn aa V;by_cases h1:n<1
 ·go_in
  go_wp2_with fail;refine C' HL.out ?_;go_wp2_with fail;refine C' Ll.out ?_;go_wp2_with fail
  go_ret3
  exact⟨rfl,ay.refl _ _⟩
 ·by_cases h2:400<n
  ·go_in
   go_wp2_with fail;refine C' HL.out ?_;go_wp2_with fail;refine C' Ll.out ?_;go_wp2_with fail
   go_ret3
   exact⟨rfl,ay.refl _ _⟩
  ·go_in
   go_wp2_with fail;refine C' HL.out ?_;go_wp2_with fail;refine C' Ll.out ?_;go_wp2_with fail;refine(PF.out (by omega) _ (by omega)).mono ?_;rintro e w1 ⟨vw,gw,rfl,WZ,S5,G⟩;obtain⟨aw,cw,rfl,-,-,-⟩:=fV WZ;obtain⟨JL,jK⟩:=hh2 WZ G;clear WZ G;go_wp2_with fail;refine Rr (uL JL.out (BP HU.out _) (by rw[mP];omega)) λw2 z=> ?_;obtain⟨fx,Mf⟩:=hh2 (jK.out.trans z (by simp)) (wY (JL.out.keep z (by simp)) (BP HU.out _) n (mP _ _) (by omega));clear z;generalize J:rL (oD xs (2*n))=mk at *;by_cases U:c=mk
   ·have WT:(c != mk)=false:=by simpa using U
    have W:Hid (lZ (oD xs (2*n)) n=false):=by
     show lZ (oD xs (2*n)) n=false;cases hp:lZ (oD xs (2*n)) n
     ·rfl
     ·exact absurd ⟨by omega,by omega,U,hp⟩ HS.out
    rw[W.out] at Mf;subst U;clear J;go_wp2_with(go_at_call 68;refine C' Mf.out ?_)
    go_ret3
    exact⟨rfl,fx.out⟩
   ·have WT:(c != mk)=true:=by simpa using U
    clear J U;go_wp2_with fail
    go_ret3
    exact⟨rfl,fx.out⟩
theorem Jg (h:Calls prog 46 #[b] w λe w'=>e=(3128:Int)/\w=w')(ot:Hp w b xs)(hu:Ev xs){ps:List (Int×Int)}(V:rI xs=some ps):
  Calls prog 89 #[b] w (Ko w ps):=by
 obtain⟨HL,Ll⟩:=hh2 h (ot 8 w (by omega) (ay.refl _ _));obtain⟨c0,c1⟩:=AZ hu 8;obtain⟨n,hn⟩:∃n:Nat,BQ xs=n:=⟨_,rfl⟩;have hc:xs.getD 8 0/4294967296=(n:Int):=by unfold BQ at hn;omega
 obtain⟨PF,HU⟩:=hh2 (Oy ot (2*n)) hu;unfold rI at V;rw[hn] at V;split at V
 ·rename_i hcond
  obtain⟨h1,h2,h3,h4⟩:=hcond;cases V;obtain⟨H3,H4⟩:=hh2 h3 h4;clear h ot hu hn h3 h4;generalize xs.getD 8 0=c at *;go_in;go_wp2_with fail;refine C' HL.out ?_;go_wp2_with fail;refine C' Ll.out ?_;go_wp2_with fail;refine(PF.out (by omega) _ (by omega)).mono ?_;rintro e w1 ⟨vw,gw,rfl,WZ,S5,U⟩;obtain⟨aw,cw,rfl,-,-,-⟩:=fV WZ;obtain⟨JL,jK⟩:=hh2 WZ U;clear WZ U;go_wp2_with fail;refine Rr (uL JL.out (BP HU.out _) (by rw[mP];omega)) λw2 z=> ?_;obtain⟨fx,TN⟩:=hh2 (jK.out.trans z (by simp)) (JL.out.keep z (by simp));have W:=wY TN.out (BP HU.out _) n (mP _ _) (by omega);rw[H4.out] at W;have W:=ar W;clear z;rw[<-H3.out];go_wp2_with(go_at_call 68;refine C' W.out ?_);refine(Rk TN.out n (mP _ _) h2 H4.out).mono ?_;rintro e w3 ⟨vp,gp,rfl,G,Ew,J⟩;obtain⟨ap,cp,rfl,-,-⟩:=G.val;have HM:Hid (Ko w (lH (oD xs (2*n)) n) (.returned (.tuple #[.slice ap (lH (oD xs (2*n)) n).length cp,true,(0:Int)])) w3):=
   ⟨_,gp,rfl,G,cE fx.out.size Ew,fx.out.trans J (by simp)⟩
  clear G Ew J;go_wp2_with fail
  go_ret3
  exact HM.out
 ·cases V
theorem OD (h:rI xs=some ps):xM ps=true/\ps.length<=400:=by
 unfold rI at h;split at h
 ·rename_i hc
  obtain⟨W,U,V,J⟩:=hc;cases h;refine⟨?_,by rw[nJ];exact U⟩;unfold xM;rw[eP];intro p z;simp only[lH,bF] at z;obtain⟨k,G,rfl⟩:=z;exact eP.1 J k G
 ·cases h
theorem Ze (V:X.length=3128):∀k,k<=3128->∀i,(az X (dg X Y k)).getD i 0=if i<k then Y.getD i 0 else X.getD i 0:=by
 intro k;induction k with
 |zero=>intro _ i;rw[aA];rfl
 |succ k ih=>
  intro U i;by_cases G:Y.getD k 0=X.getD k 0
  ·rw[DD X Y k G,ih (by omega)]
   by_cases h:i<k
   ·rw[aB h,aB]
   ·rw[aA h]
    by_cases z:i=k
    ·rw[aB,z,G]
    ·rw[aA]
  ·have e:dg X Y (k+1)=dg X Y k++[((k:Int),Y.getD k 0)]:=by
    unfold dg;rw[dU,eJ,eu]
    congr 1
    have J:(Y.getD k 0 != X.getD k 0)=true:=bne_iff_ne.2 G;simp only[fD,J,if_true,List.filter_nil];rfl
   rw[e,bz,oJ,aG,jo _ _ _ _ (by rw[ct];omega)];by_cases h:i=k
   ·rw[aB h.symm,aB,h]
   ·rw[aA (cY h),ih (by omega)]
    by_cases z:i<k
    ·rw[aB z,aB]
    ·rw[aA z,aA]
theorem Zg{p:Int×Int}(h:p∈dg X Y k):∃i:Nat,i<k/\p=((i:Int),Y.getD i 0)/\Y.getD i 0≠X.getD i 0:=by
 unfold dg at h;obtain⟨i,z,rfl⟩:=bF.1 h;rw[List.mem_filter,bW] at z;exact⟨i,z.1,rfl,by simpa using z.2⟩
theorem ab6{L:List Nat}(h:∀i,i<3128->Y.getD i 0≠X.getD i 0->i∈L):(dg X Y 3128).length<=L.length:=by
 unfold dg;rw[bZ];have G:∀(l m:List Nat),l.Nodup->(∀x∈l,x∈m)->l.length<=m.length:=by
  intro l;induction l with
  |nil=>intro m _ _;exact fC _
  |cons a l ih=>
   intro m W h;have V:=List.nodup_cons.1 W;have U:=h a (by simp);have h2:=ih (m.erase a) V.2 λx z=>by
    have J:x≠a:=λe=>V.1 (e▸z)
    exact(List.mem_erase_of_ne J).2 (h x (by simp[z]))
   rw[List.length_erase_of_mem U] at h2;have :0<m.length:=List.length_pos_of_mem U;simp only[cr];omega
 refine G _ L (List.Sublist.nodup List.filter_sublist List.nodup_range) λx z=> ?_
 rw[List.mem_filter,bW] at z;exact h x z.1 (by simpa using z.2)
theorem OE (hX:X.length=3128)(aa:In64 X)(ae:In64 Y)(hj:∀k,8<=k->k<816->Y.getD k 0=X.getD k 0)(h8:X.getD 8 0=0)(hn:(dg X Y 3128).length<=400):
  okP (dg X Y 3128)/\xM (dg X Y 3128)=true/\(nP X (dg X Y 3128)).length=3128/\In64 (nP X (dg X Y 3128))/\(nP X (dg X Y 3128)).getD 8 0=0/\
   ∀k,k<3128->(k<8\/816<=k)->(nP X (dg X Y 3128)).getD k 0=Y.getD k 0:=by
 have G:∀p∈dg X Y 3128,∃i:Nat,i<3128/\(i<8\/816<=i)/\p=((i:Int),Y.getD i 0):=λp z=>by
  obtain⟨i,h1,h2,h3⟩:=Zg z;refine⟨i,h1,?_,h2⟩;rcases dE i 8 with h4|h4
  ·exact .inl h4
  ·rcases dE i 816 with h5|h5
   ·exact absurd (hj i h4 h5) h3
   ·exact .inr h5
 have V:okP (dg X Y 3128):=λp z=>by
  obtain⟨i,h1,-,rfl⟩:=G p z;have :=ae i
  dsimp only
  omega
 have ac:xM (dg X Y 3128)=true:=by
  unfold xM;rw[eP];intro p z;obtain⟨i,h1,h2,rfl⟩:=G p z;exact mq.2 (by dsimp only;omega)
 have ag:=ny (dg X Y 3128);have U:=Ze (Y:=Y) hX 3128 (aH _);by_cases J:dg X Y 3128=[]
 ·have e:nP X (dg X Y 3128)=X:=by unfold nP;rw[aB J]
  rw[e];refine⟨V,ac,hX,aa,h8,λk hk _=> ?_⟩;have :=U k;rw[J,aB hk] at this;exact this
 ·have e:nP X (dg X Y 3128)=az (az (az (az X (nt (fq (dg X Y 3128)))) [(8,rL (fq (dg X Y 3128)))]) (dg X Y 3128)) [(8,0)]:=by unfold nP;rw[aA J];rfl
  have ai:∀p∈nt (fq (dg X Y 3128)),9<=p.1/\p.1<809+1:=λp z=>by
   have :=Mw z;omega
  have af:0<=rL (fq (dg X Y 3128))/\rL (fq (dg X Y 3128))<18446744073709551616:=by
   unfold rL;have h1:=KJ ((fq (dg X Y 3128)).map Int.toNat);rw[ag,show 2*(dg X Y 3128).length/2=(dg X Y 3128).length by omega];omega
  have h1:In64 (az X (nt (fq (dg X Y 3128)))):=aa.put λp z=>by
   have hu:=Fx V;unfold nt at z;obtain⟨k,hk,rfl⟩:=List.mem_mapIdx.1 z;have :=hu _ (bG hk)
   dsimp only
   omega
  have h2:In64 (az (az X (nt (fq (dg X Y 3128)))) [(8,rL (fq (dg X Y 3128)))]):=h1.put λp z=>by rw[au] at z;subst z;exact af
  have h3:In64 (az (az (az X (nt (fq (dg X Y 3128)))) [(8,rL (fq (dg X Y 3128)))]) (dg X Y 3128)):=h2.put λp z=>by
   obtain⟨i,-,-,rfl⟩:=G p z;exact ae i
  have h4:In64 (az (az (az (az X (nt (fq (dg X Y 3128)))) [(8,rL (fq (dg X Y 3128)))]) (dg X Y 3128)) [(8,0)]):=h3.put λp z=>by rw[au] at z;subst z;exact⟨Int.le_refl _,by decide⟩
  have Cr:(az (az X (nt (fq (dg X Y 3128)))) [(8,rL (fq (dg X Y 3128)))]).length=3128:=by rw[ct,ct,hX]
  -- the words under the journal are the same
  have W:∀k,(k<8\/816<=k)->(az (az X (nt (fq (dg X Y 3128)))) [(8,rL (fq (dg X Y 3128)))]).getD k 0=X.getD k 0:=λk hk=>by
   rw[dW _ _ _ λp z=>by rw[au] at z;subst z;show(8:Int).toNat≠k;rw[show(8:Int).toNat=8 from rfl];omega,dW _ _ _ λp z=>by have :=ai p z;omega]
  refine⟨V,ac,by rw[e,ct,ct,Cr],by rw[e];exact h4,?_,λk hk ah=> ?_⟩
  ·rw[e,oJ,show(8:Int).toNat=8 from rfl,jo _ _ _ _ (by rw[ct,Cr];omega),aB rfl]
  ·rw[e,dW _ _ _ λp z=>by rw[au] at z;subst z;show(8:Int).toNat≠k;rw[show(8:Int).toNat=8 from rfl];omega]
   -- the same puts over words that are the same there
   have aj:∀(ps:List (Int×Int)) (A B:List Int),A.length=3128->B.length=3128->A.getD k 0=B.getD k 0->(az A ps).getD k 0=(az B ps).getD k 0:=by
    intro ps;induction ps with
    |nil=>intro A B _ _ h;exact h
    |cons p ps ih=>
     intro A B hA hB h;show(az (A.set p.1.toNat p.2) ps).getD k 0=(az (B.set p.1.toNat p.2) ps).getD k 0;refine ih _ _ (by rw[cX,hA]) (by rw[cX,hB]) ?_;rcases dE p.1.toNat 3128 with z|z
     ·rw[jo _ _ _ _ (by omega),jo _ _ _ _ (by omega)]
      split
      ·rfl
      ·exact h
     ·rw[jf (by omega),jf (by omega)]
      exact h
   rw[aj _ _ X Cr hX (W k ah),U,aB hk]
theorem rA.journal(h:rA X T V own ex)(hl:Y.length=3128)(J:In64 Y)(hs:∀k,k<3128->(k<8\/816<=k)->Y.getD k 0=X.getD k 0):rA Y T V own ex/\pg X Y []:=by
 have z:∀k,(k<8\/816<=k)->Y.getD k 0=X.getD k 0:=λk G=>by
  rcases dE k 3128 with U|U
  ·exact hs k U G
  ·rw[aj,aP (by omega),aj,aP (by rw[h.len];omega)]
 have hu:(∀c,c<256->dF Y c=dF X c):=λc hc=>by
  unfold dF bw;rw[z _ (by omega)]
 have o7:pg X Y []:=λc _ _ _ _ j _=>z _ (by omega)
 exact⟨h.bits hl J (vP h.sup (λk G=>z k (by omega)) λk G _=>z k (by omega)) (λk G _=>z k (by omega)) (λi _ c _ j _=>z _ (by omega)) (λb W=>by rw[hu b W];exact h.once b W) h.exr λj hj=>h.tailsKeep o7 hj (by simp),o7⟩
theorem rA.nodes(h:rA X T V own ex)(hk:pg X Y l){j:Nat}(U:∀c∈dm (nT V j),c∉l):tK Y (nT V j)=tK X (nT V j):=by
 rcases h.vir j with G|G
 ·rcases h.gots.form j with ⟨h0,hj,J⟩|⟨-,J,-⟩
  ·rw[G] at U ⊢
   refine BN J.len (λhK=>(tL J.right hK).2) λc z k uR=> ?_
   have W:=h.rng hj (bX _ (by rw[G];exact z));exact hk c W.2 W.1 (h.used hj (bX _ (by rw[G];exact z))) (U c z) k uR
  ·rw[G,J];rfl
 ·rw[G];rfl
theorem rA.nodesUp{M:Nat->Nd}(h:StX X T own U)(J:∀i,M i=tK X (nT T i))(z:pg X Y l){i:Nat}(V:i<32)(G:∀j,j≠i->∀c∈dm (nT T j),c∉l)(n:bT):∀j,nv M i (tK Y n) j=tK Y (nT (nX T i n) j):=by
 intro j;rw[pX h.gots.len V];by_cases e:i=j
 ·subst e
  rw[nH,aB rfl]
 ·rw[dI _ _ (cY e),aA e,J]
  exact(h.nodes z (G j (cY e))).symm
theorem rA.filesOwn(h:StX X T own U){i:Nat}(V:i<32):∀j,∀c∈dm (nT T j),c∉own i:=λj c G z=>by
 rcases dE j 32 with J|J
 ·by_cases e:j=i
  ·subst e;exact h.inner J z G
  ·exact h.apart J V e (bX _ G) (bV _ z)
 ·rw[h.gots.zero J] at G
  have :dm cg=[]:=by decide
  rw[this] at G;simp at G
theorem OG (i:Nat)(h:i<3128):A5 B ps (i:Int)=(az B ps).getD i 0:=by
 unfold A5;rw[aB,aG]
structure tM (w:World) (b gp:Nat) (B:List Int) (ps:List (Int×Int)) (T:List (bT×Value)) (own:Nat->List Nat):Prop where
 st:gU w b gp B ps T own
 sup:lq (az B ps)
theorem tM.keep0(h:tM w b z B ps T own)(G:ay [] w w'):tM w' b z B ps T own:=⟨h.st.keep0 G,h.sup⟩
theorem De (h:tM w b z B ps T own)(i:Nat)(G:i<3128):
  Calls prog 127 #[b,(i:Int)] w λe w'=>e= .returned (.int .u64 ((az B ps).getD i 0))/\w=w':=by
 have :=pz h.st.sh (i:Int);rwa[OG i G] at this
theorem Tf (h:tM w b J B ps T own):
  Calls prog 121 #[b] w λe w'=>e=(decide ((az B ps).getD 2 0=32))/\w=w':=by
 have G:=ar (De h 2 (by omega));clear h;generalize (az B ps).getD 2 0=c at *;by_cases z:c=32
 ·subst z
  go_in;go_wp2_with fail;refine C' G.out ?_;go_wp2_with fail;go_ret;exact⟨rfl,rfl⟩
 ·have U:(c==32)=false:=by simpa using z
  rw[aQ z];clear z;go_in;go_wp2_with fail;refine C' G.out ?_;go_wp2_with fail;go_ret;exact⟨rfl,rfl⟩
theorem zg (h:tM w b G B ps T own):
  Calls prog 93 #[b] w λe w'=>e=((az B ps).getD 1 0:Int)/\w=w':=by
 have z:=ar (De h 1 (by omega));have J:=h.sup.2.1;clear h;generalize (az B ps).getD 1 0=t at *;rcases J with rfl|rfl
 ·go_in
  go_wp2_with fail;refine C' z.out ?_;go_wp2_with fail;go_ret;exact⟨rfl,rfl⟩
 ·go_in
  go_wp2_with fail;refine C' z.out ?_;go_wp2_with fail;go_ret;exact⟨rfl,rfl⟩
def cO (w:World) (b z:Nat) (B:List Int) (ps:List (Int×Int)) (m:Nat) (R:Int->List (Int×Int)->Prop) (e:Ending) (w':World):Prop:=
 ∃r qs h,e=(r:Int)/\(h=z\/(w.heap.size<=h/\h<w'.heap.size))/\eK w' b h B (ps++qs)/\ay [b,z] w w'/\qs.length<=m/\R r qs
def Df (X:List Int) (f r:Int) (qs:List (Int×Int)):Prop:=
 (r=1/\¬(f=1\/f=2)/\qs=[])\/(r=0/\(f=1\/f=2)/\((X.getD 1 0=f/\qs=[])\/(X.getD 1 0≠f/\qs=[(1,f),(2,0)])))
theorem cO.none{m:Nat}{R:Int->List (Int×Int)->Prop}{r:Int}(h:eK w b z B ps)(G:ay [] w w')(J:R r []):cO w b z B ps m R (.returned r) w':=
 ⟨r,[],z,rfl,.inl rfl,by rw[br];exact h.keep G (by simp) (by simp),G.mono (by simp),by simp,J⟩
theorem Zh (h:eK w b z B ps)(J:b<w.heap.size/\z<w.heap.size)(ac:ps.length<=700000)(f:Int)
  (G:Calls prog 93 #[b] w λe w'=>e=((az B ps).getD 1 0:Int)/\w=w'):
  Calls prog 47 #[b,f] w (cO w b z B ps 2 (Df (az B ps) f)):=by
 by_cases V:f=1\/f=2
 ·have HT:=ar G
  by_cases ht:(az B ps).getD 1 0=f
  ·have HF:Hid (cO w b z B ps 2 (Df (az B ps) f) (.returned (0:Int)) w):=cO.none h (ay.refl _ _) (.inr ⟨rfl,V,.inl ⟨ht,rfl⟩⟩)
   rw[ht] at HT;clear h J G ht;generalize Df (az B ps) f=R at *;rcases V with rfl|rfl
   ·go_in
    go_wp2_with fail;refine C' HT.out ?_;go_wp2_with fail;go_ret;exact HF.out
   ·go_in
    go_wp2_with fail;refine C' HT.out ?_;go_wp2_with fail;go_ret;exact HF.out
  ·have af:=ar (pA h (by omega) 1 f)
   have ml:Hid (∀w',(∃gI,(gI=z\/(w.heap.size<=gI/\gI<w'.heap.size))/\eK w' b gI B (ps++[(1,f),(2,0)])/\ay [b,z] w w')->cO w b z B ps 2 (Df (az B ps) f) (.returned (0:Int)) w'):=λw' ⟨gI,h1,h2,h3⟩=>
    ⟨0,_,gI,rfl,h1,h2,h3,by simp,.inr ⟨rfl,V,.inr ⟨ht,rfl⟩⟩⟩
   have zM:=ar ac;have aj:=J;have ak:=ar aj;clear h J G aj ac;generalize Df (az B ps) f=R,(az B ps).getD 1 0=t at *;have hw:IntKind.u64.wrap f=f:=by rcases V with rfl|rfl<;>rfl
   have hb:(t==f)=false:=by simpa using ht
   have mZ:Hid (∀w1 U,(U=z\/(w.heap.size<=U/\U<w1.heap.size))->eK w1 b U B (Ai ps 1 f)->Calls prog 48 #[b,(2:Int),.int .u64 0] w1 (jU w1 b U B (ps++[(1,f),(2,0)]))):=λw1 U hg hs=>by
    have e1:Ai ps 1 f=ps++[(1,f)]:=rfl;have e2:Ai (ps++[(1,f)]) 2 0=ps++[(1,f),(2,0)]:=by show(ps++[(1,f)])++[(2,0)]=_;rw[aV];rfl
    rw[e1] at hs;have :=pA hs (by rw[aC];have :=zM.out;simp;omega) 2 0;rwa[e2] at this
   rcases V with rfl|rfl
   all_goals
    go_in;go_wp2_with fail;refine C' HT.out ?_;go_wp2_with fail;refine Rr af.out ?_;rintro w1 ⟨U,W,ai,ag⟩;obtain⟨Cm,jK,ah⟩:=hh3 (mZ.out w1 U W ai) ag W;clear W ai ag mZ af;go_wp2_with fail;refine Rr Cm.out ?_;rintro w2 ⟨lS,au,ae,aa⟩;have HF:Hid (cO w b z B ps 2 R (.returned (0:Int)) w2):=ml.out w2 ⟨lS,by
     have h1:=ah.out;have h2:=jK.out.size;have h3:=aa.size;have h4:=ak.out;omega,ae,by
     refine jK.out.trans aa (λx hx=> ?_);have h1:=ah.out;simp only[aL,aK,bC] at hx ⊢;omega⟩
    clear au ae aa Cm ml;go_wp2_with fail;go_ret;exact HF.out
 ·have HF:Hid (cO w b z B ps 2 (Df (az B ps) f) (.returned (1:Int)) w):=cO.none h (ay.refl _ _) (.inl ⟨rfl,V,rfl⟩)
  have b1:(f==1)=false:=by simp;omega
  have b2:(f==2)=false:=by simp;omega
  have b3:(f != 1)=true:=by simp;omega
  have b4:(f != 2)=true:=by simp;omega
  clear h J G V;generalize Df (az B ps) f=R at *;go_in;go_wp2_with fail;go_ret;exact HF.out
theorem aeD (h:tM w b G B ps T own)(z:ps.length<=700000)(f:Int):
  Calls prog 47 #[b,f] w (cO w b G B ps 2 (Df (az B ps) f)):=Zh h.st.sh h.st.lt z f (zg h)
theorem OH (h:eK w b J B ps)(G:(az B ps).getD 1 0=0):
  Calls prog 93 #[b] w λe w'=>e=((az B ps).getD 1 0:Int)/\w=w':=by
 have z:=pz h 1;rw[show(1:Int)=((1:Nat):Int) from rfl,OG 1 (by omega),G] at z;have z:=ar z;rw[G];clear h G;go_in;go_wp2_with fail;refine C' z.out ?_;go_wp2_with fail;go_ret;exact⟨rfl,rfl⟩
def Tg (w:World) (b:Nat) (t:Int) (e:Ending) (w':World):Prop:=
 ∃h z,e= .returned (.func (.func 188) #[] #[(h:Nat),(z:Nat)])/\w.heap.size<=h/\w.heap.size<=z/\bh w' h #[b] 50/\bh w' z #[t] 3/\ay [] w w'
theorem OI{U:Nat}(h:tM w b U B ps T own):
  Calls prog 160 #[b] w (Tg w b ((az B ps).getD 1 0)):=by
 have G:ay [] w (w.alloc (.cells #[b] 50)):=(ay.refl _ _).alloc _;have z:=bh.new w #[b] 50;have c0:(w.alloc (.cells #[b] 50)).cell? w.heap.size=some (.pointer (some ⟨b,0,none⟩)):=by rw[z.cell];rfl
 have V:=ar (zg (h.keep0 G));have HF:Hid (∀t,Tg w b t (.returned (.func (.func 188) #[] #[w.heap.size,(w.heap.size+1:Nat)])) ((w.alloc (.cells #[b] 50)).alloc (.cells #[(t:Int)] 3))):=λt=>by
  have W:=aX w (.cells #[b] 50);have J:=bh.new (w.alloc (.cells #[b] 50)) #[(t:Int)] 3;rw[W] at J;refine⟨w.heap.size,w.heap.size+1,rfl,aH _,by omega,?_,J,?_⟩
  ·exact z.keep ((ay.refl [] _).alloc _) (by simp)
  ·exact G.alloc _
 clear h z G;generalize (az B ps).getD 1 0=t at *;go_in;go_wp2_with fail;refine C' V.out ?_;go_wp2_with fail;go_ret;exact HF.out t
theorem LS (h:gU w b gp B ps T own){bs bt:Nat}{t:Int}(hs:bh w bs #[b] 50)(ht:bh w bt #[t] 3){i:Nat}(hi:i<32):
  Calls prog 188 #[(i:Int),bs,bt] w (dt w (¬dR (az B ps) (i:Int)/\(nT T i).F≠t)):=by
 have hG:=h.get hi;unfold za at hG;have HG:=ar hG;have c0:w.cell? bs=some (.pointer (some ⟨b,0,none⟩)):=by rw[hs.cell];rfl
 have af:Hid (∀w',ay [] w w'->w'.cell? bt=some (.int .i64 t)):=λw' hk=>by rw[(ht.keep hk (by simp)).cell];rfl
 have HP:Hid (∀(r:Bool) w',(r=true↔¬dR (az B ps) (i:Int)/\(nT T i).F≠t)->ay [] w w'->dt w (¬dR (az B ps) (i:Int)/\(nT T i).F≠t) (.returned (.bool r)) w'):=λr w' G V=>⟨r,rfl,G,V⟩
 have J:Hid ((nT T i).F≠0->¬dR (az B ps) (i:Int)):=λG V=>by
  rcases h.gots.form i with ⟨-,-,h3⟩|⟨h3,-⟩
  ·exact h3.notFree V
  ·exact G h3
 have rG:=dz;clear h hs ht hG;generalize dR (az B ps) (i:Int)=fP,nT T i=n,ae:aM cg (.slice none 0 0)=Z0 at *;have Fh:Hid (Z0.size=18):=by show _=_;rw[<-ae];rfl
 clear ae;go_in;go_wp2_with fail;refine HG.out.mono ?_;rintro e w1 ⟨v,g,va,ga,r,rfl,hB,hE,hg,-,-,aa,hr⟩;obtain⟨U,p1,p2,p3⟩:=cu (n:=n) (v:=v) (bh.new w1 Z0 111) Fh.out hB hE.one;have W:ay [] w U:=(aa.alloc _).trans p3 (by intro x hx;rw[au] at hx;have :=aa.size;omega);have jz:=ar p1;have c1:U.cell? w1.heap.size=some (.int .i64 n.F):=by rw[p2.cell];exact(gG v hB).f0
 have c2:=af.out U W;have fx:=ar W;clear p1 p2 p3 W hE hg aa HG af hB;generalize aM n v=ZN at *;by_cases V:r=2
 ·subst V
  have HF:Hid (dt w (¬fP/\n.F≠t) (.returned false) U):=HP.out false U ⟨(λh=>by cases h),λh=>by
   rcases hr with ⟨G,-⟩|⟨-,-,G⟩|⟨G,-⟩
   ·omega
   ·exact absurd G h.1
   ·omega⟩ fx.out
  clear hr HP J;generalize n.F=f at *;go_wp2_with(first|(with_reducible refine gS 111 jz.out ?_));go_ret;exact HF.out
 ·have ac:¬fP:=by
   rcases hr with ⟨-,G⟩|⟨G,-⟩|⟨-,-,G⟩
   ·exact J.out G
   ·exact absurd G V
   ·exact G
  have b2:(r != 2)=true:=by simpa using V
  clear hr V;by_cases z:n.F=t
  ·have HF:Hid (dt w (¬fP/\n.F≠t) (.returned false) U):=HP.out false U ⟨(λh=>by cases h),λh=>absurd z h.2⟩ fx.out
   have bf:(n.F != t)=false:=by simpa using z
   clear HP J z ac;generalize n.F=f at *;go_wp2_with(first|(with_reducible refine gS 111 jz.out ?_));go_ret;exact HF.out
  ·have HF:Hid (dt w (¬fP/\n.F≠t) (.returned true) U):=HP.out true U ⟨λ_=>⟨ac,z⟩,λ_=>rfl⟩ fx.out
   have bf:(n.F != t)=true:=by simpa using z
   clear HP J z ac;generalize n.F=f at *;go_wp2_with(first|(with_reducible refine gS 111 jz.out ?_));go_ret;exact HF.out
theorem ab7 (h:tM w b gp B ps T own)(hT:∀z,ay [b,gp] w z->lD z)(ae:ps.length<=700000){i:Nat}(hi:i<32)(hF:(nT T i).F≠0):
  Calls prog 161 #[b,(i:Int)] w (cO w b gp B ps 700 (nV (az B ps) (i:Int) { nT T i with F:=(az B ps).getD 1 0 })):=by
 have hG:=h.st.get hi;unfold za at hG;obtain⟨HG,UR⟩:=hh2 hG (λz (U:ay [] w z)=>zg (h.keep0 U));have LU:Hid (∀z v g,ay [] w z->bD z v g (nT T i).E->w.heap.size<=g->Calls prog 49 #[b,(i:Int),.agg (aM { nT T i with F:=(az B ps).getD 1 0 } v)] z (mL z b gp B ps (i:Int) { nT T i with F:=(az B ps).getD 1 0 })):=λz v g U W hg=>by
  have af:eH (az B ps) (i:Int) (nT T i) (own i):=by
   rcases h.st.gots.form i with ⟨-,-,h1⟩|⟨h1,-⟩
   ·exact h1
   ·exact absurd h1 hF
  have ak:=h.st.lt;exact sG (h.st.sh.keep U (by simp) (by simp)) h.st.w64 (λwy hy=>hT wy ((U.mono (by simp)).trans' hy)) (by have :=U.size;omega) ae (i:Int) { nT T i with F:=(az B ps).getD 1 0 } v g af.len W (show ∀k,k<(nT T i).E.length->(eX (nT T i).E k).size<=9223372036854775807 from yr af.right) (λ_=>by omega)
 have ml:Hid (∀z,ay [] w z->∀e w',mL z b gp B ps (i:Int) { nT T i with F:=(az B ps).getD 1 0 } e w'->∃r,e=(r:Int)/\cO w b gp B ps 700 (nV (az B ps) (i:Int) { nT T i with F:=(az B ps).getD 1 0 }) e w'):=λz U e w' ⟨r,qs,gI,h1,h2,h3,h4,h5,h6⟩=>
  ⟨r,h1,r,qs,gI,h1,by have :=U.size;omega,h3,(U.mono (by simp)).trans' h4,h5,h6⟩
 have Qy:=ar hF;have rG:=dz;clear h hF hT ae hG;generalize mL=PI,nV (az B ps) (i:Int) { nT T i with F:=(az B ps).getD 1 0 }=R at *;generalize (az B ps).getD 1 0=t,nT T i=n,ah:aM cg (.slice none 0 0)=Z0 at *;have Fh:Hid (Z0.size=18):=by show _=_;rw[<-ah];rfl
 clear ah;go_in;go_wp2_with fail;refine HG.out.mono ?_;rintro e G ⟨v,g,va,ga,r,rfl,hB,W,hg,-,-,J,hr⟩;have LG:r=0:=by
  have :=Qy.out;omega
 subst LG;clear hr;obtain⟨V,p1,p2,p3⟩:=cu (n:=n) (v:=v) (bh.new G Z0 111) Fh.out hB W.one;have ac:ay [] w V:=(J.alloc _).trans p3 (by intro x hx;rw[au] at hx;have :=J.size;omega);have jz:=ar p1;have Mn:bD V v g n.E:=W.keep ((((ay.refl [] G).alloc _).mono (by simp)).trans' p3) (λh0=>W.apart (l:=[G.heap.size]) (λx hx=>by rw[au] at hx;omega) h0);have ai:=abW p2 t;have aa:ay [G.heap.size] V (V.setCell ⟨G.heap.size,0,none⟩ (.int .i64 t)):=(ay.refl _ _).setCell (.inl (by simp)) _;have nE:ay [] w (V.setCell ⟨G.heap.size,0,none⟩ (.int .i64 t)):=ac.trans aa (by intro x hx;rw[au] at hx;have :=J.size;omega);have vE:=ar (b9 ai (by exact hB));have S5:n.E.length≠0->g∉[G.heap.size]:=λh0=>W.apart (l:=[G.heap.size]) (λx hx=>by rw[au] at hx;omega) h0
 obtain⟨BC,IB,VO⟩:=hh3 (LU.out _ v g nE (Mn.keep aa S5) hg) (ml.out _ nE) (UR.out V ac);have oQ:Hid (∃c,V.heap[G.heap.size]? =c):=⟨_,rfl⟩;have aj:V.cell? G.heap.size=some (.int .i64 n.F):=by rw[p2.cell];exact(gG v hB).f0
 have mZ:=ar p2;clear p1 p3 ac Mn W hg J HG LU ml UR ai aa nE S5 p2;generalize aM n v=ZN,aM { n with F:=t } v=ZT at *;go_wp2_with(first|(with_reducible refine gS 111 jz.out ?_));refine C' VO.out ?_;have pq:=mZ.out.frozen;go_wp2_with(first|(with_reducible refine gL 111 vE.out ?_));refine BC.out.mono ?_;intro e w4 ag;obtain⟨r,rfl,hf⟩:=IB.out e w4 ag;have HF:=ar hf;clear hf ag BC IB;go_wp2_with fail;go_ret;exact HF.out
def ra (X:List Int) (T:List (bT×Value)) (r:Int) (qs:List (Int×Int)):Prop:=
 (X.getD 2 0=32/\r=0/\qs=[])\/∃c:Nat,X.getD 2 0=(c:Int)/\c<32/\
  ((¬(¬dR X (c:Int)/\(nT T c).F≠X.getD 1 0)/\r=0/\qs=[(2,(c:Int)+1)])\/
  ((¬dR X (c:Int)/\(nT T c).F≠X.getD 1 0)/\∃z h,nV X (c:Int) { nT T c with F:=X.getD 1 0 } z h/\((z≠0/\r=z/\qs=h)\/(z=0/\r=0/\qs=h++[(2,(c:Int)+1)]))))
theorem ab8 (h:tM w b J B ps T own)(hA:wU (az B ps) T)(hT:∀wx,ay [b,J] w wx->lD wx)(aH:ps.length<=600000):
  Calls prog 120 #[b] w (cO w b J B ps 701 (ra (az B ps) T)):=by
 obtain⟨HD,au⟩:=hh2 (Tf h) (De h 2 (by omega));have aM:=h.sup.2.2.1;have aA:0<=(az B ps).getD 2 0:=(h.st.w64 2).1;by_cases hc:(az B ps).getD 2 0=32
 ·have HF:Hid (cO w b J B ps 701 (ra (az B ps) T) (.returned (0:Int)) w):=cO.none h.st.sh (ay.refl _ _) (.inl ⟨hc,rfl,rfl⟩)
  rw[bu hc] at HD;clear h hA hT aH au aM aA hc;generalize ra (az B ps) T=R at *;go_in;go_wp2_with fail;refine C' HD.out ?_;go_wp2_with fail;go_ret;exact HF.out
 ·rw[aQ hc] at HD
  obtain⟨c,aa⟩:∃c:Nat,(az B ps).getD 2 0=(c:Int):=⟨((az B ps).getD 2 0).toNat,by omega⟩;have Hs:c<32:=by omega
  have HU:=ar (OI h);have aF:Hid (∀z bs bt,ay [] w z->bh z bs #[b] 50->bh z bt #[((az B ps).getD 1 0:Int)] 3->Calls prog 188 #[(c:Int),(bs:Nat),(bt:Nat)] z (dt z (¬dR (az B ps) (c:Int)/\(nT T c).F≠(az B ps).getD 1 0))):=λz bs bt hk h1 h2=>
   LS (h.st.keep0 hk) h1 h2 Hs
  have ax:Hid ((¬dR (az B ps) (c:Int)/\(nT T c).F≠(az B ps).getD 1 0)->∀wx,ay [] w wx->Calls prog 161 #[b,(c:Int)] wx (cO wx b J B ps 700 (nV (az B ps) (c:Int) { nT T c with F:=(az B ps).getD 1 0 }))):=λV wx hk=>
   ab7 (h.keep0 hk) (λwy hy=>hT wy ((hk.mono (by simp)).trans' hy)) (by omega) Hs (by
    rcases hA c Hs with h1|h1
    ·exact absurd h1 V.1
    ·exact h1)
  have C4:Hid (∀z kX qs,qs.length<=700->eK z b kX B (ps++qs)->Calls prog 48 #[b,(2:Int),.int .u64 ((c:Int)+1)] z (jU z b kX B (ps++(qs++[(2,(c:Int)+1)])))):=λz kX qs hq hs=>by
   have :=pA hs (by rw[aC];omega) 2 ((c:Int)+1);rwa[show Ai (ps++qs) 2 ((c:Int)+1)=ps++(qs++[(2,(c:Int)+1)]) by show(ps++qs)++[(2,(c:Int)+1)]=_;rw[aV]] at this
  have vZ:Hid (∀wx,ay [] w wx->eK wx b J B (ps++[])):=λwx hk=>by rw[br];exact h.st.sh.keep hk (by simp) (by simp)
  have ak:Hid (¬(¬dR (az B ps) (c:Int)/\(nT T c).F≠(az B ps).getD 1 0)->ra (az B ps) T 0 ([]++[(2,(c:Int)+1)])):=λV=> .inr ⟨c,aa,Hs,.inl ⟨V,rfl,rfl⟩⟩
  have ah:Hid ((¬dR (az B ps) (c:Int)/\(nT T c).F≠(az B ps).getD 1 0)->∀r qs,nV (az B ps) (c:Int) { nT T c with F:=(az B ps).getD 1 0 } r qs->r≠0->ra (az B ps) T r qs):=λV r qs h1 h2=> .inr ⟨c,aa,Hs,.inr ⟨V,r,qs,h1,.inl ⟨h2,rfl,rfl⟩⟩⟩
  have ag:Hid ((¬dR (az B ps) (c:Int)/\(nT T c).F≠(az B ps).getD 1 0)->∀qs,nV (az B ps) (c:Int) { nT T c with F:=(az B ps).getD 1 0 } 0 qs->ra (az B ps) T 0 (qs++[(2,(c:Int)+1)])):=λV qs h1=> .inr ⟨c,aa,Hs,.inr ⟨V,0,qs,h1,.inr ⟨rfl,rfl,rfl⟩⟩⟩
  have aB:=h.st.lt;have EX:=ar aB;have ml:Hid (∀G U W qs,ay [b,J] w G->(W=J\/(w.heap.size<=W/\W<G.heap.size))->qs.length<=700->ra (az B ps) T 0 (qs++[(2,(c:Int)+1)])->(∃Rm,(Rm=W\/(G.heap.size<=Rm/\Rm<U.heap.size))/\eK U b Rm B (ps++(qs++[(2,(c:Int)+1)]))/\ay [b,W] G U)->cO w b J B ps 701 (ra (az B ps) T) (.returned (0:Int)) U):=λG U W qs hk hg hq hr ⟨Rm,h1,h2,h3⟩=>by
   have h4:=hk.size;have h5:=h3.size;refine⟨0,_,Rm,rfl,by omega,h2,hk.trans h3 (λx hx=> ?_),by rw[aC];simp;omega,hr⟩;simp only[aL,aK,bC] at hx ⊢;omega
  have Ny:Hid (∀z G r,ay [] w z->(∃qs W,(W=J\/(z.heap.size<=W/\W<G.heap.size))/\eK G b W B (ps++qs)/\ay [b,J] z G/\qs.length<=700/\ra (az B ps) T r qs)->cO w b J B ps 701 (ra (az B ps) T) (.returned (r:Int)) G):=λz G r hk ⟨qs,W,h1,h2,h3,h4,h5⟩=>by
   have h6:=hk.size;exact⟨r,qs,W,rfl,by omega,h2,(hk.mono (by simp)).trans' h3,by omega,h5⟩
  have aP:IntKind.i64.wrap (c:Int)=(c:Int):=by rw[cz];omega
  rw[aa] at au;have WS:Hid (IntKind.i64.wrap ((c:Int)+1)=(c:Int)+1/\IntKind.u64.wrap ((c:Int)+1)=(c:Int)+1):=⟨by rw[cz];omega,by rw[fY];omega⟩;clear h hA hT aH aM aA hc aa aB Hs;generalize ra (az B ps) T=R,nV (az B ps) (c:Int) { nT T c with F:=(az B ps).getD 1 0 }=RP,(¬dR (az B ps) (c:Int)/\(nT T c).F≠(az B ps).getD 1 0)=pP at *;generalize (az B ps).getD 1 0=t,PC:(c:Int)=ci at *;clear PC;go_in;go_wp2_with fail;refine C' HD.out ?_;go_wp2_with fail;refine C' au.out ?_;go_wp2_with fail;refine HU.out.mono ?_;rintro e z ⟨bs,bt,rfl,-,-,aJ,aG,aj⟩;obtain⟨aI,jK⟩:=hh2 (aF.out z bs bt aj aJ aG) aj;clear aj aJ aG HU aF;go_wp2_with fail;refine aI.out.mono ?_;rintro e G ⟨r,rfl,hr,aD⟩;have fx:=ar (jK.out.trans' aD);clear aD aI jK;cases r with
  |false=>
   obtain⟨HN,HP⟩:=hh2 (ak.out λV=>by have :=hr.2 V;cases this) (C4.out G J [] (by simp) (vZ.out G fx.out));have Zd:=ar (λU=>ml.out G U J [] (fx.out.mono (by simp)) (.inl rfl) (by simp) HN.out);have ai:=WS.out;obtain⟨ai,aO⟩:=ai;clear hr ak ah ag ax C4 ml Ny vZ HN WS;go_wp2_with fail;refine Rr HP.out λU hx=> ?_;have HF:=ar (Zd.out U hx);clear hx HP Zd;go_wp2_with fail;go_ret;exact HF.out
  |true=>
   have V:pP:=hr.1 rfl;obtain⟨VO,HE,BC⟩:=hh3 (ax.out V G fx.out) (ah.out V) (ag.out V);clear hr ak ah ag ax vZ V;go_wp2_with fail;refine VO.out.mono ?_;rintro e U ⟨r,qs,Rm,rfl,av,ac,af,SK,ae⟩;by_cases h0:r=0
   ·subst h0
    have HP:=ar (C4.out U Rm qs SK ac);have hz:=fx.out.size;have aN:ay [b,J] w U:=(fx.out.mono (by simp)).trans' af;have Zd:=ar (λw4=>ml.out U w4 Rm qs aN (by omega) SK (BC.out qs ae));obtain⟨ai,aO⟩:=WS.out;clear av ac af SK ae hz aN HE BC VO C4 ml Ny WS;go_wp2_with fail;refine Rr HP.out λw4 hx=> ?_;have HF:=ar (Zd.out w4 hx);clear hx HP Zd;go_wp2_with fail;go_ret;exact HF.out
   ·have HF:Hid (cO w b J B ps 701 R (.returned (r:Int)) U):=Ny.out G U r fx.out ⟨qs,Rm,av,ac,af,SK,HE.out r qs ae h0⟩
    have b0:(r==0)=false:=by simpa using h0
    clear av ac af SK ae HE BC VO C4 ml Ny WS h0;go_wp2_with fail;go_ret;exact HF.out
end
end Go.Proofs.YtepbpdipenedhaaGreatDoor
