/- Lemmas. -/
import Derived.Test.YtimcfdnbpkiniaaGreatDoorM21
import Derived.Maps.OwnOps
import Derived.Maps.Views
set_option maxHeartbeats 4000000
set_option maxRecDepth 100000
namespace Go.Proofs.YtimcfdnbpkiniaaGreatDoor
open Go.Proofs.Tryz
section
open Go.RowKit Go.Maps
variable{w w':World}{B X Y f xs:List Int}{G J b g gf gl gn gp k z:Nat}{D:DataW Unit}{ps qs:List (Int×Int)}{d:Int}{U ks l:List Nat}{v:Value}{R:Nat->World->Prop}{F:Int->World->Prop}{T V:List (bT×Value)}{own:Nat->List Nat}
theorem zf:Keyed prog 3 :=int_keyed underlying3
theorem Hr (w:World):(zeroValue 3).run prog w= .ok (.int .i64 0) w:=by kernel_rfl
structure zY (w:World) (B k:Nat) (f:List Int) (D:DataW Unit):Prop where
 own:w.ownsMap prog 3 (plainElem prog 3) B k D
 map:IsMap D
 get:∀q:Int,D.atKey (.int .i64 q) (.lit (.int .i64 0))= .lit (.int .i64 (if q∈f then 1 else 0))
theorem zY.keep{B:Nat}(h:zY w B k f D){l:List Nat}(J:ay l w w')(hb:B∉l):zY w' B k f D:=by
 refine⟨?_,h.map,h.get⟩;have G:=h.own.lt;obtain⟨es,z,U,h2,W,V⟩:=h.own;exact⟨es,z,(J.block B G hb).trans U,h2,W,V⟩
theorem zY.skip{B:Nat}(h:zY w B k f D){q:Int}(z:q∈f):zY w B (k+1) (f++[q]) D:=by
 refine⟨h.own.mono (by omega),h.map,λx=> ?_⟩;rw[h.get];have :x∈f++[q]↔x∈f:=by simp;rintro rfl;exact z
 simp only[this]
theorem zY.put{B:Nat}(h:zY w B k f D){q:Int}(z:w'.ownsMap prog 3 (plainElem prog 3) B (k+1) (D.put (.int .i64 q) (.lit (.int .i64 1)))):
  zY w' B (k+1) (f++[q]) (D.put (.int .i64 q) (.lit (.int .i64 1))):=by
 refine⟨z,h.map.put _ _,λx=> ?_⟩;by_cases e:x=q
 ·subst e
  rw[atKey_put_same h.map (show WideAt.IsKeyLit (.int .i64 x) from trivial),aB (by simp)]
 ·rw[atKey_put_other (by intro h;cases h;exact e rfl),h.get]
  have :x∈f++[q]↔x∈f:=by simp[e]
  simp only[this]
theorem Jb (h:fx w b gn gl gf (iC xs ps qs d))(U:0<=d)(J:d<4611686018427387904)(i x:Int)(G:0<=i)(z:i<xs.length):
  Calls prog 106 #[b,i] w λe w'=>e=(0:Int)/\fx w' b gn gl gf (iC xs ps (qs++[(i,x)]) (d+1))/\ay [b,gn,gl,gf] w w':=by
 have :=Mx h (yE _ _ _ _ U J) i;rw[mO G z,I9 _ _ _ _ _ x G z] at this;exact this
theorem Jc (h:fx w b gn gl gf (iC xs ps [] d))(U:0<=d)(J:d<4611686018427387904)(i x:Int)(G:0<=i)(z:i<xs.length):
  Calls prog 105 #[b,i,.int .u64 x] w λe w'=>e=(0:Int)/\fx w' b gn gl gf (iC xs (ps++[(i,x)]) [] (d+1))/\ay [b,gn,gl,gf] w w':=by
 have :=Mw h (yE _ _ _ _ U J) i x;rw[mO G z,I8 _ _ _ _ _ G z] at this;exact this
theorem fx.old{s:kp}(h:fx w b gn gl gf s)(z:s.now.length≠0):b<w.heap.size/\gn<w.heap.size/\gl<w.heap.size/\gf<w.heap.size:=by
 obtain⟨J,U,G,a,c,d,e⟩:=h.at_;exact⟨a.lt,(c.cell z).1,(d.cell z).1,(e.cell (by omega)).1⟩
def Tf (w:World) (ks:List Nat) (R:World->Prop) (F:Int->World->Prop) (e:Ending) (w':World):Prop:=
 ∃y,e=(y:Int)/\ay ks w w'/\((y=0/\R w')\/(y≠0/\F y w'))
theorem aeG (hr:lQ w v g qs)(hq:Mv qs 100000)(hn:qs.length<=1000)(hg:qs.length≠0->g∉ks)(ai:∀y∈ks,y<w.heap.size)
  (hR:∀k wa wb l,(∀y∈l,w.heap.size<=y)->ay l wa wb->R k wa->R k wb) (h0:R 0 w)
  (Oz:∀k G,k<qs.length->R k G->iQ qs k/8∈iA (qs.take k)->R (k+1) G)
  (ah:∀k G,k<qs.length->R k G->¬iQ qs k/8∈iA (qs.take k)->Calls prog 106 #[b,(iQ qs k:Int)] G (Tf G ks (R (k+1)) F)):
  Calls prog 133 #[b,v] w (Tf w ks (R qs.length) F):=by
 obtain⟨HR,HQ,HG,ag,ak,Vl,aD⟩:=hh7 hr hq hg hR Oz ah (hR 0 w _ [] (by simp) ((ay.refl [] w).alloc (.map #[] 0)) h0);obtain⟨a,cap,rfl,h1,h2⟩:=hr.val;unfold maxLen at h2;have HB:Hid (w.heap.size∉ks):=λhm=>by have :=ai _ hm;omega
 have aG:= @run_makeMap prog;clear hr hq hg hR Oz ah h0 ai;go_in;go_wp2_with fail;go_loopg [13] qs.length (λgh s13 G=>∃k:Nat,k+gh=qs.length/\s13= .int .i64 (k:Int)/\
  Hid ((∃D,zY G w.heap.size k ((iA qs).take k) D)/\R k G/\ay ks w G))
 case atStart=>
  exact⟨0,by omega,rfl,⟨.map [],World.ownsMap_made _ _ _ _,isMap_empty,λq=>by simp[DataW.atKey]⟩,aD.out,(ay.refl _ _).alloc _⟩
 case round=>
  obtain⟨k,hk,rfl,HI⟩:=hrel;cases gk with
  |zero=>
   obtain rfl:k=qs.length:=by omega
   have aC:¬(qs.length:Int)<(qs.length:Int):=by omega
   have HE:Hid (Tf w ks (R qs.length) F (.returned (0:Int)) wr):=⟨0,rfl,HI.out.2.2,.inl ⟨rfl,HI.out.2.1⟩⟩;go_wp2_with fail;go_ret;exact HE.out
  |succ gg=>
   have aC:(k:Int)<(qs.length:Int):=by omega
   obtain⟨⟨D,hD⟩,hp,fV⟩:=HI.out;have au:=HG.out (by omega);obtain⟨aF,off,rfl,c0,c1⟩:=(HR.out.keep fV (λ_=>au)).get (j:=k) (by omega);obtain⟨x0,x1⟩:=yO HQ.out (k:=k) (by omega);obtain⟨HS,aH⟩:=hh2 (KH qs k (by omega)) fV.size;have ug:Hid (∀G,ay [] wr G->R k G):=λG hk=>ag.out k wr G [] (by simp) hk hp
   have av:Hid (iQ qs k/8∈(iA qs).take k->∀G,R k G->R (k+1) G):=λhm G h=>ak.out k G (by omega) h (by rw[<-nN];exact hm)
   have aj:Hid (¬iQ qs k/8∈(iA qs).take k->∀G,R k G->Calls prog 106 #[b,(iQ qs k:Int)] G (Tf G ks (R (k+1)) F)):=λhm G h=>Vl.out k G (by omega) h (by rw[<-nN];exact hm)
   generalize iQ qs k=x,l9 qs k=y at *;obtain⟨HD,jr⟩:=hh2 hD fV;have ae:keyOf prog 3 (.int .i64 (x/8))=some (.int .i64 (x/8)):=keyOf_int_mk underlying3 (WalkArith.wf_i64 (by omega));have U:=ar ae;clear hD hp fV au HI ae ak Vl;generalize (iA qs).take k=f at *;by_cases hm:x/8∈f
   ·have HM:=ar hm
    clear hm;go_wp2_with(at_lookup;refine wpList_lookup_own_int _ rfl _ _ 217 rfl 3 3 .i64 zf underlying217 underlying3 (Hr _) w.heap.size k _ rfl (HD.out.own.alloc _) _ _ rfl U.out ?_;intro c J W;(obtain rfl:c=1:=by(rw[HD.out.get,aB HM.out] at J;cases J;rfl));clear J W);go_roundg gg;case measure=>omega
    case rel=>
     refine⟨k+1,by omega,by go_num,⟨D,?_⟩,av.out HM.out _ (ug.out _ ((ay.refl [] _).alloc _)),jr.out.alloc _⟩;rw[HS.out];exact(HD.out.skip HM.out).keep ((ay.refl [] _).alloc _) (by simp)
   ·have HM:=ar hm
    clear hm;go_wp2_with(at_lookup;refine wpList_lookup_own_int _ rfl _ _ 217 rfl 3 3 .i64 zf underlying217 underlying3 (Hr _) w.heap.size k _ rfl (HD.out.own.alloc _) _ _ rfl U.out ?_;intro c J W;(obtain rfl:c=0:=by(rw[HD.out.get,aA HM.out] at J;cases J;rfl));clear J W);refine(aj.out HM.out _ (ug.out _ ((ay.refl [] _).alloc _))).mono ?_;rintro e w2 ⟨z,rfl,V,⟨rfl,aa⟩|⟨hz,aa⟩⟩
    ·have mA:=ar aa
     obtain⟨ac,fo⟩:=hh2 ((HD.out.keep ((ay.refl [] _).alloc _) (by simp)).keep V HB.out) ((jr.out.alloc _).trans' V);clear aa V;go_wp2_with(first|(at_lookup;refine wpList_lookup_own_int _ rfl _ _ 217 rfl 3 3 .i64 zf underlying217 underlying3 (Hr _) w.heap.size k _ rfl ac.out.own _ _ rfl U.out ?_;intro c J W;(obtain rfl:c=0:=by(rw[ac.out.get,aA HM.out] at J;cases J;rfl));clear J W)|(at_mapUpdate;refine wpList_mapUpdate_own _ rfl _ _ _ 217 rfl 3 3 zf underlying217 _ w.heap.size k _ rfl ac.out.own (by unfold maxLen;omega) _ _ _ rfl rfl U.out (.lit (.int .i64 1)) [] (plainElem_int underlying3 (by decide)) ?_;intro w3 ax Zg));have az:=ar (ac.out.put ax);have af:ay [w.heap.size] w2 w3:=ay.of_grown Zg (by intro q hq;cases hq;simp);obtain⟨Ct,oI⟩:=hh2 (ag.out (k+1) w2 w3 [w.heap.size] (by simp) af mA.out) (fo.out.trans af (by simp));clear ax Zg af;go_wp2_with fail;go_roundg gg;case measure=>omega
     case rel=>
      refine⟨k+1,by omega,by go_num,⟨D.put (.int .i64 (x/8)) (.lit (.int .i64 1)),?_⟩,Ct.out,oI.out⟩;rw[HS.out];exact az.out
    ·have HE:Hid (Tf w ks (R qs.length) F (.returned z) w2):=⟨z,rfl,(jr.out.alloc _).trans' V,.inr ⟨hz,aa⟩⟩
     have hb:(z != 0)=true:=by simpa using hz
     clear aa V aj av ag;go_wp2_with fail;go_ret;exact HE.out
theorem acb{S:Nat->World->Prop}{T:World->Prop}(hr:lQ w v g ps)(hq:Mv ps 100000)(hn:ps.length<=1000)(hg:ps.length≠0->g∉ks)(af:∀y∈ks,y<w.heap.size)
  (hS:∀k wa V,ay [] wa V->S k wa->S k V) (h0:S 0 w)
  (ag:∀k h,k<ps.length->S k h->Calls prog 105 #[b,(iQ ps k:Int),.int .u64 (l9 ps k)] h (Tf h ks (S (k+1)) F))
  (hR:∀k wa V l,(∀y∈l,w.heap.size<=y)->ay l wa V->R k wa->R k V) (h1:∀h,S ps.length h->R 0 h)
  (Oz:∀k h,k<ps.length->R k h->iQ ps k/8∈iA (ps.take k)->R (k+1) h)
  (ae:∀k h,k<ps.length->R k h->¬iQ ps k/8∈iA (ps.take k)->Calls prog 106 #[b,(iQ ps k:Int)] h (Tf h ks (R (k+1)) F))
  (ah:∀h,R ps.length h->Calls prog 107 #[b] h (Tf h ks T F)):
  Calls prog 80 #[b,v] w (Tf w ks T F):=by
 obtain⟨HR,HQ,HG,Ub,U,Ny,aj⟩:=hh7 hr hq hg hS ag ah h0;have aa:Hid (∀h,ay ks w h->S ps.length h->Calls prog 133 #[b,v] h (Tf h ks (R ps.length) F)):=λh hk hs=>
  aeG (hr.keep hk hg) hq hn hg (λy hy=>by have :=af y hy;have :=hk.size;omega) (λk wa V l hl=>hR k wa V l λy hy=>by have :=hl y hy;have :=hk.size;omega) (h1 h hs) Oz ae
 obtain⟨a,cap,rfl,ak,h2⟩:=hr.val;unfold maxLen at h2;clear hr hq hg hS ag hR h1 Oz ae ah h0 af;go_in;go_wp2_with fail;go_loopg [11] ps.length (λgh K3 h=>∃k:Nat,k+gh=ps.length/\K3= .int .i64 (k:Int)/\Hid (S k h/\ay ks w h))
 case atStart=>exact⟨0,by omega,rfl,aj.out,ay.refl _ _⟩
 case round=>
  obtain⟨k,hk,rfl,HI⟩:=hrel;cases gk with
  |zero=>
   obtain rfl:k=ps.length:=by omega
   have ai:¬(ps.length:Int)<(ps.length:Int):=by omega
   obtain⟨HF,HK⟩:=hh2 (aa.out _ HI.out.2 HI.out.1) HI.out.2;clear HI aa Ub U;go_wp2_with fail;refine HF.out.mono ?_;rintro e w2 ⟨z,rfl,J,⟨rfl,G⟩|⟨hz,G⟩⟩
   ·have Zh:=ar (Ny.out _ G)
    have fo:=ar (HK.out.trans' J);clear G J HF Ny;go_wp2_with fail;refine Zh.out.mono ?_;rintro e w3 ⟨z,rfl,ac,h3⟩;have HE:Hid (Tf w ks T F (.returned z) w3):=⟨z,rfl,fo.out.trans' ac,h3⟩;clear ac h3 Zh;go_wp2_with fail;go_ret;exact HE.out
   ·have HE:Hid (Tf w ks T F (.returned z) w2):=⟨z,rfl,HK.out.trans' J,.inr ⟨hz,G⟩⟩
    have hb:(z != 0)=true:=by simpa using hz
    clear G J HF Ny;go_wp2_with fail;go_ret;exact HE.out
  |succ gg=>
   have ai:(k:Int)<(ps.length:Int):=by omega
   obtain⟨hp,fV⟩:=HI.out;obtain⟨au,off,rfl,c0,c1⟩:=(HR.out.keep fV HG.out).get (j:=k) (by omega);obtain⟨x0,x1⟩:=yO HQ.out (k:=k) (by omega);have W:Hid (∀h,ay [] wr h->Calls prog 105 #[b,(iQ ps k:Int),.int .u64 (l9 ps k)] h (Tf h ks (S (k+1)) F)):=λh hk=>U.out k h (by omega) (Ub.out _ _ _ hk hp)
   generalize iQ ps k=x,l9 ps k=y at *;have jr:=ar fV;clear hp fV HI U aa Ub Ny;go_wp2_with fail;refine(W.out _ ((ay.refl [] _).alloc _)).mono ?_;rintro e w2 ⟨z,rfl,J,⟨rfl,G⟩|⟨hz,G⟩⟩
   ·have mA:=ar G
    have fo:=ar ((jr.out.alloc _).trans' J);clear G J W;go_wp2_with fail;go_roundg gg;case measure=>omega
    case rel=>exact⟨k+1,by omega,by go_num,mA.out,fo.out⟩
   ·have HE:Hid (Tf w ks T F (.returned z) w2):=⟨z,rfl,(jr.out.alloc _).trans' J,.inr ⟨hz,G⟩⟩
    have hb:(z != 0)=true:=by simpa using hz
    clear G J W;go_wp2_with fail;go_ret;exact HE.out
theorem Di (h:fx w b gn gl gf (calm xs d))(h0:0<=d)(hd:d<3000000000000000000){v:Value}{g:Nat}{ps:List (Int×Int)}(hr:lQ w v g ps)
  (hq:Mv ps xs.length) (W:ps.length<=1000) (hx:xs.length=3128) (hg:ps.length≠0->g∉[b,gn,gl,gf]):
  Calls prog 80 #[b,v] w λe w'=>e=(0:Int)/\fx w' b gn gl gf (calm (az xs ps) (d+(mz ps:Nat)))/\ay [b,gn,gl,gf] w w':=by
 have ho:=h.old (by show xs.length≠0;omega);have aa:∀y∈[b,gn,gl,gf],y<w.heap.size:=λy hy=>by simp only[aL,aK,bC] at hy;omega
 have ae:=Af (iA ps);refine(acb (S:=λk J=>fx J b gn gl gf (iC xs (ps.take k) [] (d+(k:Nat)))) (R:=λk J=>fx J b gn gl gf (iC xs ps (ps.take k) (d+(ps.length:Nat)+(nM (iA ps) k:Nat)))) (T:=λJ=>fx J b gn gl gf (calm (az xs ps) (d+(mz ps:Nat)))) (F:=λ_ _=>False) hr (λp hp=>by have :=hq p hp;omega) W hg aa ?_ ?_ ?_ ?_ ?_ ?_ ?_ ?_).mono ?_
 ·intro k wa wb G z
  exact z.keep G (by simp) (by simp)
 ·rw[Te] at h
  simpa using h
 ·intro k J G z
  obtain⟨x0,x1⟩:=yO hq (k:=k) G;refine Rr (Jc z (by omega) (by omega) _ (l9 ps k) x0 x1) ?_;rintro w' ⟨U,h3⟩;refine⟨0,rfl,h3,.inl ⟨rfl,?_⟩⟩;rw[qf ps k G,show d+((k+1:Nat):Int)=d+(k:Nat)+1 by omega];exact U
 ·intro k wa wb l hl G z
  have W:∀y,y∈[b,gn,gl,gf]->y∉l:=λy hy V=>by have :=hl y V;have :=aa y hy;omega
  exact z.keep G (W _ (by simp)) (λ_=>⟨W _ (by simp),W _ (by simp),W _ (by simp)⟩)
 ·intro J z
  rw[aW (aH _)] at z;simpa[nM] using z
 ·intro k J G z V
  rw[qf ps k G,LM _ _ _ _ _ _ V,nM,DG ps k G,nN,aB V];exact z
 ·intro k J G z V
  obtain⟨x0,x1⟩:=yO hq (k:=k) G;have :=ae k;refine Rr (Jb z (by omega) (by omega) _ (l9 ps k) x0 x1) ?_;rintro w' ⟨U,h3⟩;refine⟨0,rfl,h3,.inl ⟨rfl,?_⟩⟩;rw[qf ps k G,nM,DG ps k G,nN,aA V,show d+(ps.length:Nat)+((nM (iA ps) k+1:Nat):Int)=d+(ps.length:Nat)+(nM (iA ps) k:Nat)+1 by omega];exact U
 ·intro J z
  rw[aW (aH _)] at z;have :=ae ps.length;have ac:=Mz z (yE _ _ _ _ (by omega) (by omega));obtain⟨e1,e2⟩:=Ja xs ps (d+(ps.length:Nat)+(nM (iA ps) ps.length:Nat)) (λp hp=>(hq p hp).1);rw[e1,e2] at ac;refine Rr ac ?_;rintro w' ⟨U,h3⟩;refine⟨0,rfl,h3,.inl ⟨rfl,?_⟩⟩;rw[show d+((mz ps:Nat):Int)=d+(ps.length:Nat)+(nM (iA ps) ps.length:Nat)+1 by unfold mz KG;omega];exact U
 ·rintro e w' ⟨y,rfl,z,⟨rfl,U⟩|⟨-,U⟩⟩
  ·exact⟨rfl,U,z⟩
  ·exact U.elim
theorem Zi (w:World)(a x:Int)(T:Nat):lQ (w.alloc (.cells #[a,.int .u64 x] T)) (.slice w.heap.size 1 1) w.heap.size [(a,x)]:=
 eZ.preads (T:=T) ⟨rfl,_,1,rfl,aH _,by unfold maxLen;omega,λ_=>⟨rfl,_,bh.new _ _ _,rfl,rfl⟩⟩
theorem od (h:fx w b gn gl gf (calm xs d))(h0:0<=d)(hd:d<3000000000000000000)(hx:xs.length=3128)(x:Int):
  Calls prog 82 #[b,.int .u64 x] w λe w'=>e=(0:Int)/\fx w' b gn gl gf (calm (az xs [(8,x)]) (d+3))/\ay [b,gn,gl,gf] w w':=by
 have ho:=h.old (by show xs.length≠0;omega);have U:=λ(J:World) (hk:ay [] w J) (he:J.heap.size=w.heap.size)=>Di (h.keep (hk.alloc (.cells #[(8:Int),.int .u64 x] 82)) (by simp) (by simp)) h0 hd (Zi J 8 x 82) (by intro p V;simp at V;subst V;simp;omega) (by simp) (by omega) (by intro _ hm;simp at hm;omega)
 rw[Mu] at U;have W:=ar U;clear U ho h;go_in;go_wp2_with fail;refine Rr (W.out w (ay.refl _ _) rfl) ?_;rintro w2 ⟨G,z⟩;obtain⟨mA,fo⟩:=hh2 G (((ay.refl _ _).alloc _).trans' z);clear G z;go_wp2_with fail;go_ret;exact⟨rfl,mA.out,fo.out⟩
theorem Er (h:fx w b gn gl gf (calm xs d))(h0:0<=d)(hd:d<2000000000000000000)(U:xs.length=3128){v:Value}{g:Nat}{ps:List (Int×Int)}(V:lQ w v g ps)
  (W:Mv ps 3128) (hn:ps.length<=1000) (hg:ps.length≠0->g∉[b,gn,gl,gf]):
  Calls prog 84 #[b,v] w λe w'=>e=(0:Int)/\fx w' b gn gl gf (calm (xK xs ps) (d+(mz ps:Nat)+3))/\ay [b,gn,gl,gf] w w':=by
 have HS:=ar (Di h h0 (by omega) V (by rw[U];exact W) hn (by omega) hg);have aa:=sJ ps;have HX:=ar U;obtain⟨a,cap,rfl,-,-⟩:=V.val;clear h V W hg U;go_in;go_wp2_with fail;refine Rr HS.out ?_;rintro w2 ⟨J,G⟩;obtain⟨HC,fo⟩:=hh2 (od J (by omega) (by omega) (by rw[cj];exact HX.out) 0) G;clear J G;go_wp2_with fail;refine Rr HC.out ?_;rintro w3 ⟨W6,z⟩;obtain⟨Ct,oI⟩:=hh2 W6 (fo.out.trans' z);clear W6 z;go_wp2_with fail;go_ret;exact⟨rfl,Ct.out,oI.out⟩
end
section
open Go.RowKit
variable{w w':World}{B X Y f xs:List Int}{G J b g gf gl gn gp k z:Nat}{D:DataW Unit}{ps qs:List (Int×Int)}{d:Int}{U ks l:List Nat}{v:Value}{R:Nat->World->Prop}{F:Int->World->Prop}{T V:List (bT×Value)}{own:Nat->List Nat}
theorem yF (h:fx w b gn gl gf (calm xs d))(z:xs.length=3128):
  Calls prog 45 #[b] w λe w'=>e=(3128:Int)/\w=w':=by
 have :=PQ h;rw[show((calm xs d).now.length:Int)=3128 by show(xs.length:Int)=3128;omega] at this;exact this
theorem OA (h:xJ ps=true):Mv ps 3128:=λp z=>by have :=TF h z;omega
theorem acd (h:ps.length<=400):Mv (nr (ft ps)) 3128:=λp z=>by
 have :=Mt z;rw[nv] at this;omega
def VL (w:World) (b gn gl gf:Nat) (xs:List Int) (d:Int) (e:Ending) (w':World):Prop:=
 e=(0:Int)/\fx w' b gn gl gf (calm xs d)/\ay [b,gn,gl,gf] w w'
theorem VM (h:fx w b gn gl gf (calm xs d))(h0:0<=d)(hd:d<1000000000000000000)(hx:xs.length=3128){v:Value}{g:Nat}{ps:List (Int×Int)}(hr:lQ w v g ps)
  (J:okP ps) (ae:xJ ps=true) (hn:ps.length<=400) (hg:ps.length≠0->g∉[b,gn,gl,gf]):
  Calls prog 34 #[b,v] w (VL w b gn gl gf (nO xs ps) (d+(Cr ps:Nat))):=by
 obtain⟨H,HR,HX,HG,ai,rf,HL⟩:=hh7 h hr hx hg ae J (yF h hx);have HW:=ar (Rj hr J hn);obtain⟨a,cap,rfl,h1,h2⟩:=hr.val;unfold maxLen at h2;have z:=ar (h.old (by show xs.length≠0;omega));have q4:¬(400:Int)<(ps.length:Int):=by omega
 clear h hr J hg ae hx;go_in;go_wp2_with fail;refine C' HL.out ?_;go_wp2_with fail;refine HW.out.mono ?_;rintro e w1 ⟨vw,gw,rfl,W7,S6,W⟩;obtain⟨aw,cw,rfl,-,-,-⟩:=fW W7;obtain⟨JI,jH,HU⟩:=hh3 W7 W (FC rf.out);have PE:=wR W7 HU.out ps.length (nv ps) (by omega);rw[FD rf.out,ai.out] at PE;obtain⟨PE,aa⟩:=hh2 PE (H.out.keep W (by simp) (by simp));clear W7 W;go_wp2_with fail;refine C' PE.out ?_;go_wp2_with fail;refine C' (ze aa.out 8 (by omega) (by rw[HX.out];omega)) ?_;by_cases hz:ps.length=0
 ·obtain rfl:ps=[]:=bo hz
  clear hz;go_wp2_with fail;go_ret;refine⟨rfl,?_,jH.out.mono (by simp)⟩;simpa[nO,Cr] using aa.out
 ·have aj:((ps.length:Int)==0)=false:=cL.2 (by omega)
  have aC:(ps.length==0)=false:=cL.2 hz;have W4:Hid (ps≠[]):=λe=>hz (by rw[e];rfl)
  have HZ:=ar hz;clear hz;go_wp2_with fail;refine(Zd JI.out (by rw[nv];omega)).mono ?_;rintro e w2 ⟨vl,aB,rfl,ac,aD,U⟩;obtain⟨al,cl,rfl,-,-⟩:=ac.val;have fo:=ar U;have ho:=z.out;have aj:=jH.out.size;have PG:=ar (Di (aa.out.keep U (by simp) (by simp)) h0 (by omega) ac (by rw[HX.out];exact acd hn) (by rw[oo,nv];omega) HX.out (by intro _ hm;simp only[aL,aK,bC] at hm;omega));clear ac U ho aj;go_wp2_with fail;refine Rr PG.out ?_;rintro w3 ⟨W6,G⟩;have Ct:=ar W6;have ho:=z.out;have ag:=(JI.out.keep fo.out (by simp)).keep G (by intro hm;simp only[aL,aK,bC] at hm;omega);have ax:=ar (uH ag HU.out (by rw[nv];omega));have oI:Hid (ay [b,gn,gl,gf] w w3):=((jH.out.trans fo.out (by simp)).mono (by simp)).trans' G;clear W6 G ag ho;go_wp2_with fail;refine Rr ax.out λw4 V=> ?_;have au:=sJ (nr (ft ps));rw[oo,nv] at au;obtain⟨av,qb⟩:=hh2 (od (Ct.out.keep V (by simp) (by simp)) (by omega) (by omega) (by rw[cj];exact HX.out) (rL (ft ps))) (oI.out.trans V (by simp));clear V;go_wp2_with fail;refine Rr av.out ?_;rintro w5 ⟨ah,lh⟩;have qU:=ar (qb.out.trans' lh);have az:=ar (Er ah (by omega) (by omega) (by rw[cj,cj];exact HX.out) (HR.out.keep qU.out HG.out) (OA ai.out) (by omega) HG.out);clear ah lh;go_wp2_with fail;refine Rr az.out ?_;rintro w6 ⟨af,jv⟩;obtain⟨ak,uB⟩:=hh2 af (qU.out.trans' jv);clear af jv;go_wp2_with fail;go_ret;refine⟨rfl,?_,uB.out⟩;rw[nO,aA W4.out,Cr,aA W4.out];have :=ak.out;rw[show d+((mz (nr (ft ps))+3+mz ps+3:Nat):Int)=d+(mz (nr (ft ps)):Nat)+3+(mz ps:Nat)+3 by omega];exact this
def BU (xs:List Int):Nat:=(xs.getD 8 0/4294967296).toNat
def qE (xs:List Int):Option (List (Int×Int)):=
 if 1<=BU xs/\BU xs<=400/\xs.getD 8 0=rL (oD xs (2*BU xs))/\lZ (oD xs (2*BU xs)) (BU xs)=true then some (lG (oD xs (2*BU xs)) (BU xs)) else none
def VN (w:World) (e:Ending) (w':World):Prop:=e= .returned (.tuple #[(),false,(0:Int)])/\ay [] w w'
def Kl (w:World) (ps:List (Int×Int)) (e:Ending) (w':World):Prop:=∃v g,e= .returned (.tuple #[v,true,(0:Int)])/\lQ w' v g ps/\w.heap.size<=g/\ay [] w w'
theorem AP (h:fx w b gn gl gf (calm xs d))(G:xs.length=3128):LQ w b xs:=λk _ J z=>by
 have :=ze (h.keep z (by simp) (by simp)) (k:Int) (by omega) (by rw[G];omega);rw[aG] at this;exact this
theorem zZ (h:Calls prog 45 #[b] w λe w'=>e=(3128:Int)/\w=w')(ot:LQ w b xs)(hu:Cq xs)(V:qE xs=none):
  Calls prog 109 #[b] w (VN w):=by
 obtain⟨W,Li⟩:=hh2 h (ot 8 w (by omega) (ay.refl _ _));obtain⟨c0,c1⟩:=A9 hu 8;obtain⟨n,hn⟩:∃n:Nat,BU xs=n:=⟨_,rfl⟩;have hc:xs.getD 8 0/4294967296=(n:Int):=by unfold BU at hn;omega
 obtain⟨PE,HU⟩:=hh2 (Oy ot (2*n)) hu;unfold qE at V;rw[hn] at V;have HS:Hid (¬(1<=n/\n<=400/\xs.getD 8 0=rL (oD xs (2*n))/\lZ (oD xs (2*n)) n=true)):=λe=>by rw[aB e] at V;cases V
 generalize aa:xs.getD 8 0=c at *;clear h ot hu hn aa V;by_cases h1:n<1
 ·go_in
  go_wp2_with fail;refine C' W.out ?_;go_wp2_with fail;refine C' Li.out ?_;go_wp2_with fail
  go_ret3
  exact⟨rfl,ay.refl _ _⟩
 ·by_cases h2:400<n
  ·go_in
   go_wp2_with fail;refine C' W.out ?_;go_wp2_with fail;refine C' Li.out ?_;go_wp2_with fail
   go_ret3
   exact⟨rfl,ay.refl _ _⟩
  ·go_in
   go_wp2_with fail;refine C' W.out ?_;go_wp2_with fail;refine C' Li.out ?_;go_wp2_with fail;refine(PE.out (by omega) _ (by omega)).mono ?_;rintro e w1 ⟨vw,gw,rfl,W7,S6,J⟩;obtain⟨aw,cw,rfl,-,-,-⟩:=fW W7;obtain⟨JI,jH⟩:=hh2 W7 J;clear W7 J;go_wp2_with fail;refine Rr (uH JI.out (BS HU.out _) (by rw[mP];omega)) λw2 z=> ?_;obtain⟨fo,Md⟩:=hh2 (jH.out.trans z (by simp)) (wR (JI.out.keep z (by simp)) (BS HU.out _) n (mP _ _) (by omega));clear z;generalize G:rL (oD xs (2*n))=mk at *;by_cases U:c=mk
   ·have WW:(c != mk)=false:=by simpa using U
    have ac:Hid (lZ (oD xs (2*n)) n=false):=by
     show lZ (oD xs (2*n)) n=false;cases hp:lZ (oD xs (2*n)) n
     ·rfl
     ·exact absurd ⟨by omega,by omega,U,hp⟩ HS.out
    rw[ac.out] at Md;subst U;clear G;go_wp2_with(go_at_call 79;refine C' Md.out ?_)
    go_ret3
    exact⟨rfl,fo.out⟩
   ·have WW:(c != mk)=true:=by simpa using U
    clear G U;go_wp2_with fail
    go_ret3
    exact⟨rfl,fo.out⟩
theorem Jd (h:Calls prog 45 #[b] w λe w'=>e=(3128:Int)/\w=w')(ot:LQ w b xs)(hu:Cq xs){ps:List (Int×Int)}(V:qE xs=some ps):
  Calls prog 109 #[b] w (Kl w ps):=by
 obtain⟨HL,Li⟩:=hh2 h (ot 8 w (by omega) (ay.refl _ _));obtain⟨c0,c1⟩:=A9 hu 8;obtain⟨n,hn⟩:∃n:Nat,BU xs=n:=⟨_,rfl⟩;have hc:xs.getD 8 0/4294967296=(n:Int):=by unfold BU at hn;omega
 obtain⟨PE,HU⟩:=hh2 (Oy ot (2*n)) hu;unfold qE at V;rw[hn] at V;split at V
 ·rename_i hcond
  obtain⟨h1,h2,h3,h4⟩:=hcond;cases V;obtain⟨H3,H4⟩:=hh2 h3 h4;clear h ot hu hn h3 h4;generalize xs.getD 8 0=c at *;go_in;go_wp2_with fail;refine C' HL.out ?_;go_wp2_with fail;refine C' Li.out ?_;go_wp2_with fail;refine(PE.out (by omega) _ (by omega)).mono ?_;rintro e w1 ⟨vw,gw,rfl,W7,S6,U⟩;obtain⟨aw,cw,rfl,-,-,-⟩:=fW W7;obtain⟨JI,jH⟩:=hh2 W7 U;clear W7 U;go_wp2_with fail;refine Rr (uH JI.out (BS HU.out _) (by rw[mP];omega)) λw2 z=> ?_;obtain⟨fo,TM⟩:=hh2 (jH.out.trans z (by simp)) (JI.out.keep z (by simp));have W:=wR TM.out (BS HU.out _) n (mP _ _) (by omega);rw[H4.out] at W;have W:=ar W;clear z;rw[<-H3.out];go_wp2_with(go_at_call 79;refine C' W.out ?_);refine(Rk TM.out n (mP _ _) h2 H4.out).mono ?_;rintro e w3 ⟨vp,gp,rfl,G,DV,J⟩;obtain⟨ap,cp,rfl,-,-⟩:=G.val;have HM:Hid (Kl w (lG (oD xs (2*n)) n) (.returned (.tuple #[.slice ap (lG (oD xs (2*n)) n).length cp,true,(0:Int)])) w3):=
   ⟨_,gp,rfl,G,cG fo.out.size DV,fo.out.trans J (by simp)⟩
  clear G DV J;go_wp2_with fail
  go_ret3
  exact HM.out
 ·cases V
def uw (xs:List Int):List Int:=match qE xs with | some ps=>xK xs ps|none=>az xs [(8,0)]
def Zj (w:World) (b gn gl gf:Nat) (xs:List Int) (h:Int) (e:Ending) (w':World):Prop:=
 ∃d,e=(0:Int)/\fx w' b gn gl gf (calm xs d)/\ay [b,gn,gl,gf] w w'/\h<=d/\d<=h+5000
theorem OB (h:qE xs=some ps):xJ ps=true/\ps.length<=400:=by
 unfold qE at h;split at h
 ·rename_i hc
  obtain⟨V,U,W,J⟩:=hc;cases h;refine⟨?_,by rw[nI];exact U⟩;unfold xJ;rw[eQ];intro p z;simp only[lG,bH] at z;obtain⟨k,G,rfl⟩:=z;exact eQ.1 J k G
 ·cases h
theorem VO (h:fx w b gn gl gf (calm xs d))(h0:0<=d)(hd:d<1000000000000000000)(U:xs.length=3128)(hu:Cq xs):
  Calls prog 56 #[b] w (Zj w b gn gl gf (uw xs) d):=by
 obtain⟨H,HX,V⟩:=hh3 h U (h.old (by show xs.length≠0;omega));unfold uw;cases hs:qE xs with
 |some ps=>
  obtain⟨HS,HG⟩:=hh2 (Jd (yF h U) (AP h U) hu hs) (OB hs);clear h U hu hs;go_in;go_wp2_with fail;refine HS.out.mono ?_;rintro e w1 ⟨v,g,rfl,hr,hg,J⟩;obtain⟨a,cap,rfl,-,-⟩:=hr.val;have W:=ar J;have ho:=V.out;have HC:=ar (Er (H.out.keep J (by simp) (by simp)) h0 (by omega) HX.out hr (OA HG.out.1) (by have :=HG.out.2;omega) (by intro _ hm;simp only[aL,aK,bC] at hm;omega));clear hr J ho;go_wp2_with fail;refine Rr HC.out ?_;rintro w2 ⟨G,z⟩;obtain⟨mA,fo⟩:=hh2 G ((W.out.mono (l':=[b,gn,gl,gf]) (by simp)).trans' z);clear G z;go_wp2_with fail;go_ret;have ac:=sJ ps;have K5:=HG.out.2;exact⟨_,rfl,mA.out,fo.out,by omega,by omega⟩
 |none=>
  have HS:=ar (zZ (yF h U) (AP h U) hu hs);clear h U hu hs;go_in;go_wp2_with fail;refine Rr HS.out λw1 J=> ?_;obtain⟨W,HP⟩:=hh2 J (H.out.keep J (by simp) (by simp));clear J;go_wp2_with fail;refine C' (ze HP.out 8 (by omega) (by rw[HX.out];omega)) ?_;rw[show(8:Int).toNat=8 from rfl];have HZ:=ar (zL xs 8 0);generalize xs.getD 8 0=c at *;by_cases hc:c=0
  ·subst hc
   go_wp2_with fail;go_ret;refine⟨d,rfl,?_,W.out.mono (by simp),by omega,by omega⟩;rw[lO,show(8:Int).toNat=8 from rfl,HZ.out];exact HP.out
  ·have aa:(c==0)=false:=cL.2 hc
   clear hc;go_wp2_with fail;refine Rr (od HP.out h0 (by omega) HX.out 0) ?_;rintro w2 ⟨G,z⟩;obtain⟨mA,fo⟩:=hh2 G ((W.out.mono (l':=[b,gn,gl,gf]) (by simp)).trans' z);clear G z;go_wp2_with fail;go_ret;exact⟨_,rfl,mA.out,fo.out,by omega,by omega⟩
theorem Zk (V:X.length=3128):∀k,k<=3128->∀i,(az X (dh X Y k)).getD i 0=if i<k then Y.getD i 0 else X.getD i 0:=by
 intro k;induction k with
 |zero=>intro _ i;rw[aA];rfl
 |succ k ih=>
  intro U i;by_cases G:Y.getD k 0=X.getD k 0
  ·rw[DL X Y k G,ih (by omega)]
   by_cases h:i<k
   ·rw[aB h,aB]
   ·rw[aA h]
    by_cases z:i=k
    ·rw[aB,z,G]
    ·rw[aA]
  ·have e:dh X Y (k+1)=dh X Y k++[((k:Int),Y.getD k 0)]:=by
    unfold dh;rw[dV,eJ,ey]
    congr 1
    have J:(Y.getD k 0 != X.getD k 0)=true:=bne_iff_ne.2 G;simp only[fE,J,if_true,List.filter_nil];rfl
   rw[e,bz,lO,aG,jl _ _ _ _ (by rw[cj];omega)];by_cases h:i=k
   ·rw[aB h.symm,aB,h]
   ·rw[aA (cZ h),ih (by omega)]
    by_cases z:i<k
    ·rw[aB z,aB]
    ·rw[aA z,aA]
theorem Zl{p:Int×Int}(h:p∈dh X Y k):∃i:Nat,i<k/\p=((i:Int),Y.getD i 0)/\Y.getD i 0≠X.getD i 0:=by
 unfold dh at h;obtain⟨i,z,rfl⟩:=bH.1 h;rw[List.mem_filter,b7] at z;exact⟨i,z.1,rfl,by simpa using z.2⟩
theorem ace{L:List Nat}(h:∀i,i<3128->Y.getD i 0≠X.getD i 0->i∈L):(dh X Y 3128).length<=L.length:=by
 unfold dh;rw[bY];have G:∀(l m:List Nat),l.Nodup->(∀x∈l,x∈m)->l.length<=m.length:=by
  intro l;induction l with
  |nil=>intro m _ _;exact fD _
  |cons a l ih=>
   intro m W h;have U:=List.nodup_cons.1 W;have V:=h a (by simp);have h2:=ih (m.erase a) U.2 λx z=>by
    have J:x≠a:=λe=>U.1 (e▸z)
    exact(List.mem_erase_of_ne J).2 (h x (by simp[z]))
   rw[List.length_erase_of_mem V] at h2;have :0<m.length:=List.length_pos_of_mem V;simp only[cu];omega
 refine G _ L (List.Sublist.nodup List.filter_sublist List.nodup_range) λx z=> ?_
 rw[List.mem_filter,b7] at z;exact h x z.1 (by simpa using z.2)
theorem OC (hX:X.length=3128)(ae:In64 X)(aa:In64 Y)(hj:∀k,8<=k->k<816->Y.getD k 0=X.getD k 0)(h8:X.getD 8 0=0)(hn:(dh X Y 3128).length<=400):
  okP (dh X Y 3128)/\xJ (dh X Y 3128)=true/\(nO X (dh X Y 3128)).length=3128/\In64 (nO X (dh X Y 3128))/\(nO X (dh X Y 3128)).getD 8 0=0/\
   ∀k,k<3128->(k<8\/816<=k)->(nO X (dh X Y 3128)).getD k 0=Y.getD k 0:=by
 have J:∀p∈dh X Y 3128,∃i:Nat,i<3128/\(i<8\/816<=i)/\p=((i:Int),Y.getD i 0):=λp z=>by
  obtain⟨i,h1,h2,h3⟩:=Zl z;refine⟨i,h1,?_,h2⟩;rcases dE i 8 with h4|h4
  ·exact .inl h4
  ·rcases dE i 816 with h5|h5
   ·exact absurd (hj i h4 h5) h3
   ·exact .inr h5
 have W:okP (dh X Y 3128):=λp z=>by
  obtain⟨i,h1,-,rfl⟩:=J p z;have :=aa i
  dsimp only
  omega
 have ac:xJ (dh X Y 3128)=true:=by
  unfold xJ;rw[eQ];intro p z;obtain⟨i,h1,h2,rfl⟩:=J p z;exact mr.2 (by dsimp only;omega)
 have af:=nv (dh X Y 3128);have U:=Zk (Y:=Y) hX 3128 (aH _);by_cases G:dh X Y 3128=[]
 ·have e:nO X (dh X Y 3128)=X:=by unfold nO;rw[aB G]
  rw[e];refine⟨W,ac,hX,ae,h8,λk hk _=> ?_⟩;have :=U k;rw[G,aB hk] at this;exact this
 ·have e:nO X (dh X Y 3128)=az (az (az (az X (nr (ft (dh X Y 3128)))) [(8,rL (ft (dh X Y 3128)))]) (dh X Y 3128)) [(8,0)]:=by unfold nO;rw[aA G];rfl
  have ag:∀p∈nr (ft (dh X Y 3128)),9<=p.1/\p.1<809+1:=λp z=>by
   have :=Mt z;omega
  have ai:0<=rL (ft (dh X Y 3128))/\rL (ft (dh X Y 3128))<18446744073709551616:=by
   unfold rL;have h1:=KF ((ft (dh X Y 3128)).map Int.toNat);rw[af,show 2*(dh X Y 3128).length/2=(dh X Y 3128).length by omega];omega
  have h1:In64 (az X (nr (ft (dh X Y 3128)))):=ae.put λp z=>by
   have hu:=FC W;unfold nr at z;obtain⟨k,hk,rfl⟩:=List.mem_mapIdx.1 z;have :=hu _ (bF hk)
   dsimp only
   omega
  have h2:In64 (az (az X (nr (ft (dh X Y 3128)))) [(8,rL (ft (dh X Y 3128)))]):=h1.put λp z=>by rw[au] at z;subst z;exact ai
  have h3:In64 (az (az (az X (nr (ft (dh X Y 3128)))) [(8,rL (ft (dh X Y 3128)))]) (dh X Y 3128)):=h2.put λp z=>by
   obtain⟨i,-,-,rfl⟩:=J p z;exact aa i
  have h4:In64 (az (az (az (az X (nr (ft (dh X Y 3128)))) [(8,rL (ft (dh X Y 3128)))]) (dh X Y 3128)) [(8,0)]):=h3.put λp z=>by rw[au] at z;subst z;exact⟨Int.le_refl _,by decide⟩
  have Cx:(az (az X (nr (ft (dh X Y 3128)))) [(8,rL (ft (dh X Y 3128)))]).length=3128:=by rw[cj,cj,hX]
  -- the words under the journal are the same
  have V:∀k,(k<8\/816<=k)->(az (az X (nr (ft (dh X Y 3128)))) [(8,rL (ft (dh X Y 3128)))]).getD k 0=X.getD k 0:=λk hk=>by
   rw[dX _ _ _ λp z=>by rw[au] at z;subst z;show(8:Int).toNat≠k;rw[show(8:Int).toNat=8 from rfl];omega,dX _ _ _ λp z=>by have :=ag p z;omega]
  refine⟨W,ac,by rw[e,cj,cj,Cx],by rw[e];exact h4,?_,λk hk ah=> ?_⟩
  ·rw[e,lO,show(8:Int).toNat=8 from rfl,jl _ _ _ _ (by rw[cj,Cx];omega),aB rfl]
  ·rw[e,dX _ _ _ λp z=>by rw[au] at z;subst z;show(8:Int).toNat≠k;rw[show(8:Int).toNat=8 from rfl];omega]
   -- the same puts over words that are the same there
   have aj:∀(ps:List (Int×Int)) (A B:List Int),A.length=3128->B.length=3128->A.getD k 0=B.getD k 0->(az A ps).getD k 0=(az B ps).getD k 0:=by
    intro ps;induction ps with
    |nil=>intro A B _ _ h;exact h
    |cons p ps ih=>
     intro A B hA hB h;show(az (A.set p.1.toNat p.2) ps).getD k 0=(az (B.set p.1.toNat p.2) ps).getD k 0;refine ih _ _ (by rw[cY,hA]) (by rw[cY,hB]) ?_;rcases dE p.1.toNat 3128 with z|z
     ·rw[jl _ _ _ _ (by omega),jl _ _ _ _ (by omega)]
      split
      ·rfl
      ·exact h
     ·rw[jd (by omega),jd (by omega)]
      exact h
   rw[aj _ _ X Cx hX (V k ah),U,aB hk]
theorem rB.journal(h:rB X T V own U)(hl:Y.length=3128)(J:In64 Y)(hs:∀k,k<3128->(k<8\/816<=k)->Y.getD k 0=X.getD k 0):rB Y T V own U/\pd X Y []:=by
 have z:∀k,(k<8\/816<=k)->Y.getD k 0=X.getD k 0:=λk G=>by
  rcases dE k 3128 with W|W
  ·exact hs k W G
  ·rw[aj,aP (by omega),aj,aP (by rw[h.len];omega)]
 have hu:(∀c,c<256->dG Y c=dG X c):=λc hc=>by
  unfold dG bw;rw[z _ (by omega)]
 have o6:pd X Y []:=λc _ _ _ _ j _=>z _ (by omega)
 exact⟨h.bits hl J (vI h.sup (λk G=>z k (by omega)) λk G _=>z k (by omega)) (λk G _=>z k (by omega)) (λi _ c _ j _=>z _ (by omega)) (λb hb=>by rw[hu b hb];exact h.once b hb) h.exr λj hj=>h.tailsKeep o6 hj (by simp),o6⟩
theorem rB.nodes{ex:List Nat}(h:rB X T V own ex)(hk:pd X Y l){j:Nat}(W:∀c∈dn (nT V j),c∉l):tH Y (nT V j)=tH X (nT V j):=by
 rcases h.vir j with G|G
 ·rcases h.gots.form j with ⟨h0,hj,J⟩|⟨-,J,-⟩
  ·rw[G] at W ⊢
   refine BQ J.len (λhK=>(tI J.right hK).2) λc z k uA=> ?_
   have U:=h.rng hj (bX _ (by rw[G];exact z));exact hk c U.2 U.1 (h.used hj (bX _ (by rw[G];exact z))) (W c z) k uA
  ·rw[G,J];rfl
 ·rw[G];rfl
theorem rB.nodesUp{z:List Nat}{M:Nat->Nd}(h:StX X T own z)(J:∀i,M i=tH X (nT T i))(G:pd X Y l){i:Nat}(U:i<32)(V:∀j,j≠i->∀c∈dn (nT T j),c∉l)(n:bT):∀j,nu M i (tH Y n) j=tH Y (nT (nW T i n) j):=by
 intro j;rw[pW h.gots.len U];by_cases e:i=j
 ·subst e
  rw[nG,aB rfl]
 ·rw[dJ _ _ (cZ e),aA e,J]
  exact(h.nodes G (V j (cZ e))).symm
theorem rB.filesOwn(h:StX X T own U){i:Nat}(V:i<32):∀j,∀c∈dn (nT T j),c∉own i:=λj c G z=>by
 rcases dE j 32 with J|J
 ·by_cases e:j=i
  ·subst e;exact h.inner J z G
  ·exact h.apart J V e (bX _ G) (bV _ z)
 ·rw[h.gots.zero J] at G
  have :dn ck=[]:=by decide
  rw[this] at G;simp at G
theorem OD (i:Nat)(h:i<3128):Bb B ps (i:Int)=(az B ps).getD i 0:=by
 unfold Bb;rw[aB,aG]
structure tJ (w:World) (b gp:Nat) (B:List Int) (ps:List (Int×Int)) (T:List (bT×Value)) (own:Nat->List Nat):Prop where
 st:gU w b gp B ps T own
 sup:lu (az B ps)
theorem tJ.keep0(h:tJ w b z B ps T own)(G:ay [] w w'):tJ w' b z B ps T own:=⟨h.st.keep0 G,h.sup⟩
theorem Dj (h:tJ w b G B ps T own)(i:Nat)(z:i<3128):
  Calls prog 57 #[b,(i:Int)] w λe w'=>e= .returned (.int .u64 ((az B ps).getD i 0))/\w=w':=by
 have :=py h.st.sh (i:Int);rwa[OD i z] at this
theorem Tg (h:tJ w b J B ps T own):
  Calls prog 131 #[b] w λe w'=>e=(decide ((az B ps).getD 2 0=32))/\w=w':=by
 have G:=ar (Dj h 2 (by omega));clear h;generalize (az B ps).getD 2 0=c at *;by_cases z:c=32
 ·subst z
  go_in;go_wp2_with fail;refine C' G.out ?_;go_wp2_with fail;go_ret;exact⟨rfl,rfl⟩
 ·have U:(c==32)=false:=by simpa using z
  rw[aQ z];clear z;go_in;go_wp2_with fail;refine C' G.out ?_;go_wp2_with fail;go_ret;exact⟨rfl,rfl⟩
theorem zg (h:tJ w b J B ps T own):
  Calls prog 99 #[b] w λe w'=>e=((az B ps).getD 1 0:Int)/\w=w':=by
 have z:=ar (Dj h 1 (by omega));have G:=h.sup.2.1;clear h;generalize (az B ps).getD 1 0=t at *;rcases G with rfl|rfl
 ·go_in
  go_wp2_with fail;refine C' z.out ?_;go_wp2_with fail;go_ret;exact⟨rfl,rfl⟩
 ·go_in
  go_wp2_with fail;refine C' z.out ?_;go_wp2_with fail;go_ret;exact⟨rfl,rfl⟩
def cQ (w:World) (b z:Nat) (B:List Int) (ps:List (Int×Int)) (m:Nat) (R:Int->List (Int×Int)->Prop) (e:Ending) (w':World):Prop:=
 ∃r qs h,e=(r:Int)/\(h=z\/(w.heap.size<=h/\h<w'.heap.size))/\eK w' b h B (ps++qs)/\ay [b,z] w w'/\qs.length<=m/\R r qs
def Dk (X:List Int) (f r:Int) (qs:List (Int×Int)):Prop:=
 (r=1/\¬(f=1\/f=2)/\qs=[])\/(r=0/\(f=1\/f=2)/\((X.getD 1 0=f/\qs=[])\/(X.getD 1 0≠f/\qs=[(1,f),(2,0)])))
theorem cQ.none{m:Nat}{R:Int->List (Int×Int)->Prop}{r:Int}(h:eK w b z B ps)(G:ay [] w w')(J:R r []):cQ w b z B ps m R (.returned r) w':=
 ⟨r,[],z,rfl,.inl rfl,by rw[br];exact h.keep G (by simp) (by simp),G.mono (by simp),by simp,J⟩
theorem Zo (h:eK w b z B ps)(G:b<w.heap.size/\z<w.heap.size)(af:ps.length<=700000)(f:Int)
  (J:Calls prog 99 #[b] w λe w'=>e=((az B ps).getD 1 0:Int)/\w=w'):
  Calls prog 46 #[b,f] w (cQ w b z B ps 2 (Dk (az B ps) f)):=by
 by_cases hf:f=1\/f=2
 ·have HT:=ar J
  by_cases ht:(az B ps).getD 1 0=f
  ·have HF:Hid (cQ w b z B ps 2 (Dk (az B ps) f) (.returned (0:Int)) w):=cQ.none h (ay.refl _ _) (.inr ⟨rfl,hf,.inl ⟨ht,rfl⟩⟩)
   rw[ht] at HT;clear h G J ht;generalize Dk (az B ps) f=R at *;rcases hf with rfl|rfl
   ·go_in
    go_wp2_with fail;refine C' HT.out ?_;go_wp2_with fail;go_ret;exact HF.out
   ·go_in
    go_wp2_with fail;refine C' HT.out ?_;go_wp2_with fail;go_ret;exact HF.out
  ·have ah:=ar (pz h (by omega) 1 f)
   have mn:Hid (∀w',(∃gI,(gI=z\/(w.heap.size<=gI/\gI<w'.heap.size))/\eK w' b gI B (ps++[(1,f),(2,0)])/\ay [b,z] w w')->cQ w b z B ps 2 (Dk (az B ps) f) (.returned (0:Int)) w'):=λw' ⟨gI,h1,h2,h3⟩=>
    ⟨0,_,gI,rfl,h1,h2,h3,by simp,.inr ⟨rfl,hf,.inr ⟨ht,rfl⟩⟩⟩
   have zN:=ar af;have aa:=G;have aj:=ar aa;clear h G J aa af;generalize Dk (az B ps) f=R,(az B ps).getD 1 0=t at *;have hw:IntKind.u64.wrap f=f:=by rcases hf with rfl|rfl<;>rfl
   have hb:(t==f)=false:=by simpa using ht
   have mA:Hid (∀w1 U,(U=z\/(w.heap.size<=U/\U<w1.heap.size))->eK w1 b U B (Aj ps 1 f)->Calls prog 47 #[b,(2:Int),.int .u64 0] w1 (jQ w1 b U B (ps++[(1,f),(2,0)]))):=λw1 U hg hs=>by
    have e1:Aj ps 1 f=ps++[(1,f)]:=rfl;have e2:Aj (ps++[(1,f)]) 2 0=ps++[(1,f),(2,0)]:=by show(ps++[(1,f)])++[(2,0)]=_;rw[aV];rfl
    rw[e1] at hs;have :=pz hs (by rw[aC];have :=zN.out;simp;omega) 2 0;rwa[e2] at this
   rcases hf with rfl|rfl
   all_goals
    go_in;go_wp2_with fail;refine C' HT.out ?_;go_wp2_with fail;refine Rr ah.out ?_;rintro w1 ⟨U,V,ag,ac⟩;obtain⟨Ct,jH,ae⟩:=hh3 (mA.out w1 U V ag) ac V;clear V ag ac mA ah;go_wp2_with fail;refine Rr Ct.out ?_;rintro w2 ⟨lS,ak,ai,W⟩;have HF:Hid (cQ w b z B ps 2 R (.returned (0:Int)) w2):=mn.out w2 ⟨lS,by
     have h1:=ae.out;have h2:=jH.out.size;have h3:=W.size;have h4:=aj.out;omega,ai,by
     refine jH.out.trans W (λx hx=> ?_);have h1:=ae.out;simp only[aL,aK,bC] at hx ⊢;omega⟩
    clear ak ai W Ct mn;go_wp2_with fail;go_ret;exact HF.out
 ·have HF:Hid (cQ w b z B ps 2 (Dk (az B ps) f) (.returned (1:Int)) w):=cQ.none h (ay.refl _ _) (.inl ⟨rfl,hf,rfl⟩)
  have b1:(f==1)=false:=by simp;omega
  have b2:(f==2)=false:=by simp;omega
  have b3:(f != 1)=true:=by simp;omega
  have b4:(f != 2)=true:=by simp;omega
  clear h G J hf;generalize Dk (az B ps) f=R at *;go_in;go_wp2_with fail;go_ret;exact HF.out
theorem aeJ (h:tJ w b G B ps T own)(z:ps.length<=700000)(f:Int):
  Calls prog 46 #[b,f] w (cQ w b G B ps 2 (Dk (az B ps) f)):=Zo h.st.sh h.st.lt z f (zg h)
theorem OE (h:eK w b J B ps)(G:(az B ps).getD 1 0=0):
  Calls prog 99 #[b] w λe w'=>e=((az B ps).getD 1 0:Int)/\w=w':=by
 have z:=py h 1;rw[show(1:Int)=((1:Nat):Int) from rfl,OD 1 (by omega),G] at z;have z:=ar z;rw[G];clear h G;go_in;go_wp2_with fail;refine C' z.out ?_;go_wp2_with fail;go_ret;exact⟨rfl,rfl⟩
def Ti (w:World) (b:Nat) (t:Int) (e:Ending) (w':World):Prop:=
 ∃h z,e= .returned (.func (.func 202) #[] #[(h:Nat),(z:Nat)])/\w.heap.size<=h/\w.heap.size<=z/\bh w' h #[b] 49/\bh w' z #[t] 3/\ay [] w w'
theorem OG{W:Nat}(h:tJ w b W B ps T own):
  Calls prog 166 #[b] w (Ti w b ((az B ps).getD 1 0)):=by
 have G:ay [] w (w.alloc (.cells #[b] 49)):=(ay.refl _ _).alloc _;have z:=bh.new w #[b] 49;have c0:(w.alloc (.cells #[b] 49)).cell? w.heap.size=some (.pointer (some ⟨b,0,none⟩)):=by rw[z.cell];rfl
 have HT:=ar (zg (h.keep0 G));have U:Hid (∀t,Ti w b t (.returned (.func (.func 202) #[] #[w.heap.size,(w.heap.size+1:Nat)])) ((w.alloc (.cells #[b] 49)).alloc (.cells #[(t:Int)] 3))):=λt=>by
  have V:=aX w (.cells #[b] 49);have J:=bh.new (w.alloc (.cells #[b] 49)) #[(t:Int)] 3;rw[V] at J;refine⟨w.heap.size,w.heap.size+1,rfl,aH _,by omega,?_,J,?_⟩
  ·exact z.keep ((ay.refl [] _).alloc _) (by simp)
  ·exact G.alloc _
 clear h z G;generalize (az B ps).getD 1 0=t at *;go_in;go_wp2_with fail;refine C' HT.out ?_;go_wp2_with fail;go_ret;exact U.out t
theorem LR (h:gU w b gp B ps T own){bs bt:Nat}{t:Int}(hs:bh w bs #[b] 49)(ht:bh w bt #[t] 3){i:Nat}(hi:i<32):
  Calls prog 202 #[(i:Int),bs,bt] w (dv w (¬dS (az B ps) (i:Int)/\(nT T i).F≠t)):=by
 have hG:=h.get hi;unfold za at hG;have HG:=ar hG;have c0:w.cell? bs=some (.pointer (some ⟨b,0,none⟩)):=by rw[hs.cell];rfl
 have af:Hid (∀w',ay [] w w'->w'.cell? bt=some (.int .i64 t)):=λw' hk=>by rw[(ht.keep hk (by simp)).cell];rfl
 have HP:Hid (∀(r:Bool) w',(r=true↔¬dS (az B ps) (i:Int)/\(nT T i).F≠t)->ay [] w w'->dv w (¬dS (az B ps) (i:Int)/\(nT T i).F≠t) (.returned (.bool r)) w'):=λr w' z V=>⟨r,rfl,z,V⟩
 have J:Hid ((nT T i).F≠0->¬dS (az B ps) (i:Int)):=λz V=>by
  rcases h.gots.form i with ⟨-,-,h3⟩|⟨h3,-⟩
  ·exact h3.notFree V
  ·exact z h3
 have rH:=dA;clear h hs ht hG;generalize dS (az B ps) (i:Int)=fP,nT T i=n,ae:aM ck (.slice none 0 0)=Z0 at *;have Fq:Hid (Z0.size=18):=by show _=_;rw[<-ae];rfl
 clear ae;go_in;go_wp2_with fail;refine HG.out.mono ?_;rintro e w1 ⟨v,g,va,ga,r,rfl,hB,hE,hg,-,-,ac,hr⟩;obtain⟨U,p1,p2,p3⟩:=cz (n:=n) (v:=v) (bh.new w1 Z0 75) Fq.out hB hE.one;have aa:ay [] w U:=(ac.alloc _).trans p3 (by intro x hx;rw[au] at hx;have :=ac.size;omega);have jw:=ar p1;have c1:U.cell? w1.heap.size=some (.int .i64 n.F):=by rw[p2.cell];exact(gG v hB).f0
 have c2:=af.out U aa;have fo:=ar aa;clear p1 p2 p3 aa hE hg ac HG af hB;generalize aM n v=ZN at *;by_cases V:r=2
 ·subst V
  have HF:Hid (dv w (¬fP/\n.F≠t) (.returned false) U):=HP.out false U ⟨(λh=>by cases h),λh=>by
   rcases hr with ⟨z,-⟩|⟨-,-,z⟩|⟨z,-⟩
   ·omega
   ·exact absurd z h.1
   ·omega⟩ fo.out
  clear hr HP J;generalize n.F=f at *;go_wp2_with(first|(with_reducible refine gS 75 jw.out ?_));go_ret;exact HF.out
 ·have W:¬fP:=by
   rcases hr with ⟨-,z⟩|⟨z,-⟩|⟨-,-,z⟩
   ·exact J.out z
   ·exact absurd z V
   ·exact z
  have b2:(r != 2)=true:=by simpa using V
  clear hr V;by_cases G:n.F=t
  ·have HF:Hid (dv w (¬fP/\n.F≠t) (.returned false) U):=HP.out false U ⟨(λh=>by cases h),λh=>absurd G h.2⟩ fo.out
   have bf:(n.F != t)=false:=by simpa using G
   clear HP J G W;generalize n.F=f at *;go_wp2_with(first|(with_reducible refine gS 75 jw.out ?_));go_ret;exact HF.out
  ·have HF:Hid (dv w (¬fP/\n.F≠t) (.returned true) U):=HP.out true U ⟨λ_=>⟨W,G⟩,λ_=>rfl⟩ fo.out
   have bf:(n.F != t)=true:=by simpa using G
   clear HP J G W;generalize n.F=f at *;go_wp2_with(first|(with_reducible refine gS 75 jw.out ?_));go_ret;exact HF.out
theorem acf (h:tJ w b gp B ps T own)(hT:∀z,ay [b,gp] w z->kN z)(ae:ps.length<=700000){i:Nat}(hi:i<32)(hF:(nT T i).F≠0):
  Calls prog 167 #[b,(i:Int)] w (cQ w b gp B ps 700 (nU (az B ps) (i:Int) { nT T i with F:=(az B ps).getD 1 0 })):=by
 have hG:=h.st.get hi;unfold za at hG;obtain⟨HG,UQ⟩:=hh2 hG (λz (U:ay [] w z)=>zg (h.keep0 U));have LS:Hid (∀z v g,ay [] w z->bD z v g (nT T i).E->w.heap.size<=g->Calls prog 48 #[b,(i:Int),.agg (aM { nT T i with F:=(az B ps).getD 1 0 } v)] z (mL z b gp B ps (i:Int) { nT T i with F:=(az B ps).getD 1 0 })):=λz v g U hE hg=>by
  have ag:eH (az B ps) (i:Int) (nT T i) (own i):=by
   rcases h.st.gots.form i with ⟨-,-,h1⟩|⟨h1,-⟩
   ·exact h1
   ·exact absurd h1 hF
  have aj:=h.st.lt;exact sB (h.st.sh.keep U (by simp) (by simp)) h.st.w64 (λwy hy=>hT wy ((U.mono (by simp)).trans' hy)) (by have :=U.size;omega) ae (i:Int) { nT T i with F:=(az B ps).getD 1 0 } v g ag.len hE (show ∀k,k<(nT T i).E.length->(eX (nT T i).E k).size<=9223372036854775807 from yo ag.right) (λ_=>by omega)
 have mn:Hid (∀z,ay [] w z->∀e w',mL z b gp B ps (i:Int) { nT T i with F:=(az B ps).getD 1 0 } e w'->∃r,e=(r:Int)/\cQ w b gp B ps 700 (nU (az B ps) (i:Int) { nT T i with F:=(az B ps).getD 1 0 }) e w'):=λz U e w' ⟨r,qs,gI,h1,h2,h3,h4,h5,h6⟩=>
  ⟨r,h1,r,qs,gI,h1,by have :=U.size;omega,h3,(U.mono (by simp)).trans' h4,h5,h6⟩
 have Qy:=ar hF;have rH:=dA;clear h hF hT ae hG;generalize mL=PI,nU (az B ps) (i:Int) { nT T i with F:=(az B ps).getD 1 0 }=R at *;generalize (az B ps).getD 1 0=t,nT T i=n,ac:aM ck (.slice none 0 0)=Z0 at *;have Fq:Hid (Z0.size=18):=by show _=_;rw[<-ac];rfl
 clear ac;go_in;go_wp2_with fail;refine HG.out.mono ?_;rintro e G ⟨v,g,va,ga,r,rfl,hB,hE,hg,-,-,J,hr⟩;have LD:r=0:=by
  have :=Qy.out;omega
 subst LD;clear hr;obtain⟨V,p1,p2,p3⟩:=cz (n:=n) (v:=v) (bh.new G Z0 75) Fq.out hB hE.one;have aa:ay [] w V:=(J.alloc _).trans p3 (by intro x hx;rw[au] at hx;have :=J.size;omega);have jw:=ar p1;have Ml:bD V v g n.E:=hE.keep ((((ay.refl [] G).alloc _).mono (by simp)).trans' p3) (λh0=>hE.apart (l:=[G.heap.size]) (λx hx=>by rw[au] at hx;omega) h0);have af:=ab2 p2 t;have W:ay [G.heap.size] V (V.setCell ⟨G.heap.size,0,none⟩ (.int .i64 t)):=(ay.refl _ _).setCell (.inl (by simp)) _;have nD:ay [] w (V.setCell ⟨G.heap.size,0,none⟩ (.int .i64 t)):=aa.trans W (by intro x hx;rw[au] at hx;have :=J.size;omega);have uJ:=ar (cg af (by exact hB));have S6:n.E.length≠0->g∉[G.heap.size]:=λh0=>hE.apart (l:=[G.heap.size]) (λx hx=>by rw[au] at hx;omega) h0
 obtain⟨BI,IA,Tj⟩:=hh3 (LS.out _ v g nD (Ml.keep W S6) hg) (mn.out _ nD) (UQ.out V aa);have oP:Hid (∃c,V.heap[G.heap.size]? =c):=⟨_,rfl⟩;have ai:V.cell? G.heap.size=some (.int .i64 n.F):=by rw[p2.cell];exact(gG v hB).f0
 have mA:=ar p2;clear p1 p3 aa Ml hE hg J HG LS mn UQ af W nD S6 p2;generalize aM n v=ZN,aM { n with F:=t } v=ZT at *;go_wp2_with(first|(with_reducible refine gS 75 jw.out ?_));refine C' Tj.out ?_;have po:=mA.out.frozen;go_wp2_with(first|(with_reducible refine gL 75 uJ.out ?_));refine BI.out.mono ?_;intro e w4 ah;obtain⟨r,rfl,hf⟩:=IA.out e w4 ah;have HF:=ar hf;clear hf ah BI IA;go_wp2_with fail;go_ret;exact HF.out
def rh (X:List Int) (T:List (bT×Value)) (r:Int) (qs:List (Int×Int)):Prop:=
 (X.getD 2 0=32/\r=0/\qs=[])\/∃c:Nat,X.getD 2 0=(c:Int)/\c<32/\
  ((¬(¬dS X (c:Int)/\(nT T c).F≠X.getD 1 0)/\r=0/\qs=[(2,(c:Int)+1)])\/
  ((¬dS X (c:Int)/\(nT T c).F≠X.getD 1 0)/\∃z h,nU X (c:Int) { nT T c with F:=X.getD 1 0 } z h/\((z≠0/\r=z/\qs=h)\/(z=0/\r=0/\qs=h++[(2,(c:Int)+1)]))))
theorem acg (h:tJ w b J B ps T own)(hA:wN (az B ps) T)(hT:∀wx,ay [b,J] w wx->kN wx)(aB:ps.length<=600000):
  Calls prog 130 #[b] w (cQ w b J B ps 701 (rh (az B ps) T)):=by
 obtain⟨HD,ai⟩:=hh2 (Tg h) (Dj h 2 (by omega));have aF:=h.sup.2.2.1;have aN:0<=(az B ps).getD 2 0:=(h.st.w64 2).1;by_cases hc:(az B ps).getD 2 0=32
 ·have HF:Hid (cQ w b J B ps 701 (rh (az B ps) T) (.returned (0:Int)) w):=cQ.none h.st.sh (ay.refl _ _) (.inl ⟨hc,rfl,rfl⟩)
  rw[bu hc] at HD;clear h hA hT aB ai aF aN hc;generalize rh (az B ps) T=R at *;go_in;go_wp2_with fail;refine C' HD.out ?_;go_wp2_with fail;go_ret;exact HF.out
 ·rw[aQ hc] at HD
  obtain⟨c,ac⟩:∃c:Nat,(az B ps).getD 2 0=(c:Int):=⟨((az B ps).getD 2 0).toNat,by omega⟩;have Hs:c<32:=by omega
  have HU:=ar (OG h);have aM:Hid (∀z bs bt,ay [] w z->bh z bs #[b] 49->bh z bt #[((az B ps).getD 1 0:Int)] 3->Calls prog 202 #[(c:Int),(bs:Nat),(bt:Nat)] z (dv z (¬dS (az B ps) (c:Int)/\(nT T c).F≠(az B ps).getD 1 0))):=λz bs bt hk h1 h2=>
   LR (h.st.keep0 hk) h1 h2 Hs
  have ah:Hid ((¬dS (az B ps) (c:Int)/\(nT T c).F≠(az B ps).getD 1 0)->∀wx,ay [] w wx->Calls prog 167 #[b,(c:Int)] wx (cQ wx b J B ps 700 (nU (az B ps) (c:Int) { nT T c with F:=(az B ps).getD 1 0 }))):=λV wx hk=>
   acf (h.keep0 hk) (λwy hy=>hT wy ((hk.mono (by simp)).trans' hy)) (by omega) Hs (by
    rcases hA c Hs with h1|h1
    ·exact absurd h1 V.1
    ·exact h1)
  have Db:Hid (∀z kX qs,qs.length<=700->eK z b kX B (ps++qs)->Calls prog 47 #[b,(2:Int),.int .u64 ((c:Int)+1)] z (jQ z b kX B (ps++(qs++[(2,(c:Int)+1)])))):=λz kX qs hq hs=>by
   have :=pz hs (by rw[aC];omega) 2 ((c:Int)+1);rwa[show Aj (ps++qs) 2 ((c:Int)+1)=ps++(qs++[(2,(c:Int)+1)]) by show(ps++qs)++[(2,(c:Int)+1)]=_;rw[aV]] at this
  have vT:Hid (∀wx,ay [] w wx->eK wx b J B (ps++[])):=λwx hk=>by rw[br];exact h.st.sh.keep hk (by simp) (by simp)
  have av:Hid (¬(¬dS (az B ps) (c:Int)/\(nT T c).F≠(az B ps).getD 1 0)->rh (az B ps) T 0 ([]++[(2,(c:Int)+1)])):=λV=> .inr ⟨c,ac,Hs,.inl ⟨V,rfl,rfl⟩⟩
  have aj:Hid ((¬dS (az B ps) (c:Int)/\(nT T c).F≠(az B ps).getD 1 0)->∀r qs,nU (az B ps) (c:Int) { nT T c with F:=(az B ps).getD 1 0 } r qs->r≠0->rh (az B ps) T r qs):=λV r qs h1 h2=> .inr ⟨c,ac,Hs,.inr ⟨V,r,qs,h1,.inl ⟨h2,rfl,rfl⟩⟩⟩
  have aA:Hid ((¬dS (az B ps) (c:Int)/\(nT T c).F≠(az B ps).getD 1 0)->∀qs,nU (az B ps) (c:Int) { nT T c with F:=(az B ps).getD 1 0 } 0 qs->rh (az B ps) T 0 (qs++[(2,(c:Int)+1)])):=λV qs h1=> .inr ⟨c,ac,Hs,.inr ⟨V,0,qs,h1,.inr ⟨rfl,rfl,rfl⟩⟩⟩
  have aO:=h.st.lt;have Fe:=ar aO;have mn:Hid (∀G U W qs,ay [b,J] w G->(W=J\/(w.heap.size<=W/\W<G.heap.size))->qs.length<=700->rh (az B ps) T 0 (qs++[(2,(c:Int)+1)])->(∃Rl,(Rl=W\/(G.heap.size<=Rl/\Rl<U.heap.size))/\eK U b Rl B (ps++(qs++[(2,(c:Int)+1)]))/\ay [b,W] G U)->cQ w b J B ps 701 (rh (az B ps) T) (.returned (0:Int)) U):=λG U W qs hk hg hq hr ⟨Rl,h1,h2,h3⟩=>by
   have h4:=hk.size;have h5:=h3.size;refine⟨0,_,Rl,rfl,by omega,h2,hk.trans h3 (λx hx=> ?_),by rw[aC];simp;omega,hr⟩;simp only[aL,aK,bC] at hx ⊢;omega
  have Ny:Hid (∀z G r,ay [] w z->(∃qs W,(W=J\/(z.heap.size<=W/\W<G.heap.size))/\eK G b W B (ps++qs)/\ay [b,J] z G/\qs.length<=700/\rh (az B ps) T r qs)->cQ w b J B ps 701 (rh (az B ps) T) (.returned (r:Int)) G):=λz G r hk ⟨qs,W,h1,h2,h3,h4,h5⟩=>by
   have h6:=hk.size;exact⟨r,qs,W,rfl,by omega,h2,(hk.mono (by simp)).trans' h3,by omega,h5⟩
  have aR:IntKind.i64.wrap (c:Int)=(c:Int):=by rw[cy];omega
  rw[ac] at ai;have aa:Hid (IntKind.i64.wrap ((c:Int)+1)=(c:Int)+1/\IntKind.u64.wrap ((c:Int)+1)=(c:Int)+1):=⟨by rw[cy];omega,by rw[fY];omega⟩;clear h hA hT aB aF aN hc ac aO Hs;generalize rh (az B ps) T=R,nU (az B ps) (c:Int) { nT T c with F:=(az B ps).getD 1 0 }=RP,(¬dS (az B ps) (c:Int)/\(nT T c).F≠(az B ps).getD 1 0)=pP at *;generalize (az B ps).getD 1 0=t,PB:(c:Int)=ci at *;clear PB;go_in;go_wp2_with fail;refine C' HD.out ?_;go_wp2_with fail;refine C' ai.out ?_;go_wp2_with fail;refine HU.out.mono ?_;rintro e z ⟨bs,bt,rfl,-,-,aJ,aD,ak⟩;obtain⟨aH,jH⟩:=hh2 (aM.out z bs bt ak aJ aD) ak;clear ak aJ aD HU aM;go_wp2_with fail;refine aH.out.mono ?_;rintro e G ⟨r,rfl,hr,aG⟩;have fo:=ar (jH.out.trans' aG);clear aG aH jH;cases r with
  |false=>
   obtain⟨HN,HP⟩:=hh2 (av.out λV=>by have :=hr.2 V;cases this) (Db.out G J [] (by simp) (vT.out G fo.out));have Zh:=ar (λU=>mn.out G U J [] (fo.out.mono (by simp)) (.inl rfl) (by simp) HN.out);have au:=aa.out;obtain⟨au,aP⟩:=au;clear hr av aj aA ah Db mn Ny vT HN aa;go_wp2_with fail;refine Rr HP.out λU hx=> ?_;have HF:=ar (Zh.out U hx);clear hx HP Zh;go_wp2_with fail;go_ret;exact HF.out
  |true=>
   have V:pP:=hr.1 rfl;obtain⟨Tj,HE,BI⟩:=hh3 (ah.out V G fo.out) (aj.out V) (aA.out V);clear hr av aj aA ah vT V;go_wp2_with fail;refine Tj.out.mono ?_;rintro e U ⟨r,qs,Rl,rfl,ax,ag,ae,SL,af⟩;by_cases h0:r=0
   ·subst h0
    have HP:=ar (Db.out U Rl qs SL ag);have hz:=fo.out.size;have aI:ay [b,J] w U:=(fo.out.mono (by simp)).trans' ae;have Zh:=ar (λw4=>mn.out U w4 Rl qs aI (by omega) SL (BI.out qs af));obtain⟨au,aP⟩:=aa.out;clear ax ag ae SL af hz aI HE BI Tj Db mn Ny aa;go_wp2_with fail;refine Rr HP.out λw4 hx=> ?_;have HF:=ar (Zh.out w4 hx);clear hx HP Zh;go_wp2_with fail;go_ret;exact HF.out
   ·have HF:Hid (cQ w b J B ps 701 R (.returned (r:Int)) U):=Ny.out G U r fo.out ⟨qs,Rl,ax,ag,ae,SL,HE.out r qs af h0⟩
    have b0:(r==0)=false:=by simpa using h0
    clear ax ag ae SL af HE BI Tj Db mn Ny aa h0;go_wp2_with fail;go_ret;exact HF.out
end
end Go.Proofs.YtimcfdnbpkiniaaGreatDoor
