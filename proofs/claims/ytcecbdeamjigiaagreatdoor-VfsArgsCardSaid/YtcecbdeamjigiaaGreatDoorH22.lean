/- Lemmas. -/
import Derived.Test.YtcecbdeamjigiaaGreatDoorH21
import Derived.Maps.OwnOps
import Derived.Maps.Views
set_option maxHeartbeats 2000000
set_option maxRecDepth 100000
namespace Go.Proofs.YtcecbdeamjigiaaGreatDoor
open Go.RowKit Go.Maps
variable{w w':World}{B X Y f xs:List Int}{G b gf gl gn k y:Nat}{D:DataW Unit}{ps qs:List (Int×Int)}{d:Int}{s:ic}{T V:List (bM×Value)}{own:Nat->List Nat}{U l:List Nat}
theorem uo:Keyed Tryz.prog 3 :=int_keyed Tryz.underlying3
theorem CM (w:World):(zeroValue 3).run Tryz.prog w= .ok (.int .i64 0) w:=by kernel_rfl
structure uU (w:World) (B k:Nat) (f:List Int) (D:DataW Unit):Prop where
 own:w.ownsMap Tryz.prog 3 (plainElem Tryz.prog 3) B k D
 map:IsMap D
 get:∀q:Int,D.atKey (.int .i64 q) (.lit (.int .i64 0))= .lit (.int .i64 (if q∈f then 1 else 0))
theorem uU.keep{B:Nat}(h:uU w B k f D){l:List Nat}(V:ay l w w')(G:B∉l):uU w' B k f D:=by
 refine⟨?_,h.map,h.get⟩;have z:=h.own.lt;obtain⟨es,y,U,J,Z,W⟩:=h.own;exact⟨es,y,(V.block B z G).trans U,J,Z,W⟩
theorem uU.skip{B:Nat}(h:uU w B k f D){q:Int}(y:q∈f):uU w B (k+1) (f++[q]) D:=by
 refine⟨h.own.mono (by omega),h.map,λx=> ?_⟩;rw[h.get];have :x∈f++[q]↔x∈f:=by simp;rintro rfl;exact y
 simp only[this]
theorem uU.put{B:Nat}(h:uU w B k f D){q:Int}(y:w'.ownsMap Tryz.prog 3 (plainElem Tryz.prog 3) B (k+1) (D.put (.int .i64 q) (.lit (.int .i64 1)))):
  uU w' B (k+1) (f++[q]) (D.put (.int .i64 q) (.lit (.int .i64 1))):=by
 refine⟨y,h.map.put _ _,λx=> ?_⟩;by_cases e:x=q
 ·subst e
  rw[atKey_put_same h.map (show WideAt.IsKeyLit (.int .i64 x) from trivial),aB (by simp)]
 ·rw[atKey_put_other (by intro h;cases h;exact e rfl),h.get]
  have :x∈f++[q]↔x∈f:=by simp[e]
  simp only[this]
theorem DO (h:dO w b gn gl gf (eW xs ps qs d))(G:0<=d)(J:d<4611686018427387904)(i x:Int)(z:0<=i)(y:i<xs.length):
  Calls Tryz.prog 100 #[.pointer (some ⟨b,0,none⟩),.int .i64 i] w λe w'=>e= .returned (.int .i64 0)/\dO w' b gn gl gf (eW xs ps (qs++[(i,x)]) (d+1))/\ay [b,gn,gl,gf] w w':=by
 have :=G8 h (tQ _ _ _ _ G J) i;rw[jS z y,DM _ _ _ _ _ x z y] at this;exact this
theorem DR (h:dO w b gn gl gf (eW xs ps [] d))(G:0<=d)(J:d<4611686018427387904)(i x:Int)(z:0<=i)(y:i<xs.length):
  Calls Tryz.prog 21 #[.pointer (some ⟨b,0,none⟩),.int .i64 i,.int .u64 x] w λe w'=>e= .returned (.int .i64 0)/\dO w' b gn gl gf (eW xs (ps++[(i,x)]) [] (d+1))/\ay [b,gn,gl,gf] w w':=by
 have :=G7 h (tQ _ _ _ _ G J) i x;rw[jS z y,DL _ _ _ _ _ z y] at this;exact this
theorem dO.old(h:dO w b gn gl gf s)(y:s.now.length≠0):b<w.heap.size/\gn<w.heap.size/\gl<w.heap.size/\gf<w.heap.size:=by
 obtain⟨G,z,J,a,c,d,e⟩:=h.at_;exact⟨a.lt,(c.cell y).1,(d.cell y).1,(e.cell (by omega)).1⟩
theorem JD (xs:List Int)(ps qs:List (Int×Int))(d:Int):(eW xs ps qs d).now.length=xs.length:=bO _ _
theorem PJ (h:dO w b gn gl gf (eW xs ps [] d))(h0:0<=d)(hd:d<4000000000000000000){v:Value}{g:Nat}(hr:kN w v g qs)
  (hq:J4 qs xs.length) (hn:qs.length<=1000) (hx:xs.length<=100000) (hg:qs.length≠0->g∉[b,gn,gl,gf]):
  Calls Tryz.prog 121 #[.pointer (some ⟨b,0,none⟩),v] w λe w'=>e= .returned (.int .i64 0)/\dO w' b gn gl gf (eW xs ps qs (d+(uY qs:Nat)))/\ay [b,gn,gl,gf] w w':=by
 have H:=ar h;have HR:=ar hr;have HQ:=ar hq;have HG:=ar hg;obtain⟨a,cap,rfl,h1,h2⟩:=hr.val;unfold maxLen at h2;have HB:Hid (qs.length≠0->w.heap.size∉[b,gn,gl,gf]):=λai W=>by
  have hi:=wD hq (k:=0) (by omega);have :=h.old (by rw[JD];omega);simp only[aS,aV,bL] at W;omega
 have J5:= @run_makeMap Tryz.prog;clear h hr hq hg;go_enter Tryz.func121,Tryz.ntmps121;go_wp2_with fail;go_loopg [13] qs.length (λgh s13 wx=>∃k:Nat,k+gh=qs.length/\s13= .int .i64 (k:Int)/\
  Hid ((∃D,uU wx w.heap.size k ((gi qs).take k) D)/\dO wx b gn gl gf (eW xs ps (qs.take k) (d+(j7 (gi qs) k:Nat)))/\ay [b,gn,gl,gf] w wx))
 case atStart=>
  refine⟨0,by omega,rfl,⟨.map [],World.ownsMap_made _ _ _ _,isMap_empty,λq=>by simp[DataW.atKey]⟩,?_,(ay.refl _ _).alloc _⟩;have :=H.out.keep ((ay.refl [] w).alloc (.map #[] 0)) (by simp) (by simp);simpa[j7] using this
 case round=>
  obtain⟨k,hk,rfl,HI⟩:=hrel;cases gk with
  |zero=>
   obtain rfl:k=qs.length:=by omega
   have ae:¬(qs.length:Int)<(qs.length:Int):=by omega
   have HE:=HI.out.2;rw[aQ (aG _)] at HE;have HE:=ar HE;go_wp2_with fail;go_ret;exact⟨rfl,HE.out.1,HE.out.2⟩
  |succ gg=>
   have ae:(k:Int)<(qs.length:Int):=by omega
   obtain⟨⟨D,hD⟩,hp,eI⟩:=HI.out;have Yy:=HG.out (by omega);have hB:=HB.out (by omega);obtain⟨se,off,rfl,c0,c1⟩:=(HR.out.keep eI (λ_=>Yy)).get (j:=k) (by omega);obtain⟨x0,x1⟩:=wD HQ.out (k:=k) (by omega);have ah:=qV (gi qs) k;have HS:=ar (Fo qs k (by omega));have HT:=ar (ou qs k (by omega));have af:=ar (G4 qs k (by omega));have ac:=ar (Gr xs ps (qs.take k) (d+(j7 (gi qs) k:Nat)) (iD qs k) (nw qs k));rw[<-qU] at ac;have Rt:Hid (j7 (gi qs) (k+1)=j7 (gi qs) k+if iD qs k/8∈(gi qs).take k then 0 else 1):=by
    show j7 (gi qs) (k+1)=_;rw[j7,af.out]
   generalize iD qs k=x at *;generalize nw qs k=y at *;have HD:=ar hD;have HP:=ar hp;have gI:=ar eI;have nY:=ar hB;have V:keyOf Tryz.prog 3 (.int .i64 (x/8))=some (.int .i64 (x/8)):=keyOf_int_mk Tryz.underlying3 (WalkArith.wf_i64 (by omega));have G:=ar V;clear hD hp eI hB Yy HI V;generalize (gi qs).take k=f at *;by_cases W:x/8∈f
   ·rw[aB W] at Rt
    have HM:=ar W;clear W;go_wp2_with(at_lookup;refine wpList_lookup_own_int _ rfl _ _ 208 rfl 3 3 .i64 uo Tryz.underlying208 Tryz.underlying3 (CM _) w.heap.size k _ rfl (HD.out.own.alloc _) _ _ rfl G.out ?_;intro c z J;(obtain rfl:c=1:=by(rw[HD.out.get,aB HM.out] at z;cases z;rfl));clear z J);go_roundg gg;case measure=>omega
    case rel=>
     refine⟨k+1,by omega,by go_num,⟨D,?_⟩,?_,gI.out.alloc _⟩
     ·rw[HS.out]
      exact(HD.out.skip HM.out).keep ((ay.refl [] _).alloc _) (by simp)
     ·rw[Rt.out,HT.out,dH,ac.out HM.out]
      exact HP.out.keep ((ay.refl [] _).alloc _) (by simp) (by simp)
   ·rw[aA W] at Rt
    have HM:=ar W;clear W;go_wp2_with(at_lookup;refine wpList_lookup_own_int _ rfl _ _ 208 rfl 3 3 .i64 uo Tryz.underlying208 Tryz.underlying3 (CM _) w.heap.size k _ rfl (HD.out.own.alloc _) _ _ rfl G.out ?_;intro c z J;(obtain rfl:c=0:=by(rw[HD.out.get,aA HM.out] at z;cases z;rfl));clear z J);refine(DO (HP.out.keep ((ay.refl [] _).alloc _) (by simp) (by simp)) (by omega) (by omega) x y x0 x1).mono ?_;rintro e w2 ⟨rfl,C9,aa⟩;have nZ:=ar C9;have U:=ar ((HD.out.keep ((ay.refl [] _).alloc _) (by simp)).keep aa nY.out);have fj:=ar ((gI.out.alloc _).trans' aa);clear C9 aa;go_wp2_with(first|(at_lookup;refine wpList_lookup_own_int _ rfl _ _ 208 rfl 3 3 .i64 uo Tryz.underlying208 Tryz.underlying3 (CM _) w.heap.size k _ rfl U.out.own _ _ rfl G.out ?_;intro c z J;(obtain rfl:c=0:=by(rw[U.out.get,aA HM.out] at z;cases z;rfl));clear z J)|(at_mapUpdate;refine wpList_mapUpdate_own _ rfl _ _ _ 208 rfl 3 3 uo Tryz.underlying208 _ w.heap.size k _ rfl U.out.own (by unfold maxLen;omega) _ _ _ rfl rfl G.out (.lit (.int .i64 1)) [] (plainElem_int Tryz.underlying3 (by decide)) ?_;intro w3 Yh TI));have ag:=ar (U.out.put Yh);have Z:ay [w.heap.size] w2 w3:=ay.of_grown TI (by intro q hq;cases hq;simp);have zV:=ar (nZ.out.keep Z (by have :=nY.out;simp at this ⊢;omega) (λ_=>by have :=nY.out;simp at this ⊢;omega));have lS:=ar (fj.out.trans Z (by simp));clear Yh TI Z;go_wp2_with fail;go_roundg gg;case measure=>omega
    case rel=>
     refine⟨k+1,by omega,by go_num,⟨D.put (.int .i64 (x/8)) (.lit (.int .i64 1)),?_⟩,?_,lS.out⟩
     ·rw[HS.out]
      exact ag.out
     ·rw[Rt.out,HT.out]
      have :=zV.out;rw[show d+((j7 (gi qs) k+1:Nat):Int)=d+(j7 (gi qs) k:Nat)+1 by omega];exact this
theorem yP (h:dO w b gn gl gf (calm xs d))(h0:0<=d)(hd:d<3000000000000000000){v:Value}{g:Nat}{ps:List (Int×Int)}(hr:kN w v g ps)
  (hq:J4 ps xs.length) (hn:ps.length<=1000) (hx:xs.length<=100000) (hg:ps.length≠0->g∉[b,gn,gl,gf]):
  Calls Tryz.prog 70 #[.pointer (some ⟨b,0,none⟩),v] w λe w'=>e= .returned (.int .i64 0)/\dO w' b gn gl gf (calm (az xs ps) (d+(j9 ps:Nat)))/\ay [b,gn,gl,gf] w w':=by
 have H:=ar h;have HR:=ar hr;have HQ:=ar hq;have HG:=ar hg;obtain⟨a,cap,rfl,h1,h2⟩:=hr.val;unfold maxLen at h2;clear h hr hq hg;go_enter Tryz.func70,Tryz.ntmps70;go_wp2_with fail;go_loopg [11] ps.length (λgh NY wx=>∃k:Nat,k+gh=ps.length/\NY= .int .i64 (k:Int)/\
  Hid (dO wx b gn gl gf (eW xs (ps.take k) [] (d+(k:Nat)))/\ay [b,gn,gl,gf] w wx))
 case atStart=>
  refine⟨0,by omega,rfl,?_,ay.refl _ _⟩;have :=H.out;rw[Nj] at this;simpa using this
 case round=>
  obtain⟨k,hk,rfl,HI⟩:=hrel;cases gk with
  |zero=>
   obtain rfl:k=ps.length:=by omega
   have Z:¬(ps.length:Int)<(ps.length:Int):=by omega
   obtain⟨G,J⟩:=HI.out;rw[aQ (aG _)] at G;have HF:=ar (PJ G (by omega) (by omega) (HR.out.keep J HG.out) HQ.out hn hx HG.out);have gI:=ar J;clear G J;have lR:=qV (gi ps) ps.length;go_wp2_with fail;refine HF.out.mono ?_;rintro e w2 ⟨rfl,W,z⟩;have U:=Ha W (tQ _ _ _ _ (by omega) (by unfold uY;omega));obtain⟨e1,e2⟩:=DN xs ps (d+(ps.length:Nat)+(uY ps:Nat)) (λp G=>(HQ.out p G).1);rw[e1,e2] at U;have V6:=ar U;have fj:=ar (gI.out.trans' z);clear W z U e1 e2;go_wp2_with fail;refine V6.out.mono ?_;rintro e w3 ⟨rfl,DT,V⟩;have zV:=ar DT;have lS:=ar (fj.out.trans' V);clear DT V;go_wp2_with fail;go_ret;refine⟨rfl,?_,lS.out⟩;rw[show d+((j9 ps:Nat):Int)=d+(ps.length:Nat)+(uY ps:Nat)+1 by unfold j9;omega];exact zV.out
  |succ gg=>
   have Z:(k:Int)<(ps.length:Int):=by omega
   obtain⟨G,J⟩:=HI.out;obtain⟨se,off,rfl,c0,c1⟩:=(HR.out.keep J HG.out).get (j:=k) (by omega);obtain⟨x0,x1⟩:=wD HQ.out (k:=k) (by omega);have HT:=ar (ou ps k (by omega));generalize iD ps k=x at *;generalize nw ps k=y at *;have HP:=ar G;have gI:=ar J;clear G J HI;go_wp2_with fail;refine(DR (HP.out.keep ((ay.refl [] _).alloc _) (by simp) (by simp)) (by omega) (by omega) x y x0 x1).mono ?_;rintro e w2 ⟨rfl,W,z⟩;have nZ:=ar W;have fj:=ar ((gI.out.alloc _).trans' z);clear W z;go_wp2_with fail;go_roundg gg;case measure=>omega
   case rel=>
    refine⟨k+1,by omega,by go_num,?_,fj.out⟩;rw[HT.out,show d+((k+1:Nat):Int)=d+(k:Nat)+1 by omega];exact nZ.out
theorem TJ (w:World)(a x:Int)(T:Nat):kN (w.alloc (.cells #[.int .i64 a,.int .u64 x] T)) (.slice (some ⟨w.heap.size,0,none⟩) 1 1) w.heap.size [(a,x)]:=
 eE.preads (T:=T) ⟨rfl,_,1,rfl,aG _,by unfold maxLen;omega,λ_=>⟨rfl,_,bm.new _ _ _,rfl,rfl⟩⟩
theorem nN (h:dO w b gn gl gf (calm xs d))(h0:0<=d)(Z:d<3000000000000000000)(hx:xs.length=3128)(x:Int):
  Calls Tryz.prog 72 #[.pointer (some ⟨b,0,none⟩),.int .u64 x] w λe w'=>e= .returned (.int .i64 0)/\dO w' b gn gl gf (calm (az xs [(8,x)]) (d+3))/\ay [b,gn,gl,gf] w w':=by
 have ho:=h.old (by show xs.length≠0;omega);have G:=λ(z:World) (hk:ay [] w z) (he:z.heap.size=w.heap.size)=>yP (h.keep (hk.alloc (.cells #[.int .i64 8,.int .u64 x] 61)) (by simp) (by simp)) h0 Z (TJ z 8 x 61) (by intro p J;simp at J;subst J;simp;omega) (by simp) (by omega) (by intro _ hm;simp at hm;omega)
 rw[G5] at G;have V:=ar G;clear G ho h;go_enter Tryz.func72,Tryz.ntmps72;go_wp2_with fail;refine(V.out w (ay.refl _ _) rfl).mono ?_;rintro e w2 ⟨rfl,U,y⟩;have W:=ar U;have fj:=ar (((ay.refl _ _).alloc _).trans' y);clear U y;go_wp2_with fail;go_ret;exact⟨rfl,W.out,fj.out⟩
theorem JE (h:dO w b gn gl gf (calm xs d))(h0:0<=d)(hd:d<2000000000000000000)(G:xs.length=3128){v:Value}{g:Nat}{ps:List (Int×Int)}(J:kN w v g ps)
  (U:J4 ps 3128) (hn:ps.length<=1000) (V:ps.length≠0->g∉[b,gn,gl,gf]):
  Calls Tryz.prog 74 #[.pointer (some ⟨b,0,none⟩),v] w λe w'=>e= .returned (.int .i64 0)/\dO w' b gn gl gf (calm (QX xs ps) (d+(j9 ps:Nat)+3))/\ay [b,gn,gl,gf] w w':=by
 have HS:=ar (yP h h0 (by omega) J (by rw[G];exact U) hn (by omega) V);have lR:=qW ps;have HX:=ar G;obtain⟨a,cap,rfl,-,-⟩:=J.val;clear h J U V G;go_enter Tryz.func74,Tryz.ntmps74;go_wp2_with fail;refine HS.out.mono ?_;rintro e w2 ⟨rfl,Z,z⟩;have HC:=ar (nN Z (by omega) (by omega) (by rw[bO];exact HX.out) 0);have fj:=ar z;clear Z z;go_wp2_with fail;refine HC.out.mono ?_;rintro e w3 ⟨rfl,W,y⟩;have zV:=ar W;have lS:=ar (fj.out.trans' y);clear W y;go_wp2_with fail;go_ret;exact⟨rfl,zV.out,lS.out⟩
end Go.Proofs.YtcecbdeamjigiaaGreatDoor
namespace Go.Proofs.YtcecbdeamjigiaaGreatDoor
open Go.RowKit
variable{w w':World}{B X Y f xs:List Int}{G b gf gl gn k y:Nat}{D:DataW Unit}{ps qs:List (Int×Int)}{d:Int}{s:ic}{T V:List (bM×Value)}{own:Nat->List Nat}{U l:List Nat}
theorem xy (h:dO w b gn gl gf (calm xs d))(y:xs.length=3128):
  Calls Tryz.prog 46 #[.pointer (some ⟨b,0,none⟩)] w λe w'=>e= .returned (.int .i64 3128)/\w=w':=by
 have :=Bc h;rw[show((calm xs d).now.length:Int)=3128 by show(xs.length:Int)=3128;omega] at this;exact this
theorem TK (h:wC ps=true):J4 ps 3128:=λp y=>by have :=Nv h y;omega
theorem WR (h:ps.length<=400):J4 (kf (ey ps)) 3128:=λp y=>by
 have :=G3 y;rw[km] at this;omega
def PK (w:World) (b gn gl gf:Nat) (xs:List Int) (d:Int) (e:Ending) (w':World):Prop:=
 e= .returned (.int .i64 0)/\dO w' b gn gl gf (calm xs d)/\ay [b,gn,gl,gf] w w'
theorem PL (h:dO w b gn gl gf (calm xs d))(h0:0<=d)(hd:d<1000000000000000000)(hx:xs.length=3128){v:Value}{g:Nat}{ps:List (Int×Int)}(hr:kN w v g ps)
  (gW:Xn ps) (ae:wC ps=true) (hn:ps.length<=400) (hg:ps.length≠0->g∉[b,gn,gl,gf]):
  Calls Tryz.prog 30 #[.pointer (some ⟨b,0,none⟩),v] w (PK w b gn gl gf (kz xs ps) (d+(xQ ps:Nat))):=by
 have H:=ar h;have HR:=ar hr;have HX:=ar hx;have HG:=ar hg;have ac:=ar ae;have GW:=ar gW;have HL:=ar (xy h hx);have HW:=ar (LS hr gW hn);obtain⟨a,cap,rfl,h1,h2⟩:=hr.val;unfold maxLen at h2;have y:=ar (h.old (by show xs.length≠0;omega));have q4:¬(400:Int)<(ps.length:Int):=by omega
 clear h hr gW hg ae hx;go_enter Tryz.func30,Tryz.ntmps30;go_wp2_with fail;refine HL.out.mono ?_;rintro e w' ⟨rfl,rfl⟩;go_wp2_with fail;refine HW.out.mono ?_;rintro e w1 ⟨vw,gw,rfl,Yi,UM,dc⟩;obtain⟨aw,cw,rfl,-,-,-⟩:=fM Yi;have Aa:=ar Yi;have iH:=ar dc;have HU:=ar (A9 GW.out);have QE:=xx Yi HU.out ps.length (km ps) (by omega);rw[Bb GW.out,ac.out] at QE;have QE:=ar QE;have Ya:=ar (H.out.keep dc (by simp) (by simp));clear Yi dc;go_wp2_with fail;refine QE.out.mono ?_;rintro e w' ⟨rfl,rfl⟩;go_wp2_with fail;refine(um Ya.out 8 (by omega) (by rw[HX.out];omega)).mono ?_;rintro e w' ⟨rfl,rfl⟩;by_cases U:ps.length=0
 ·obtain rfl:ps=[]:=bg U
  clear U;go_wp2_with fail;go_ret;refine⟨rfl,?_,iH.out.mono (by simp)⟩;simpa[kz,xQ] using Ya.out
 ·have W:((ps.length:Int)==0)=false:=cg.2 (by omega)
  have ak:(ps.length==0)=false:=cg.2 U;have QS:Hid (ps≠[]):=λe=>U (by rw[e];rfl)
  have HZ:=ar U;clear U;go_wp2_with fail;refine(TG Aa.out (by rw[km];omega)).mono ?_;rintro e w2 ⟨vl,ap,rfl,tX,aq,J⟩;obtain⟨al,cl,rfl,-,-⟩:=tX.val;have fj:=ar J;have ho:=y.out;have W:=iH.out.size;have Kc:=ar (yP (Ya.out.keep J (by simp) (by simp)) h0 (by omega) tX (by rw[HX.out];exact WR hn) (by rw[kT,km];omega) (by rw[HX.out];omega) (by intro _ hm;simp only[aS,aV,bL] at hm;omega));clear tX J ho W;go_wp2_with fail;refine Kc.out.mono ?_;rintro e w3 ⟨rfl,DT,G⟩;have zV:=ar DT;have ho:=y.out;have V:=(Aa.out.keep fj.out (by simp)).keep G (by intro hm;simp only[aS,aV,bL] at hm;omega);have ag:=ar (uT V HU.out (by rw[km];omega));have lS:Hid (ay [b,gn,gl,gf] w w3):=((iH.out.trans fj.out (by simp)).mono (by simp)).trans' G;clear DT G V ho;go_wp2_with fail;refine ag.out.mono ?_;rintro e w4 ⟨rfl,z⟩;have aj:=qW (kf (ey ps));rw[kT,km] at aj;have ai:=ar (nN (zV.out.keep z (by simp) (by simp)) (by omega) (by omega) (by rw[bO];exact HX.out) (nI (ey ps)));have nK:=ar (lS.out.trans z (by simp));clear z;go_wp2_with fail;refine ai.out.mono ?_;rintro e w5 ⟨rfl,Z,jG⟩;have oH:=ar (nK.out.trans' jG);have af:=ar (JE Z (by omega) (by omega) (by rw[bO,bO];exact HX.out) (HR.out.keep oH.out HG.out) (TK ac.out) (by omega) HG.out);clear Z jG;go_wp2_with fail;refine af.out.mono ?_;rintro e w6 ⟨rfl,aa,jz⟩;have ah:=ar aa;have mX:=ar (oH.out.trans' jz);clear aa jz;go_wp2_with fail;go_ret;refine⟨rfl,?_,mX.out⟩;rw[kz,aA QS.out,xQ,aA QS.out];have :=ah.out;rw[show d+((j9 (kf (ey ps))+3+j9 ps+3:Nat):Int)=d+(j9 (kf (ey ps)):Nat)+3+(j9 ps:Nat)+3 by omega];exact this
theorem Gv (h:dO w b gn gl gf s)(z:s.now.length≠3128):
  Calls Tryz.prog 90 #[.pointer (some ⟨b,0,none⟩)] w λe w'=>e= .returned (.tuple #[.slice none 0 0,.bool false,.int .i64 1])/\w=w':=by
 have y:=ar (Bc h);have G:((s.now.length:Int) != 3128)=true:=by simp;omega
 clear h z;generalize s.now.length=n at *;go_enter Tryz.func90,Tryz.ntmps90;go_wp2_with fail;refine y.out.mono ?_;rintro e w' ⟨rfl,rfl⟩;go_wp2_with fail
 go_ret3
 exact⟨rfl,rfl⟩
theorem LU (h:dO w b gn gl gf s)(y:s.now.length≠3128):
  Calls Tryz.prog 44 #[.pointer (some ⟨b,0,none⟩)] w λe w'=>e= .returned (.int .i64 1)/\w=w':=by
 have z:=ar (Gv h y);clear h y;go_enter Tryz.func44,Tryz.ntmps44;go_wp2_with fail;refine z.out.mono ?_;rintro e w' ⟨rfl,rfl⟩;go_wp2_with fail;go_ret;exact⟨rfl,rfl⟩
def DU (xs:List Int):Nat:=(xs.getD 8 0/4294967296).toNat
def Gw (xs:List Int):Option (List (Int×Int)):=
 if 1<=DU xs/\DU xs<=400/\xs.getD 8 0=nI (mK xs (2*DU xs))/\jJ (mK xs (2*DU xs)) (DU xs)=true then some (aaz (mK xs (2*DU xs)) (DU xs)) else none
def PN (w:World) (e:Ending) (w':World):Prop:=e= .returned (.tuple #[.slice none 0 0,.bool false,.int .i64 0])/\ay [] w w'
theorem PO (h:dO w b gn gl gf (calm xs d))(m:Nat)(G:m<=800)(z:xs.length=3128)(M:Int)(y:M=(m:Int)):
  Calls Tryz.prog 132 #[.pointer (some ⟨b,0,none⟩),.int .i64 9,.int .i64 M] w (nt w (mK xs m)):=by
 subst y;exact TH h m G z
theorem DV (h:dO w b gn gl gf (calm xs d))(J:xs.length=3128)(hu:A8 xs)(z:Gw xs=none):
  Calls Tryz.prog 90 #[.pointer (some ⟨b,0,none⟩)] w (PN w):=by
 have W:=ar (xy h J);have U:=ar (um h 8 (by omega) (by rw[J];omega));rw[show(8:Int).toNat=8 from rfl] at U;obtain⟨c0,c1⟩:=Ba hu 8;obtain⟨n,V⟩:∃n:Nat,DU xs=n:=⟨_,rfl⟩;have hc:xs.getD 8 0/4294967296=(n:Int):=by unfold DU at V;omega
 have QE:=ar (PO h (2*n));have HX:=ar J;have HU:=ar hu;unfold Gw at z;rw[V] at z;have HS:Hid (¬(1<=n/\n<=400/\xs.getD 8 0=nI (mK xs (2*n))/\jJ (mK xs (2*n)) n=true)):=λe=>by rw[aB e] at z;cases z
 generalize ac:xs.getD 8 0=c at *;clear h J hu V ac z;by_cases h1:n<1
 ·go_enter Tryz.func90,Tryz.ntmps90
  go_wp2_with fail;refine W.out.mono ?_;rintro e w' ⟨rfl,rfl⟩;go_wp2_with fail;refine U.out.mono ?_;rintro e w' ⟨rfl,rfl⟩;go_wp2_with fail
  go_ret3
  exact⟨rfl,ay.refl _ _⟩
 ·by_cases h2:400<n
  ·go_enter Tryz.func90,Tryz.ntmps90
   go_wp2_with fail;refine W.out.mono ?_;rintro e w' ⟨rfl,rfl⟩;go_wp2_with fail;refine U.out.mono ?_;rintro e w' ⟨rfl,rfl⟩;go_wp2_with fail
   go_ret3
   exact⟨rfl,ay.refl _ _⟩
  ·go_enter Tryz.func90,Tryz.ntmps90
   go_wp2_with fail;refine W.out.mono ?_;rintro e w' ⟨rfl,rfl⟩;go_wp2_with fail;refine U.out.mono ?_;rintro e w' ⟨rfl,rfl⟩;go_wp2_with fail;refine(QE.out (by omega) HX.out _ (by omega)).mono ?_;rintro e w1 ⟨vw,gw,rfl,Yi,UM,dc⟩;obtain⟨aw,cw,rfl,-,-,-⟩:=fM Yi;have Aa:=ar Yi;have iH:=ar dc;clear Yi dc;go_wp2_with fail;refine(uT Aa.out (JC HU.out _) (by rw[nr];omega)).mono ?_;rintro e w2 ⟨rfl,y⟩;have fj:=ar (iH.out.trans y (by simp));have Mt:=ar (xx (Aa.out.keep y (by simp)) (JC HU.out _) n (nr _ _) (by omega));clear y;generalize rO:nI (mK xs (2*n))=mk at *;by_cases G:c=mk
   ·have Z:(c != mk)=false:=by simpa using G
    have aa:Hid (jJ (mK xs (2*n)) n=false):=by
     show jJ (mK xs (2*n)) n=false;cases hp:jJ (mK xs (2*n)) n
     ·rfl
     ·exact absurd ⟨by omega,by omega,G,hp⟩ HS.out
    rw[aa.out] at Mt;subst G;clear rO;go_wp2_with(go_at_call 69;refine Mt.out.mono ?_;rintro e w' ⟨rfl,rfl⟩)
    go_ret3
    exact⟨rfl,fj.out⟩
   ·have Z:(c != mk)=true:=by simpa using G
    clear rO G;go_wp2_with fail
    go_ret3
    exact⟨rfl,fj.out⟩
theorem TL (J:X.length=3128):∀k,k<=3128->∀i,(az X (cA X Y k)).getD i 0=if i<k then Y.getD i 0 else X.getD i 0:=by
 intro k;induction k with
 |zero=>intro _ i;rw[aA (by omega)];rfl
 |succ k ih=>
  intro U i;by_cases z:Y.getD k 0=X.getD k 0
  ·rw[ze X Y k z,ih (by omega)]
   by_cases h:i<k
   ·rw[aB h,aB (by omega)]
   ·rw[aA h]
    by_cases y:i=k
    ·rw[aB (by omega),y,z]
    ·rw[aA (by omega)]
  ·have e:cA X Y (k+1)=cA X Y k++[((k:Int),Y.getD k 0)]:=by
    unfold cA;rw[dL,dV,dZ]
    congr 1
    have G:(Y.getD k 0 != X.getD k 0)=true:=bne_iff_ne.2 z;simp only[ft,G,if_true,List.filter_nil];rfl
   rw[e,bo,k9,aH,iR _ _ _ _ (by rw[bO];omega)];by_cases h:i=k
   ·rw[aB h.symm,aB (by omega),h]
   ·rw[aA (dx h),ih (by omega)]
    by_cases y:i<k
    ·rw[aB y,aB (by omega)]
    ·rw[aA y,aA (by omega)]
theorem TM{p:Int×Int}(h:p∈cA X Y k):∃i:Nat,i<k/\p=((i:Int),Y.getD i 0)/\Y.getD i 0≠X.getD i 0:=by
 unfold cA at h;obtain⟨i,y,rfl⟩:=bB.1 h;rw[List.mem_filter,bS] at y;exact⟨i,y.1,rfl,by simpa using y.2⟩
theorem WS{L:List Nat}(h:∀i,i<3128->Y.getD i 0≠X.getD i 0->i∈L):(cA X Y 3128).length<=L.length:=by
 unfold cA;rw[bJ];have G:∀(l m:List Nat),l.Nodup->(∀x∈l,x∈m)->l.length<=m.length:=by
  intro l;induction l with
  |nil=>intro m _ _;exact et _
  |cons a l ih=>
   intro m W h;have U:=List.nodup_cons.1 W;have J:=h a (by simp);have V:=ih (m.erase a) U.2 λx y=>by
    have z:x≠a:=λe=>U.1 (e▸y)
    exact(List.mem_erase_of_ne z).2 (h x (by simp[y]))
   rw[List.length_erase_of_mem J] at V;have :0<m.length:=List.length_pos_of_mem J;simp only[bH];omega
 refine G _ L (List.Sublist.nodup List.filter_sublist List.nodup_range) λx y=> ?_
 rw[List.mem_filter,bS] at y;exact h x y.1 (by simpa using y.2)
theorem JF (hX:X.length=3128)(eT:dD X)(Z:dD Y)(hj:∀k,8<=k->k<816->Y.getD k 0=X.getD k 0)(h8:X.getD 8 0=0)(hn:(cA X Y 3128).length<=400):
  Xn (cA X Y 3128)/\wC (cA X Y 3128)=true/\(kz X (cA X Y 3128)).length=3128/\dD (kz X (cA X Y 3128))/\(kz X (cA X Y 3128)).getD 8 0=0/\
   ∀k,k<3128->(k<8\/816<=k)->(kz X (cA X Y 3128)).getD k 0=Y.getD k 0:=by
 have Am:∀p∈cA X Y 3128,∃i:Nat,i<3128/\(i<8\/816<=i)/\p=((i:Int),Y.getD i 0):=λp y=>by
  obtain⟨i,V,h2,h3⟩:=TM y;refine⟨i,V,?_,h2⟩;rcases dr i 8 with W|W
  ·exact .inl W
  ·rcases dr i 816 with h5|h5
   ·exact absurd (hj i W h5) h3
   ·exact .inr h5
 have gW:Xn (cA X Y 3128):=λp y=>by
  obtain⟨i,V,-,rfl⟩:=Am p y;have :=Z i
  dsimp only
  omega
 have uN:wC (cA X Y 3128)=true:=by
  unfold wC;rw[eP];intro p y;obtain⟨i,V,h2,rfl⟩:=Am p y;exact kj.2 (by dsimp only;omega)
 have ae:=km (cA X Y 3128);have G:=TL (Y:=Y) hX 3128 (aG _);by_cases z:cA X Y 3128=[]
 ·have e:kz X (cA X Y 3128)=X:=by unfold kz;rw[aB z]
  rw[e];refine⟨gW,uN,hX,eT,h8,λk U _=> ?_⟩;have :=G k;rw[z,aB U] at this;exact this
 ·have e:kz X (cA X Y 3128)=az (az (az (az X (kf (ey (cA X Y 3128)))) [(8,nI (ey (cA X Y 3128)))]) (cA X Y 3128)) [(8,0)]:=by unfold kz;rw[aA z];rfl
  have ag:∀p∈kf (ey (cA X Y 3128)),9<=p.1/\p.1<809+1:=λp y=>by
   have :=G3 y;omega
  have af:0<=nI (ey (cA X Y 3128))/\nI (ey (cA X Y 3128))<18446744073709551616:=by
   unfold nI;have V:=Fm ((ey (cA X Y 3128)).map Int.toNat);rw[ae,show 2*(cA X Y 3128).length/2=(cA X Y 3128).length by omega];omega
  have V:dD (az X (kf (ey (cA X Y 3128)))):=eT.put λp y=>by
   have hu:=A9 gW;unfold kf at y;obtain⟨k,U,rfl⟩:=List.mem_mapIdx.1 y;have :=hu _ (bp U)
   dsimp only
   omega
  have h2:dD (az (az X (kf (ey (cA X Y 3128)))) [(8,nI (ey (cA X Y 3128)))]):=V.put λp y=>by rw[au] at y;subst y;exact af
  have h3:dD (az (az (az X (kf (ey (cA X Y 3128)))) [(8,nI (ey (cA X Y 3128)))]) (cA X Y 3128)):=h2.put λp y=>by
   obtain⟨i,-,-,rfl⟩:=Am p y;exact Z i
  have W:dD (az (az (az (az X (kf (ey (cA X Y 3128)))) [(8,nI (ey (cA X Y 3128)))]) (cA X Y 3128)) [(8,0)]):=h3.put λp y=>by rw[au] at y;subst y;exact⟨Int.le_refl _,by decide⟩
  have C4:(az (az X (kf (ey (cA X Y 3128)))) [(8,nI (ey (cA X Y 3128)))]).length=3128:=by rw[bO,bO,hX]
  -- the words under the journal are the same
  have J:∀k,(k<8\/816<=k)->(az (az X (kf (ey (cA X Y 3128)))) [(8,nI (ey (cA X Y 3128)))]).getD k 0=X.getD k 0:=λk U=>by
   rw[eo _ _ _ λp y=>by rw[au] at y;subst y;show(8:Int).toNat≠k;rw[show(8:Int).toNat=8 from rfl];omega,eo _ _ _ λp y=>by have :=ag p y;omega]
  refine⟨gW,uN,by rw[e,bO,bO,C4],by rw[e];exact W,?_,λk U ac=> ?_⟩
  ·rw[e,k9,show(8:Int).toNat=8 from rfl,iR _ _ _ _ (by rw[bO,C4];omega),aB rfl]
  ·rw[e,eo _ _ _ λp y=>by rw[au] at y;subst y;show(8:Int).toNat≠k;rw[show(8:Int).toNat=8 from rfl];omega]
   -- the same puts over words that are the same there
   have aa:∀(ps:List (Int×Int)) (A B:List Int),A.length=3128->B.length=3128->A.getD k 0=B.getD k 0->(az A ps).getD k 0=(az B ps).getD k 0:=by
    intro ps;induction ps with
    |nil=>intro A B _ _ h;exact h
    |cons p ps ih=>
     intro A B hA hB h;show(az (A.set p.1.toNat p.2) ps).getD k 0=(az (B.set p.1.toNat p.2) ps).getD k 0;refine ih _ _ (by rw[cG,hA]) (by rw[cG,hB]) ?_;rcases dr p.1.toNat 3128 with y|y
     ·rw[iR _ _ _ _ (by omega),iR _ _ _ _ (by omega)]
      split
      ·rfl
      ·exact h
     ·rw[gK (by omega),gK (by omega)]
      exact h
   rw[aa _ _ X C4 hX (J k ac),G,aB U]
theorem nV.journal{W:List Nat}(h:nV X T V own W)(hl:Y.length=3128)(eT:dD Y)(Z:∀k,k<3128->(k<8\/816<=k)->Y.getD k 0=X.getD k 0):nV Y T V own W/\nj X Y []:=by
 have y:∀k,(k<8\/816<=k)->Y.getD k 0=X.getD k 0:=λk z=>by
  rcases dr k 3128 with U|U
  ·exact Z k U z
  ·rw[aj,aO (by omega),aj,aO (by rw[h.len];omega)]
 have hu:(∀c,c<256->cT Y c=cT X c):=λc hc=>by
  unfold cT bw;rw[y _ (by omega)]
 have J:nj X Y []:=λc _ _ _ _ j _=>y _ (by omega)
 exact⟨h.bits hl eT (qF h.sup (λk z=>y k (by omega)) λk z _=>y k (by omega)) (λk z _=>y k (by omega)) (λi _ c _ j _=>y _ (by omega)) (λb G=>by rw[hu b G];exact h.once b G) h.exr λj hj=>h.tailsKeep J hj (by simp),J⟩
theorem nV.nodes{ex:List Nat}(h:nV X T V own ex)(hk:nj X Y l){j:Nat}(U:∀c∈cP (nT V j),c∉l):sB Y (nT V j)=sB X (nT V j):=by
 rcases h.vir j with z|z
 ·rcases h.gots.form j with ⟨h0,W,G⟩|⟨-,G,-⟩
  ·rw[z] at U ⊢
   refine CJ G.len (λhK=>(rH G.right hK).2) λc y k Z=> ?_
   have J:=h.rng W (bG _ (by rw[z];exact y));exact hk c J.2 J.1 (h.used W (bG _ (by rw[z];exact y))) (U c y) k Z
  ·rw[z,G];rfl
 ·rw[z];rfl
theorem nV.nodesUp{M:Nat->Nd}(h:StX X T own U)(y:∀i,M i=sB X (nT T i))(G:nj X Y l){i:Nat}(z:i<32)(J:∀j,j≠i->∀c∈cP (nT T j),c∉l)(n:bM):∀j,mN M i (sB Y n) j=sB Y (nT (kY T i n) j):=by
 intro j;rw[mg h.gots.len z];by_cases e:i=j
 ·subst e
  rw[ku,aB rfl]
 ·rw[cV _ _ (dx e),aA e,y]
  exact(h.nodes G (J j (dx e))).symm
theorem nV.filesOwn(h:StX X T own U){i:Nat}(J:i<32):∀j,∀c∈cP (nT T j),c∉own i:=λj c y z=>by
 rcases dr j 32 with G|G
 ·by_cases e:j=i
  ·subst e;exact h.inner G z y
  ·exact h.apart G J e (bG _ y) (bF _ z)
 ·rw[h.gots.zero G] at y
  have :cP cB=[]:=by decide
  rw[this] at y;simp at y
theorem JG (i:Nat)(h:i<3128):Dd B ps (i:Int)=(az B ps).getD i 0:=by
 unfold Dd;rw[aB (by omega),aH]
structure yQ (w:World) (b gp:Nat) (B:List Int) (ps:List (Int×Int)) (T:List (bM×Value)) (own:Nat->List Nat):Prop where
 st:fG w b gp B ps T own
 sup:k8 (az B ps)
theorem yQ.keep0(h:yQ w b y B ps T own)(z:ay [] w w'):yQ w' b y B ps T own:=⟨h.st.keep0 z,h.sup⟩
theorem PQ{z:Nat}(h:yQ w b z B ps T own)(i:Nat)(y:i<3128):
  Calls Tryz.prog 20 #[.pointer (some ⟨b,0,none⟩),.int .i64 (i:Int)] w λe w'=>e= .returned (.int .u64 ((az B ps).getD i 0))/\w=w':=by
 have :=mO h.st.sh (i:Int);rwa[JG i y] at this
theorem PR (h:yQ w b G B ps T own):
  Calls Tryz.prog 92 #[.pointer (some ⟨b,0,none⟩)] w λe w'=>e= .returned (.int .i64 ((az B ps).getD 1 0))/\w=w':=by
 have y:=ar (PQ h 1 (by omega));have z:=h.sup.2.1;clear h;generalize (az B ps).getD 1 0=t at *;rcases z with rfl|rfl
 ·go_enter Tryz.func92,Tryz.ntmps92
  go_wp2_with fail;refine y.out.mono ?_;rintro e w' ⟨rfl,rfl⟩;go_wp2_with fail;go_ret;exact⟨rfl,rfl⟩
 ·go_enter Tryz.func92,Tryz.ntmps92
  go_wp2_with fail;refine y.out.mono ?_;rintro e w' ⟨rfl,rfl⟩;go_wp2_with fail;go_ret;exact⟨rfl,rfl⟩
def fY (w:World) (b y:Nat) (B:List Int) (ps:List (Int×Int)) (m:Nat) (R:Int->List (Int×Int)->Prop) (e:Ending) (w':World):Prop:=
 ∃r qs h,e= .returned (.int .i64 r)/\(h=y\/(w.heap.size<=h/\h<w'.heap.size))/\eF w' b h B (ps++qs)/\ay [b,y] w w'/\qs.length<=m/\R r qs
def LV (X:List Int) (f r:Int) (qs:List (Int×Int)):Prop:=
 (r=1/\¬(f=1\/f=2)/\qs=[])\/(r=0/\(f=1\/f=2)/\((X.getD 1 0=f/\qs=[])\/(X.getD 1 0≠f/\qs=[(1,f),(2,0)])))
theorem fY.none{m:Nat}{R:Int->List (Int×Int)->Prop}{r:Int}(h:eF w b y B ps)(z:ay [] w w')(G:R r []):fY w b y B ps m R (.returned (.int .i64 r)) w':=
 ⟨r,[],y,rfl,.inl rfl,by rw[bq];exact h.keep z (by simp) (by simp),z.mono (by simp),by simp,G⟩
theorem TN{h:Nat}(sH:eF w b h B ps)(y:b<w.heap.size/\h<w.heap.size)(pn:ps.length<=700000)(f:Int)
  (z:Calls Tryz.prog 92 #[.pointer (some ⟨b,0,none⟩)] w λe w'=>e= .returned (.int .i64 ((az B ps).getD 1 0))/\w=w'):
  Calls Tryz.prog 47 #[.pointer (some ⟨b,0,none⟩),.int .i64 f] w (fY w b h B ps 2 (LV (az B ps) f)):=by
 by_cases V:f=1\/f=2
 ·have HT:=ar z
  by_cases ht:(az B ps).getD 1 0=f
  ·have Z:Hid (fY w b h B ps 2 (LV (az B ps) f) (.returned (.int .i64 0)) w):=fY.none sH (ay.refl _ _) (.inr ⟨rfl,V,.inl ⟨ht,rfl⟩⟩)
   rw[ht] at HT;clear sH y z ht;generalize LV (az B ps) f=R at *;rcases V with rfl|rfl
   ·go_enter Tryz.func47,Tryz.ntmps47
    go_wp2_with fail;refine HT.out.mono ?_;rintro e w' ⟨rfl,rfl⟩;go_wp2_with fail;go_ret;exact Z.out
   ·go_enter Tryz.func47,Tryz.ntmps47
    go_wp2_with fail;refine HT.out.mono ?_;rintro e w' ⟨rfl,rfl⟩;go_wp2_with fail;go_ret;exact Z.out
  ·have Ya:=ar (oz sH (by omega) 1 f)
   have lX:Hid (∀w',(∃gA,(gA=h\/(w.heap.size<=gA/\gA<w'.heap.size))/\eF w' b gA B (ps++[(1,f),(2,0)])/\ay [b,h] w w')->fY w b h B ps 2 (LV (az B ps) f) (.returned (.int .i64 0)) w'):=λw' ⟨gA,h1,h2,h3⟩=>
    ⟨0,_,gA,rfl,h1,h2,h3,by simp,.inr ⟨rfl,V,.inr ⟨ht,rfl⟩⟩⟩
   have zY:=ar pn;have se:=y;have af:=ar se;clear sH y z se pn;generalize LV (az B ps) f=R at *;generalize (az B ps).getD 1 0=t at *;have hw:IntKind.u64.wrap f=f:=by rcases V with rfl|rfl<;>rfl
   have hb:(t==f)=false:=by simpa using ht
   have nZ:Hid (∀J G,(G=h\/(w.heap.size<=G/\G<J.heap.size))->eF J b G B (zX ps 1 f)->Calls Tryz.prog 48 #[.pointer (some ⟨b,0,none⟩),.int .i64 2,.int .u64 0] J (iy J b G B (ps++[(1,f),(2,0)]))):=λJ G hg hs=>by
    have e1:zX ps 1 f=ps++[(1,f)]:=rfl;have e2:zX (ps++[(1,f)]) 2 0=ps++[(1,f),(2,0)]:=by show(ps++[(1,f)])++[(2,0)]=_;rw[bf];rfl
    rw[e1] at hs;have :=oz hs (by rw[aF];have :=zY.out;simp;omega) 2 0;rwa[e2] at this
   rcases V with rfl|rfl
   all_goals
    go_enter Tryz.func47,Tryz.ntmps47;go_wp2_with fail;refine HT.out.mono ?_;rintro e w' ⟨rfl,rfl⟩;go_wp2_with fail;refine Ya.out.mono ?_;rintro e J ⟨rfl,G,U,ac,dc⟩;have zV:=ar (nZ.out J G U ac);have iH:=ar dc;have Wx:=ar U;clear U ac dc nZ Ya;go_wp2_with fail;refine zV.out.mono ?_;rintro e w2 ⟨rfl,wM,ae,aa,W⟩;have Z:Hid (fY w b h B ps 2 R (.returned (.int .i64 0)) w2):=lX.out w2 ⟨wM,by
     have h1:=Wx.out;have h2:=iH.out.size;have h3:=W.size;have h4:=af.out;omega,aa,by
     refine iH.out.trans W (λx hx=> ?_);have h1:=Wx.out;simp only[aS,aV,bL] at hx ⊢;omega⟩
    clear ae aa W zV lX;go_wp2_with fail;go_ret;exact Z.out
 ·have Z:Hid (fY w b h B ps 2 (LV (az B ps) f) (.returned (.int .i64 1)) w):=fY.none sH (ay.refl _ _) (.inl ⟨rfl,V,rfl⟩)
  have b1:(f==1)=false:=by simp;omega
  have b2:(f==2)=false:=by simp;omega
  have b3:(f != 1)=true:=by simp;omega
  have b4:(f != 2)=true:=by simp;omega
  clear sH y z V;generalize LV (az B ps) f=R at *;go_enter Tryz.func47,Tryz.ntmps47;go_wp2_with fail;go_ret;exact Z.out
theorem zM (h:eF w b G B ps)(z:(az B ps).getD 1 0=0):
  Calls Tryz.prog 92 #[.pointer (some ⟨b,0,none⟩)] w λe w'=>e= .returned (.int .i64 ((az B ps).getD 1 0))/\w=w':=by
 have y:=mO h 1;rw[show(1:Int)=((1:Nat):Int) from rfl,JG 1 (by omega),z] at y;have y:=ar y;rw[z];clear h z;go_enter Tryz.func92,Tryz.ntmps92;go_wp2_with fail;refine y.out.mono ?_;rintro e w' ⟨rfl,rfl⟩;go_wp2_with fail;go_ret;exact⟨rfl,rfl⟩
end Go.Proofs.YtcecbdeamjigiaaGreatDoor
namespace Go.Proofs.YtcecbdeamjigiaaGreatDoor
open Go.RowKit
open Go.RowKit
open Go.RowKit
variable{w w':World}{B X Y f xs:List Int}{G b gf gl gn k y:Nat}{D:DataW Unit}{ps qs:List (Int×Int)}{d:Int}{s:ic}{T V:List (bM×Value)}{own:Nat->List Nat}{U l:List Nat}
end Go.Proofs.YtcecbdeamjigiaaGreatDoor
