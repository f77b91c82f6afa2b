/- Lemmas. -/
import Derived.Test.YtepbpdipenedhaaGreatDoorS21
import Derived.Maps.OwnOps
import Derived.Maps.Views
set_option maxHeartbeats 2000000
set_option maxRecDepth 100000
namespace Go.Proofs.YtepbpdipenedhaaGreatDoor
open Go.Proofs.Tryz
open Go.RowKit Go.Maps
variable{w w':World}{B X Y f xs:List Int}{b gf gl gn k y:Nat}{D:DataW Unit}{ps qs:List (Int×Int)}{d:Int}{s:iN}{T V:List (bN×Value)}{own:Nat->List Nat}{l:List Nat}
theorem uH:Keyed prog 3 :=int_keyed underlying3
theorem CZ (w:World):(zeroValue 3).run prog w= .ok (.int .i64 0) w:=by kernel_rfl
structure vE (w:World) (B k:Nat) (f:List Int) (D:DataW Unit):Prop where
 own:w.ownsMap prog 3 (plainElem prog 3) B k D
 map:IsMap D
 get:∀q:Int,D.atKey (.int .i64 q) (.lit (.int .i64 0))= .lit (.int .i64 (if q∈f then 1 else 0))
theorem vE.keep{B:Nat}(h:vE w B k f D){l:List Nat}(V:ay l w w')(U:B∉l):vE w' B k f D:=by
 refine⟨?_,h.map,h.get⟩;have z:=h.own.lt;obtain⟨Z,y,W,G,J,h4⟩:=h.own;exact⟨Z,y,(V.block B z U).trans W,G,J,h4⟩
theorem vE.skip{B:Nat}(h:vE w B k f D){q:Int}(y:q∈f):vE w B (k+1) (f++[q]) D:=by
 refine⟨h.own.mono (by omega),h.map,λx=> ?_⟩;rw[h.get];have :x∈f++[q]↔x∈f:=by simp;rintro rfl;exact y
 simp only[this]
theorem vE.put{B:Nat}(h:vE w B k f D){q:Int}(y:w'.ownsMap prog 3 (plainElem prog 3) B (k+1) (D.put (.int .i64 q) (.lit (.int .i64 1)))):
  vE w' B (k+1) (f++[q]) (D.put (.int .i64 q) (.lit (.int .i64 1))):=by
 refine⟨y,h.map.put _ _,λx=> ?_⟩;by_cases e:x=q
 ·subst e
  rw[atKey_put_same h.map (show WideAt.IsKeyLit (.int .i64 x) from trivial),aB (by simp)]
 ·rw[atKey_put_other (by intro h;cases h;exact e rfl),h.get]
  have :x∈f++[q]↔x∈f:=by simp[e]
  simp only[this]
theorem D4 (h:dQ w b gn gl gf (fw xs ps qs d))(G:0<=d)(J:d<4611686018427387904)(i x:Int)(z:0<=i)(y:i<xs.length):
  Calls prog 102 #[.pointer (some ⟨b,0,none⟩),.int .i64 i] w λe w'=>e= .returned (.int .i64 0)/\dQ w' b gn gl gf (fw xs ps (qs++[(i,x)]) (d+1))/\ay [b,gn,gl,gf] w w':=by
 have :=Ho h (ug _ _ _ _ G J) i;rw[kx z y,DZ _ _ _ _ _ x z y] at this;exact this
theorem D5 (h:dQ w b gn gl gf (fw xs ps [] d))(G:0<=d)(J:d<4611686018427387904)(i x:Int)(z:0<=i)(y:i<xs.length):
  Calls prog 18 #[.pointer (some ⟨b,0,none⟩),.int .i64 i,.int .u64 x] w λe w'=>e= .returned (.int .i64 0)/\dQ w' b gn gl gf (fw xs (ps++[(i,x)]) [] (d+1))/\ay [b,gn,gl,gf] w w':=by
 have :=Hn h (ug _ _ _ _ G J) i x;rw[kx z y,DY _ _ _ _ _ z y] at this;exact this
theorem dQ.old(h:dQ w b gn gl gf s)(y:s.now.length≠0):b<w.heap.size/\gn<w.heap.size/\gl<w.heap.size/\gf<w.heap.size:=by
 obtain⟨G,J,z,a,c,d,e⟩:=h.at_;exact⟨a.lt,(c.cell y).1,(d.cell y).1,(e.cell (by omega)).1⟩
theorem JO (xs:List Int)(ps qs:List (Int×Int))(d:Int):(fw xs ps qs d).now.length=xs.length:=bY _ _
theorem PO (h:dQ w b gn gl gf (fw xs ps [] d))(h0:0<=d)(hd:d<4000000000000000000){v:Value}{g:Nat}(hr:lF w v g qs)
  (hq:J9 qs xs.length) (hn:qs.length<=1000) (hx:xs.length<=100000) (hg:qs.length≠0->g∉[b,gn,gl,gf]):
  Calls prog 123 #[.pointer (some ⟨b,0,none⟩),v] w λe w'=>e= .returned (.int .i64 0)/\dQ w' b gn gl gf (fw xs ps qs (d+(vJ qs:Nat)))/\ay [b,gn,gl,gf] w w':=by
 have H:=ar h;have HR:=ar hr;have HQ:=ar hq;have HG:=ar hg;obtain⟨a,cap,rfl,h1,h2⟩:=hr.val;unfold maxLen at h2;have HB:Hid (qs.length≠0->w.heap.size∉[b,gn,gl,gf]):=λau W=>by
  have hi:=wW hq (k:=0) (by omega);have :=h.old (by rw[JO];omega);simp only[aQ,aS,bD] at W;omega
 have aj:= @run_makeMap prog;clear h hr hq hg;go_enter func123,ntmps123;go_wp2_with fail;go_loopg [13] qs.length (λgh s13 wx=>∃k:Nat,k+gh=qs.length/\s13= .int .i64 (k:Int)/\
  Hid ((∃D,vE wx w.heap.size k ((gV qs).take k) D)/\dQ wx b gn gl gf (fw xs ps (qs.take k) (d+(kN (gV qs) k:Nat)))/\ay [b,gn,gl,gf] w wx))
 case atStart=>
  refine⟨0,by omega,rfl,⟨.map [],World.ownsMap_made _ _ _ _,isMap_empty,λq=>by simp[DataW.atKey]⟩,?_,(ay.refl _ _).alloc _⟩;have :=H.out.keep ((ay.refl [] w).alloc (.map #[] 0)) (by simp) (by simp);simpa[kN] using this
 case round=>
  obtain⟨k,hk,rfl,HI⟩:=hrel;cases gk with
  |zero=>
   obtain rfl:k=qs.length:=by omega
   have ai:¬(qs.length:Int)<(qs.length:Int):=by omega
   have HE:=HI.out.2;rw[aW (aG _)] at HE;have HE:=ar HE;go_wp2_with fail;go_ret;exact⟨rfl,HE.out.1,HE.out.2⟩
  |succ gg=>
   have ai:(k:Int)<(qs.length:Int):=by omega
   obtain⟨⟨D,hD⟩,hp,eW⟩:=HI.out;have ae:=HG.out (by omega);have hB:=HB.out (by omega);obtain⟨av,off,rfl,c0,c1⟩:=(HR.out.keep eW (λ_=>ae)).get (j:=k) (by omega);obtain⟨x0,x1⟩:=wW HQ.out (k:=k) (by omega);have ak:=rp (gV qs) k;have HS:=ar (FB qs k (by omega));have HT:=ar (oX qs k (by omega));have ag:=ar (Hl qs k (by omega));have af:=ar (GG xs ps (qs.take k) (d+(kN (gV qs) k:Nat)) (ja qs k) (nY qs k));rw[<-rh] at af;have Rg:Hid (kN (gV qs) (k+1)=kN (gV qs) k+if ja qs k/8∈(gV qs).take k then 0 else 1):=by
    show kN (gV qs) (k+1)=_;rw[kN,ag.out]
   generalize ja qs k=x at *;generalize nY qs k=y at *;have HD:=ar hD;have HP:=ar hp;have iA:=ar eW;have oL:=ar hB;have V:keyOf prog 3 (.int .i64 (x/8))=some (.int .i64 (x/8)):=keyOf_int_mk underlying3 (WalkArith.wf_i64 (by omega));have G:=ar V;clear hD hp eW hB ae HI V;generalize (gV qs).take k=f at *;by_cases W:x/8∈f
   ·rw[aB W] at Rg
    have HM:=ar W;clear W;go_wp2_with(at_lookup;refine wpList_lookup_own_int _ rfl _ _ 215 rfl 3 3 .i64 uH underlying215 underlying3 (CZ _) w.heap.size k _ rfl (HD.out.own.alloc _) _ _ rfl G.out ?_;intro c z J;(obtain rfl:c=1:=by(rw[HD.out.get,aB HM.out] at z;cases z;rfl));clear z J);go_roundg gg;case measure=>omega
    case rel=>
     refine⟨k+1,by omega,by go_num,⟨D,?_⟩,?_,iA.out.alloc _⟩
     ·rw[HS.out]
      exact(HD.out.skip HM.out).keep ((ay.refl [] _).alloc _) (by simp)
     ·rw[Rg.out,HT.out,dP,af.out HM.out]
      exact HP.out.keep ((ay.refl [] _).alloc _) (by simp) (by simp)
   ·rw[aA W] at Rg
    have HM:=ar W;clear W;go_wp2_with(at_lookup;refine wpList_lookup_own_int _ rfl _ _ 215 rfl 3 3 .i64 uH underlying215 underlying3 (CZ _) w.heap.size k _ rfl (HD.out.own.alloc _) _ _ rfl G.out ?_;intro c z J;(obtain rfl:c=0:=by(rw[HD.out.get,aA HM.out] at z;cases z;rfl));clear z J);refine(D4 (HP.out.keep ((ay.refl [] _).alloc _) (by simp) (by simp)) (by omega) (by omega) x y x0 x1).mono ?_;rintro e w2 ⟨rfl,ac,aa⟩;have oM:=ar ac;have U:=ar ((HD.out.keep ((ay.refl [] _).alloc _) (by simp)).keep aa oL.out);have fF:=ar ((iA.out.alloc _).trans' aa);clear ac aa;go_wp2_with(first|(at_lookup;refine wpList_lookup_own_int _ rfl _ _ 215 rfl 3 3 .i64 uH underlying215 underlying3 (CZ _) w.heap.size k _ rfl U.out.own _ _ rfl G.out ?_;intro c z J;(obtain rfl:c=0:=by(rw[U.out.get,aA HM.out] at z;cases z;rfl));clear z J)|(at_mapUpdate;refine wpList_mapUpdate_own _ rfl _ _ _ 215 rfl 3 3 uH underlying215 _ w.heap.size k _ rfl U.out.own (by unfold maxLen;omega) _ _ _ rfl rfl G.out (.lit (.int .i64 1)) [] (plainElem_int underlying3 (by decide)) ?_;intro w3 XO Tu));have ah:=ar (U.out.put XO);have Z:ay [w.heap.size] w2 w3:=ay.of_grown Tu (by intro q hq;cases hq;simp);have Ac:=ar (oM.out.keep Z (by have :=oL.out;simp at this ⊢;omega) (λ_=>by have :=oL.out;simp at this ⊢;omega));have lV:=ar (fF.out.trans Z (by simp));clear XO Tu Z;go_wp2_with fail;go_roundg gg;case measure=>omega
    case rel=>
     refine⟨k+1,by omega,by go_num,⟨D.put (.int .i64 (x/8)) (.lit (.int .i64 1)),?_⟩,?_,lV.out⟩
     ·rw[HS.out]
      exact ah.out
     ·rw[Rg.out,HT.out]
      have :=Ac.out;rw[show d+((kN (gV qs) k+1:Nat):Int)=d+(kN (gV qs) k:Nat)+1 by omega];exact this
theorem zi (h:dQ w b gn gl gf (calm xs d))(h0:0<=d)(hd:d<3000000000000000000){v:Value}{g:Nat}{ps:List (Int×Int)}(hr:lF w v g ps)
  (hq:J9 ps xs.length) (hn:ps.length<=1000) (hx:xs.length<=100000) (hg:ps.length≠0->g∉[b,gn,gl,gf]):
  Calls prog 69 #[.pointer (some ⟨b,0,none⟩),v] w λe w'=>e= .returned (.int .i64 0)/\dQ w' b gn gl gf (calm (az xs ps) (d+(kO ps:Nat)))/\ay [b,gn,gl,gf] w w':=by
 have H:=ar h;have HR:=ar hr;have HQ:=ar hq;have HG:=ar hg;obtain⟨a,cap,rfl,h1,h2⟩:=hr.val;unfold maxLen at h2;clear h hr hq hg;go_enter func69,ntmps69;go_wp2_with fail;go_loopg [11] ps.length (λgh NZ wx=>∃k:Nat,k+gh=ps.length/\NZ= .int .i64 (k:Int)/\
  Hid (dQ wx b gn gl gf (fw xs (ps.take k) [] (d+(k:Nat)))/\ay [b,gn,gl,gf] w wx))
 case atStart=>
  refine⟨0,by omega,rfl,?_,ay.refl _ _⟩;have :=H.out;rw[Nh] at this;simpa using this
 case round=>
  obtain⟨k,hk,rfl,HI⟩:=hrel;cases gk with
  |zero=>
   obtain rfl:k=ps.length:=by omega
   have aa:¬(ps.length:Int)<(ps.length:Int):=by omega
   obtain⟨J,V⟩:=HI.out;rw[aW (aG _)] at J;have HF:=ar (PO J (by omega) (by omega) (HR.out.keep V HG.out) HQ.out hn hx HG.out);have iA:=ar V;clear J V;have ac:=rp (gV ps) ps.length;go_wp2_with fail;refine HF.out.mono ?_;rintro e w2 ⟨rfl,z,G⟩;have U:=Hq z (ug _ _ _ _ (by omega) (by unfold vJ;omega));obtain⟨e1,e2⟩:=D3 xs ps (d+(ps.length:Nat)+(vJ ps:Nat)) (λp J=>(HQ.out p J).1);rw[e1,e2] at U;have QH:=ar U;have Z:=ar (iA.out.trans' G);clear z G U e1 e2;go_wp2_with fail;refine QH.out.mono ?_;rintro e w3 ⟨rfl,LZ,W⟩;have Ac:=ar LZ;have lV:=ar (Z.out.trans' W);clear LZ W;go_wp2_with fail;go_ret;refine⟨rfl,?_,lV.out⟩;rw[show d+((kO ps:Nat):Int)=d+(ps.length:Nat)+(vJ ps:Nat)+1 by unfold kO;omega];exact Ac.out
  |succ gg=>
   have aa:(k:Int)<(ps.length:Int):=by omega
   obtain⟨J,V⟩:=HI.out;obtain⟨ae,off,rfl,c0,c1⟩:=(HR.out.keep V HG.out).get (j:=k) (by omega);obtain⟨x0,x1⟩:=wW HQ.out (k:=k) (by omega);have HT:=ar (oX ps k (by omega));generalize ja ps k=x at *;generalize nY ps k=y at *;have HP:=ar J;have iA:=ar V;clear J V HI;go_wp2_with fail;refine(D5 (HP.out.keep ((ay.refl [] _).alloc _) (by simp) (by simp)) (by omega) (by omega) x y x0 x1).mono ?_;rintro e w2 ⟨rfl,z,G⟩;have oM:=ar z;have Z:=ar ((iA.out.alloc _).trans' G);clear z G;go_wp2_with fail;go_roundg gg;case measure=>omega
   case rel=>
    refine⟨k+1,by omega,by go_num,?_,Z.out⟩;rw[HT.out,show d+((k+1:Nat):Int)=d+(k:Nat)+1 by omega];exact oM.out
theorem Tv (w:World)(a x:Int)(T:Nat):lF (w.alloc (.cells #[.int .i64 a,.int .u64 x] T)) (.slice (some ⟨w.heap.size,0,none⟩) 1 1) w.heap.size [(a,x)]:=
 eQ.preads (T:=T) ⟨rfl,_,1,rfl,aG _,by unfold maxLen;omega,λ_=>⟨rfl,_,bf.new _ _ _,rfl,rfl⟩⟩
theorem oz (h:dQ w b gn gl gf (calm xs d))(h0:0<=d)(V:d<3000000000000000000)(hx:xs.length=3128)(x:Int):
  Calls prog 71 #[.pointer (some ⟨b,0,none⟩),.int .u64 x] w λe w'=>e= .returned (.int .i64 0)/\dQ w' b gn gl gf (calm (az xs [(8,x)]) (d+3))/\ay [b,gn,gl,gf] w w':=by
 have ho:=h.old (by show xs.length≠0;omega);have J:=λ(G:World) (hk:ay [] w G) (he:G.heap.size=w.heap.size)=>zi (h.keep (hk.alloc (.cells #[.int .i64 8,.int .u64 x] 58)) (by simp) (by simp)) h0 V (Tv G 8 x 58) (by intro p U;simp at U;subst U;simp;omega) (by simp) (by omega) (by intro _ Z;simp at Z;omega)
 rw[Hm] at J;have HS:=ar J;clear J ho h;go_enter func71,ntmps71;go_wp2_with fail;refine(HS.out w (ay.refl _ _) rfl).mono ?_;rintro e w2 ⟨rfl,y,z⟩;have oM:=ar y;have W:=ar (((ay.refl _ _).alloc _).trans' z);clear y z;go_wp2_with fail;go_ret;exact⟨rfl,oM.out,W.out⟩
theorem JP (h:dQ w b gn gl gf (calm xs d))(h0:0<=d)(hd:d<2000000000000000000)(U:xs.length=3128){v:Value}{g:Nat}{ps:List (Int×Int)}(J:lF w v g ps)
  (W:J9 ps 3128) (hn:ps.length<=1000) (V:ps.length≠0->g∉[b,gn,gl,gf]):
  Calls prog 73 #[.pointer (some ⟨b,0,none⟩),v] w λe w'=>e= .returned (.int .i64 0)/\dQ w' b gn gl gf (calm (QQ xs ps) (d+(kO ps:Nat)+3))/\ay [b,gn,gl,gf] w w':=by
 have HS:=ar (zi h h0 (by omega) J (by rw[U];exact W) hn (by omega) V);have aa:=rq ps;have HX:=ar U;obtain⟨a,cap,rfl,-,-⟩:=J.val;clear h J W V U;go_enter func73,ntmps73;go_wp2_with fail;refine HS.out.mono ?_;rintro e w2 ⟨rfl,y,G⟩;have HC:=ar (oz y (by omega) (by omega) (by rw[bY];exact HX.out) 0);have fF:=ar G;clear y G;go_wp2_with fail;refine HC.out.mono ?_;rintro e w3 ⟨rfl,Z,z⟩;have Ac:=ar Z;have lV:=ar (fF.out.trans' z);clear Z z;go_wp2_with fail;go_ret;exact⟨rfl,Ac.out,lV.out⟩
end Go.Proofs.YtepbpdipenedhaaGreatDoor
namespace Go.Proofs.YtepbpdipenedhaaGreatDoor
open Go.Proofs.Tryz
open Go.RowKit
variable{w w':World}{B X Y f xs:List Int}{b gf gl gn k y:Nat}{D:DataW Unit}{ps qs:List (Int×Int)}{d:Int}{s:iN}{T V:List (bN×Value)}{own:Nat->List Nat}{l:List Nat}
theorem C0 (h:dQ w b gn gl gf (calm xs d))(y:xs.length=3128):
  Calls prog 46 #[.pointer (some ⟨b,0,none⟩)] w λe w'=>e= .returned (.int .i64 3128)/\w=w':=by
 have :=Kl h;rw[show((calm xs d).now.length:Int)=3128 by show(xs.length:Int)=3128;omega] at this;exact this
theorem Tw (h:wV ps=true):J9 ps 3128:=λp y=>by have :=Nu h y;omega
theorem Ws (h:ps.length<=400):J9 (kQ (eH ps)) 3128:=λp y=>by
 have :=Hk y;rw[kU] at this;omega
def PQ (w:World) (b gn gl gf:Nat) (xs:List Int) (d:Int) (e:Ending) (w':World):Prop:=
 e= .returned (.int .i64 0)/\dQ w' b gn gl gf (calm xs d)/\ay [b,gn,gl,gf] w w'
theorem PR (h:dQ w b gn gl gf (calm xs d))(h0:0<=d)(hd:d<1000000000000000000)(hx:xs.length=3128){v:Value}{g:Nat}{ps:List (Int×Int)}(hr:lF w v g ps)
  (V:WU ps) (ah:wV ps=true) (hn:ps.length<=400) (hg:ps.length≠0->g∉[b,gn,gl,gf]):
  Calls prog 28 #[.pointer (some ⟨b,0,none⟩),v] w (PQ w b gn gl gf (kZ xs ps) (d+(yl ps:Nat))):=by
 have H:=ar h;have HR:=ar hr;have HX:=ar hx;have HG:=ar hg;have ac:=ar ah;have Hc:=ar V;have HL:=ar (C0 h hx);have HW:=ar (LY hr V hn);obtain⟨a,cap,rfl,h1,h2⟩:=hr.val;unfold maxLen at h2;have y:=ar (h.old (by show xs.length≠0;omega));have q4:¬(400:Int)<(ps.length:Int):=by omega
 clear h hr V hg ah hx;go_enter func28,ntmps28;go_wp2_with fail;refine HL.out.mono ?_;rintro e w' ⟨rfl,rfl⟩;go_wp2_with fail;refine HW.out.mono ?_;rintro e w1 ⟨vw,gw,rfl,XP,Uu,G⟩;obtain⟨aw,cw,rfl,-,-,-⟩:=gy XP;have Aj:=ar XP;have jl:=ar G;have HU:=ar (Bi Hc.out);have QB:=xW XP HU.out ps.length (kU ps) (by omega);rw[Bk Hc.out,ac.out] at QB;have QB:=ar QB;have XH:=ar (H.out.keep G (by simp) (by simp));clear XP G;go_wp2_with fail;refine QB.out.mono ?_;rintro e w' ⟨rfl,rfl⟩;go_wp2_with fail;refine(qY XH.out 8 (by omega) (by rw[HX.out];omega)).mono ?_;rintro e w' ⟨rfl,rfl⟩;by_cases Z:ps.length=0
 ·obtain rfl:ps=[]:=bc Z
  clear Z;go_wp2_with fail;go_ret;refine⟨rfl,?_,jl.out.mono (by simp)⟩;simpa[kZ,yl] using XH.out
 ·have ag:((ps.length:Int)==0)=false:=cj.2 (by omega)
  have aB:(ps.length==0)=false:=cj.2 Z;have QL:Hid (ps≠[]):=λe=>Z (by rw[e];rfl)
  have HZ:=ar Z;clear Z;go_wp2_with fail;refine(Tq Aj.out (by rw[kU];omega)).mono ?_;rintro e w2 ⟨vl,az,rfl,U,ax,W⟩;obtain⟨al,cl,rfl,-,-⟩:=U.val;have fF:=ar W;have ho:=y.out;have ag:=jl.out.size;have Kf:=ar (zi (XH.out.keep W (by simp) (by simp)) h0 (by omega) U (by rw[HX.out];exact Ws hn) (by rw[lM,kU];omega) (by rw[HX.out];omega) (by intro _ hm;simp only[aQ,aS,bD] at hm;omega));clear U W ho ag;go_wp2_with fail;refine Kf.out.mono ?_;rintro e w3 ⟨rfl,LZ,J⟩;have Ac:=ar LZ;have ho:=y.out;have ae:=(Aj.out.keep fF.out (by simp)).keep J (by intro hm;simp only[aQ,aS,bD] at hm;omega);have av:=ar (vD ae HU.out (by rw[kU];omega));have lV:Hid (ay [b,gn,gl,gf] w w3):=((jl.out.trans fF.out (by simp)).mono (by simp)).trans' J;clear LZ J ae ho;go_wp2_with fail;refine av.out.mono ?_;rintro e w4 ⟨rfl,z⟩;have au:=rq (kQ (eH ps));rw[lM,kU] at au;have ai:=ar (oz (Ac.out.keep z (by simp) (by simp)) (by omega) (by omega) (by rw[bY];exact HX.out) (ou (eH ps)));have oN:=ar (lV.out.trans z (by simp));clear z;go_wp2_with fail;refine ai.out.mono ?_;rintro e w5 ⟨rfl,aa,kr⟩;have pk:=ar (oN.out.trans' kr);have ak:=ar (JP aa (by omega) (by omega) (by rw[bY,bY];exact HX.out) (HR.out.keep pk.out HG.out) (Tw ac.out) (by omega) HG.out);clear aa kr;go_wp2_with fail;refine ak.out.mono ?_;rintro e w6 ⟨rfl,af,jZ⟩;have aj:=ar af;have nM:=ar (pk.out.trans' jZ);clear af jZ;go_wp2_with fail;go_ret;refine⟨rfl,?_,nM.out⟩;rw[kZ,aA QL.out,yl,aA QL.out];have :=aj.out;rw[show d+((kO (kQ (eH ps))+3+kO ps+3:Nat):Int)=d+(kO (kQ (eH ps)):Nat)+3+(kO ps:Nat)+3 by omega];exact this
theorem GK (h:dQ w b gn gl gf s)(z:s.now.length≠3128):
  Calls prog 89 #[.pointer (some ⟨b,0,none⟩)] w λe w'=>e= .returned (.tuple #[.slice none 0 0,.bool false,.int .i64 1])/\w=w':=by
 have y:=ar (Kl h);have G:((s.now.length:Int) != 3128)=true:=by simp;omega
 clear h z;generalize s.now.length=n at *;go_enter func89,ntmps89;go_wp2_with fail;refine y.out.mono ?_;rintro e w' ⟨rfl,rfl⟩;go_wp2_with fail
 go_ret3
 exact⟨rfl,rfl⟩
theorem L3 (h:dQ w b gn gl gf s)(y:s.now.length≠3128):
  Calls prog 41 #[.pointer (some ⟨b,0,none⟩)] w λe w'=>e= .returned (.int .i64 1)/\w=w':=by
 have z:=ar (GK h y);clear h y;go_enter func41,ntmps41;go_wp2_with fail;refine z.out.mono ?_;rintro e w' ⟨rfl,rfl⟩;go_wp2_with fail;go_ret;exact⟨rfl,rfl⟩
def D7 (xs:List Int):Nat:=(xs.getD 8 0/4294967296).toNat
def GL (xs:List Int):Option (List (Int×Int)):=
 if 1<=D7 xs/\D7 xs<=400/\xs.getD 8 0=ou (nB xs (2*D7 xs))/\j4 (nB xs (2*D7 xs)) (D7 xs)=true then some (aac (nB xs (2*D7 xs)) (D7 xs)) else none
def PS (w:World) (e:Ending) (w':World):Prop:=e= .returned (.tuple #[.slice none 0 0,.bool false,.int .i64 0])/\ay [] w w'
theorem PT (h:dQ w b gn gl gf (calm xs d))(m:Nat)(z:m<=800)(G:xs.length=3128)(M:Int)(y:M=(m:Int)):
  Calls prog 135 #[.pointer (some ⟨b,0,none⟩),.int .i64 9,.int .i64 M] w (nV w (nB xs m)):=by
 subst y;exact Tt h m z G
theorem D8 (h:dQ w b gn gl gf (calm xs d))(V:xs.length=3128)(hu:Bh xs)(U:GL xs=none):
  Calls prog 89 #[.pointer (some ⟨b,0,none⟩)] w (PS w):=by
 have HL:=ar (C0 h V);have W:=ar (qY h 8 (by omega) (by rw[V];omega));rw[show(8:Int).toNat=8 from rfl] at W;obtain⟨c0,c1⟩:=Bj hu 8;obtain⟨n,hn⟩:∃n:Nat,D7 xs=n:=⟨_,rfl⟩;have hc:xs.getD 8 0/4294967296=(n:Int):=by unfold D7 at hn;omega
 have QB:=ar (PT h (2*n));have HX:=ar V;have HU:=ar hu;unfold GL at U;rw[hn] at U;have HS:Hid (¬(1<=n/\n<=400/\xs.getD 8 0=ou (nB xs (2*n))/\j4 (nB xs (2*n)) n=true)):=λe=>by rw[aB e] at U;cases U
 generalize Z:xs.getD 8 0=c at *;clear h V hu hn Z U;by_cases h1:n<1
 ·go_enter func89,ntmps89
  go_wp2_with fail;refine HL.out.mono ?_;rintro e w' ⟨rfl,rfl⟩;go_wp2_with fail;refine W.out.mono ?_;rintro e w' ⟨rfl,rfl⟩;go_wp2_with fail
  go_ret3
  exact⟨rfl,ay.refl _ _⟩
 ·by_cases h2:400<n
  ·go_enter func89,ntmps89
   go_wp2_with fail;refine HL.out.mono ?_;rintro e w' ⟨rfl,rfl⟩;go_wp2_with fail;refine W.out.mono ?_;rintro e w' ⟨rfl,rfl⟩;go_wp2_with fail
   go_ret3
   exact⟨rfl,ay.refl _ _⟩
  ·go_enter func89,ntmps89
   go_wp2_with fail;refine HL.out.mono ?_;rintro e w' ⟨rfl,rfl⟩;go_wp2_with fail;refine W.out.mono ?_;rintro e w' ⟨rfl,rfl⟩;go_wp2_with fail;refine(QB.out (by omega) HX.out _ (by omega)).mono ?_;rintro e w1 ⟨vw,gw,rfl,XP,Uu,G⟩;obtain⟨aw,cw,rfl,-,-,-⟩:=gy XP;have Aj:=ar XP;have jl:=ar G;clear XP G;go_wp2_with fail;refine(vD Aj.out (JN HU.out _) (by rw[nU];omega)).mono ?_;rintro e w2 ⟨rfl,y⟩;have fF:=ar (jl.out.trans y (by simp));have Mx:=ar (xW (Aj.out.keep y (by simp)) (JN HU.out _) n (nU _ _) (by omega));clear y;generalize z:ou (nB xs (2*n))=mk at *;by_cases J:c=mk
   ·have aa:(c != mk)=false:=by simpa using J
    have ac:Hid (j4 (nB xs (2*n)) n=false):=by
     show j4 (nB xs (2*n)) n=false;cases hp:j4 (nB xs (2*n)) n
     ·rfl
     ·exact absurd ⟨by omega,by omega,J,hp⟩ HS.out
    rw[ac.out] at Mx;subst J;clear z;go_wp2_with(go_at_call 68;refine Mx.out.mono ?_;rintro e w' ⟨rfl,rfl⟩)
    go_ret3
    exact⟨rfl,fF.out⟩
   ·have aa:(c != mk)=true:=by simpa using J
    clear z J;go_wp2_with fail
    go_ret3
    exact⟨rfl,fF.out⟩
theorem Tx (J:X.length=3128):∀k,k<=3128->∀i,(az X (cu X Y k)).getD i 0=if i<k then Y.getD i 0 else X.getD i 0:=by
 intro k;induction k with
 |zero=>intro _ i;rw[aA (by omega)];rfl
 |succ k ih=>
  intro U i;by_cases z:Y.getD k 0=X.getD k 0
  ·rw[zu X Y k z,ih (by omega)]
   by_cases h:i<k
   ·rw[aB h,aB (by omega)]
   ·rw[aA h]
    by_cases y:i=k
    ·rw[aB (by omega),y,z]
    ·rw[aA (by omega)]
  ·have e:cu X Y (k+1)=cu X Y k++[((k:Int),Y.getD k 0)]:=by
    unfold cu;rw[dI,fM,eJ]
    congr 1
    have G:(Y.getD k 0 != X.getD k 0)=true:=bne_iff_ne.2 z;simp only[List.filter_cons,G,if_true,List.filter_nil];rfl
   rw[e,bJ,oY,aJ,lf _ _ _ _ (by rw[bY];omega)];by_cases h:i=k
   ·rw[aB h.symm,aB (by omega),h]
   ·rw[aA (eu h),ih (by omega)]
    by_cases y:i<k
    ·rw[aB y,aB (by omega)]
    ·rw[aA y,aA (by omega)]
theorem Ty{p:Int×Int}(h:p∈cu X Y k):∃i:Nat,i<k/\p=((i:Int),Y.getD i 0)/\Y.getD i 0≠X.getD i 0:=by
 unfold cu at h;obtain⟨i,y,rfl⟩:=bL.1 h;rw[List.mem_filter,bP] at y;exact⟨i,y.1,rfl,by simpa using y.2⟩
theorem Wt{L:List Nat}(h:∀i,i<3128->Y.getD i 0≠X.getD i 0->i∈L):(cu X Y 3128).length<=L.length:=by
 unfold cu;rw[bG];have G:∀(l m:List Nat),l.Nodup->(∀x∈l,x∈m)->l.length<=m.length:=by
  intro l;induction l with
  |nil=>intro m _ _;exact eD _
  |cons a l ih=>
   intro m W h;have J:=List.nodup_cons.1 W;have U:=h a (by simp);have V:=ih (m.erase a) J.2 λx y=>by
    have z:x≠a:=λe=>J.1 (e▸y)
    exact(List.mem_erase_of_ne z).2 (h x (by simp[y]))
   rw[List.length_erase_of_mem U] at V;have :0<m.length:=List.length_pos_of_mem U;simp only[bF];omega
 refine G _ L (List.Sublist.nodup List.filter_sublist List.nodup_range) λx y=> ?_
 rw[List.mem_filter,bP] at y;exact h x y.1 (by simpa using y.2)
theorem JQ (hX:X.length=3128)(ac:In64 X)(aa:In64 Y)(hj:∀k,8<=k->k<816->Y.getD k 0=X.getD k 0)(h8:X.getD 8 0=0)(hn:(cu X Y 3128).length<=400):
  WU (cu X Y 3128)/\wV (cu X Y 3128)=true/\(kZ X (cu X Y 3128)).length=3128/\In64 (kZ X (cu X Y 3128))/\(kZ X (cu X Y 3128)).getD 8 0=0/\
   ∀k,k<3128->(k<8\/816<=k)->(kZ X (cu X Y 3128)).getD k 0=Y.getD k 0:=by
 have z:∀p∈cu X Y 3128,∃i:Nat,i<3128/\(i<8\/816<=i)/\p=((i:Int),Y.getD i 0):=λp y=>by
  obtain⟨i,W,h2,h3⟩:=Ty y;refine⟨i,W,?_,h2⟩;rcases dg i 8 with h4|h4
  ·exact .inl h4
  ·rcases dg i 816 with h5|h5
   ·exact absurd (hj i h4 h5) h3
   ·exact .inr h5
 have V:WU (cu X Y 3128):=λp y=>by
  obtain⟨i,W,-,rfl⟩:=z p y;have :=aa i
  dsimp only
  omega
 have vz:wV (cu X Y 3128)=true:=by
  unfold wV;rw[fg];intro p y;obtain⟨i,W,h2,rfl⟩:=z p y;exact kT.2 (by dsimp only;omega)
 have ae:=kU (cu X Y 3128);have J:=Tx (Y:=Y) hX 3128 (aG _);by_cases G:cu X Y 3128=[]
 ·have e:kZ X (cu X Y 3128)=X:=by unfold kZ;rw[aB G]
  rw[e];refine⟨V,vz,hX,ac,h8,λk Z _=> ?_⟩;have :=J k;rw[G,aB Z] at this;exact this
 ·have e:kZ X (cu X Y 3128)=az (az (az (az X (kQ (eH (cu X Y 3128)))) [(8,ou (eH (cu X Y 3128)))]) (cu X Y 3128)) [(8,0)]:=by unfold kZ;rw[aA G];rfl
  have af:∀p∈kQ (eH (cu X Y 3128)),9<=p.1/\p.1<809+1:=λp y=>by
   have :=Hk y;omega
  have ah:0<=ou (eH (cu X Y 3128))/\ou (eH (cu X Y 3128))<18446744073709551616:=by
   unfold ou;have W:=FA ((eH (cu X Y 3128)).map Int.toNat);rw[ae,show 2*(cu X Y 3128).length/2=(cu X Y 3128).length by omega];omega
  have W:In64 (az X (kQ (eH (cu X Y 3128)))):=ac.put λp y=>by
   have hu:=Bi V;unfold kQ at y;obtain⟨k,Z,rfl⟩:=List.mem_mapIdx.1 y;have :=hu _ (bA Z)
   dsimp only
   omega
  have h2:In64 (az (az X (kQ (eH (cu X Y 3128)))) [(8,ou (eH (cu X Y 3128)))]):=W.put λp y=>by rw[au] at y;subst y;exact ah
  have h3:In64 (az (az (az X (kQ (eH (cu X Y 3128)))) [(8,ou (eH (cu X Y 3128)))]) (cu X Y 3128)):=h2.put λp y=>by
   obtain⟨i,-,-,rfl⟩:=z p y;exact aa i
  have h4:In64 (az (az (az (az X (kQ (eH (cu X Y 3128)))) [(8,ou (eH (cu X Y 3128)))]) (cu X Y 3128)) [(8,0)]):=h3.put λp y=>by rw[au] at y;subst y;exact⟨Int.le_refl _,by decide⟩
  have FL:(az (az X (kQ (eH (cu X Y 3128)))) [(8,ou (eH (cu X Y 3128)))]).length=3128:=by rw[bY,bY,hX]
  -- the words under the journal are the same
  have U:∀k,(k<8\/816<=k)->(az (az X (kQ (eH (cu X Y 3128)))) [(8,ou (eH (cu X Y 3128)))]).getD k 0=X.getD k 0:=λk Z=>by
   rw[iy _ _ _ λp y=>by rw[au] at y;subst y;show(8:Int).toNat≠k;rw[show(8:Int).toNat=8 from rfl];omega,iy _ _ _ λp y=>by have :=af p y;omega]
  refine⟨V,vz,by rw[e,bY,bY,FL],by rw[e];exact h4,?_,λk Z ai=> ?_⟩
  ·rw[e,oY,show(8:Int).toNat=8 from rfl,lf _ _ _ _ (by rw[bY,FL];omega),aB rfl]
  ·rw[e,iy _ _ _ λp y=>by rw[au] at y;subst y;show(8:Int).toNat≠k;rw[show(8:Int).toNat=8 from rfl];omega]
   -- the same puts over words that are the same there
   have ag:∀(ps:List (Int×Int)) (A B:List Int),A.length=3128->B.length=3128->A.getD k 0=B.getD k 0->(az A ps).getD k 0=(az B ps).getD k 0:=by
    intro ps;induction ps with
    |nil=>intro A B _ _ h;exact h
    |cons p ps ih=>
     intro A B hA hB h;show(az (A.set p.1.toNat p.2) ps).getD k 0=(az (B.set p.1.toNat p.2) ps).getD k 0;refine ih _ _ (by rw[dW,hA]) (by rw[dW,hB]) ?_;rcases dg p.1.toNat 3128 with y|y
     ·rw[lf _ _ _ _ (by omega),lf _ _ _ _ (by omega)]
      split
      ·rfl
      ·exact h
     ·rw[List.set_eq_of_length_le (by omega),List.set_eq_of_length_le (by omega)]
      exact h
   rw[ag _ _ X FL hX (U k ai),J,aB Z]
theorem uf.journal{J:List Nat}(h:uf X T V own J)(hl:Y.length=3128)(G:In64 Y)(hs:∀k,k<3128->(k<8\/816<=k)->Y.getD k 0=X.getD k 0):uf Y T V own J/\xS X Y []:=by
 have y:∀k,(k<8\/816<=k)->Y.getD k 0=X.getD k 0:=λk z=>by
  rcases dg k 3128 with W|W
  ·exact hs k W z
  ·rw[aj,aP (by omega),aj,aP (by rw[h.len];omega)]
 have hu:(∀c,c<256->dx Y c=dx X c):=λc hc=>by
  unfold dx bw;rw[y _ (by omega)]
 have Z:xS X Y []:=λc _ _ _ _ j _=>y _ (by omega)
 exact⟨h.bits hl G (JG h.sup (λk z=>y k (by omega)) λk z _=>y k (by omega)) (λk z _=>y k (by omega)) (λi _ c _ j _=>y _ (by omega)) (λb U=>by rw[hu b U];exact h.once b U) h.exr λj hj=>h.tailsKeep Z hj (by simp),Z⟩
theorem uf.nodes{ex:List Nat}(h:uf X T V own ex)(hk:xS X Y l){j:Nat}(U:∀c∈eU (nT V j),c∉l):xV Y (nT V j)=xV X (nT V j):=by
 rcases h.vir j with z|z
 ·rcases h.gots.form j with ⟨h0,J,G⟩|⟨-,G,-⟩
  ·rw[z] at U ⊢
   refine JK G.len (λhK=>(wH G.right hK).2) λc y k Z=> ?_
   have W:=h.rng J (dA _ (by rw[z];exact y));exact hk c W.2 W.1 (h.used J (dA _ (by rw[z];exact y))) (U c y) k Z
  ·rw[z,G];rfl
 ·rw[z];rfl
theorem uf.nodesUp{z:List Nat}{M:Nat->Nd}(h:StX X T own z)(U:∀i,M i=xV X (nT T i))(G:xS X Y l){i:Nat}(y:i<32)(J:∀j,j≠i->∀c∈eU (nT T j),c∉l)(n:bN):∀j,oI M i (xV Y n) j=xV Y (nT (xR T i n) j):=by
 intro j;rw[uG h.gots.len y];by_cases e:i=j
 ·subst e
  rw[lR,aB rfl]
 ·rw[cT _ _ (eu e),aA e,U]
  exact(h.nodes G (J j (eu e))).symm
theorem uf.filesOwn{U:List Nat}(h:StX X T own U){i:Nat}(J:i<32):∀j,∀c∈eU (nT T j),c∉own i:=λj c y z=>by
 rcases dg j 32 with G|G
 ·by_cases e:j=i
  ·subst e;exact h.inner G z y
  ·exact h.apart G J e (dA _ y) (dm _ z)
 ·rw[h.gots.zero G] at y
  have :eU cX=[]:=by decide
  rw[this] at y;simp at y
theorem JR (i:Nat)(h:i<3128):Dl B ps (i:Int)=(az B ps).getD i 0:=by
 unfold Dl;rw[aB (by omega),aJ]
structure L4 (w:World) (b gp:Nat) (B:List Int) (ps:List (Int×Int)) (T:List (bN×Value)) (own:Nat->List Nat):Prop where
 st:fX w b gp B ps T own
 sup:lW (az B ps)
theorem PU (h:L4 w b y B ps T own)(i:Nat)(z:i<3128):
  Calls prog 127 #[.pointer (some ⟨b,0,none⟩),.int .i64 (i:Int)] w λe w'=>e= .returned (.int .u64 ((az B ps).getD i 0))/\w=w':=by
 have :=nE h.st.sh (i:Int);rwa[JR i z] at this
theorem PV{z:Nat}(h:L4 w b z B ps T own):
  Calls prog 93 #[.pointer (some ⟨b,0,none⟩)] w λe w'=>e= .returned (.int .i64 ((az B ps).getD 1 0))/\w=w':=by
 have y:=ar (PU h 1 (by omega));have G:=h.sup.2.1;clear h;generalize (az B ps).getD 1 0=t at *;rcases G with rfl|rfl
 ·go_enter func93,ntmps93
  go_wp2_with fail;refine y.out.mono ?_;rintro e w' ⟨rfl,rfl⟩;go_wp2_with fail;go_ret;exact⟨rfl,rfl⟩
 ·go_enter func93,ntmps93
  go_wp2_with fail;refine y.out.mono ?_;rintro e w' ⟨rfl,rfl⟩;go_wp2_with fail;go_ret;exact⟨rfl,rfl⟩
def gQ (w:World) (b y:Nat) (B:List Int) (ps:List (Int×Int)) (m:Nat) (R:Int->List (Int×Int)->Prop) (e:Ending) (w':World):Prop:=
 ∃r qs h,e= .returned (.int .i64 r)/\(h=y\/(w.heap.size<=h/\h<w'.heap.size))/\eT w' b h B (ps++qs)/\ay [b,y] w w'/\qs.length<=m/\R r qs
def L5 (X:List Int) (f r:Int) (qs:List (Int×Int)):Prop:=
 (r=1/\¬(f=1\/f=2)/\qs=[])\/(r=0/\(f=1\/f=2)/\((X.getD 1 0=f/\qs=[])\/(X.getD 1 0≠f/\qs=[(1,f),(2,0)])))
theorem gQ.none{m:Nat}{R:Int->List (Int×Int)->Prop}{r:Int}(h:eT w b y B ps)(z:ay [] w w')(G:R r []):gQ w b y B ps m R (.returned (.int .i64 r)) w':=
 ⟨r,[],y,rfl,.inl rfl,by rw[bq];exact h.keep z (by simp) (by simp),z.mono (by simp),by simp,G⟩
theorem aad (h:eT w b y B ps)(G:b<w.heap.size/\y<w.heap.size)(aa:ps.length<=700000)(f:Int)
  (z:Calls prog 93 #[.pointer (some ⟨b,0,none⟩)] w λe w'=>e= .returned (.int .i64 ((az B ps).getD 1 0))/\w=w'):
  Calls prog 47 #[.pointer (some ⟨b,0,none⟩),.int .i64 f] w (gQ w b y B ps 2 (L5 (az B ps) f)):=by
 by_cases U:f=1\/f=2
 ·have HT:=ar z
  by_cases ht:(az B ps).getD 1 0=f
  ·have HF:Hid (gQ w b y B ps 2 (L5 (az B ps) f) (.returned (.int .i64 0)) w):=gQ.none h (ay.refl _ _) (.inr ⟨rfl,U,.inl ⟨ht,rfl⟩⟩)
   rw[ht] at HT;clear h G z ht;generalize L5 (az B ps) f=R at *;rcases U with rfl|rfl
   ·go_enter func47,ntmps47
    go_wp2_with fail;refine HT.out.mono ?_;rintro e w' ⟨rfl,rfl⟩;go_wp2_with fail;go_ret;exact HF.out
   ·go_enter func47,ntmps47
    go_wp2_with fail;refine HT.out.mono ?_;rintro e w' ⟨rfl,rfl⟩;go_wp2_with fail;go_ret;exact HF.out
  ·have XH:=ar (o7 h (by omega) 1 f)
   have mJ:Hid (∀w',(∃ib,(ib=y\/(w.heap.size<=ib/\ib<w'.heap.size))/\eT w' b ib B (ps++[(1,f),(2,0)])/\ay [b,y] w w')->gQ w b y B ps 2 (L5 (az B ps) f) (.returned (.int .i64 0)) w'):=λw' ⟨ib,h1,h2,h3⟩=>
    ⟨0,_,ib,rfl,h1,h2,h3,by simp,.inr ⟨rfl,U,.inr ⟨ht,rfl⟩⟩⟩
   have Af:=ar aa;have ae:=G;have ah:=ar ae;clear h G z ae aa;generalize L5 (az B ps) f=R at *;generalize (az B ps).getD 1 0=t at *;have hw:IntKind.u64.wrap f=f:=by rcases U with rfl|rfl<;>rfl
   have hb:(t==f)=false:=by simpa using ht
   have oM:Hid (∀V J,(J=y\/(w.heap.size<=J/\J<V.heap.size))->eT V b J B (Ae ps 1 f)->Calls prog 48 #[.pointer (some ⟨b,0,none⟩),.int .i64 2,.int .u64 0] V (iY V b J B (ps++[(1,f),(2,0)]))):=λV J hg hs=>by
    have e1:Ae ps 1 f=ps++[(1,f)]:=rfl;have e2:Ae (ps++[(1,f)]) 2 0=ps++[(1,f),(2,0)]:=by show(ps++[(1,f)])++[(2,0)]=_;rw[ba];rfl
    rw[e1] at hs;have :=o7 hs (by rw[aD];have :=Af.out;simp;omega) 2 0;rwa[e2] at this
   rcases U with rfl|rfl
   all_goals
    go_enter func47,ntmps47;go_wp2_with fail;refine HT.out.mono ?_;rintro e w' ⟨rfl,rfl⟩;go_wp2_with fail;refine XH.out.mono ?_;rintro e V ⟨rfl,J,W,ag,ac⟩;have Ac:=ar (oM.out V J W ag);have jl:=ar ac;have V9:=ar W;clear W ag ac oM XH;go_wp2_with fail;refine Ac.out.mono ?_;rintro e w2 ⟨rfl,xe,ai,af,Z⟩;have HF:Hid (gQ w b y B ps 2 R (.returned (.int .i64 0)) w2):=mJ.out w2 ⟨xe,by
     have h1:=V9.out;have h2:=jl.out.size;have h3:=Z.size;have h4:=ah.out;omega,af,by
     refine jl.out.trans Z (λx hx=> ?_);have h1:=V9.out;simp only[aQ,aS,bD] at hx ⊢;omega⟩
    clear ai af Z Ac mJ;go_wp2_with fail;go_ret;exact HF.out
 ·have HF:Hid (gQ w b y B ps 2 (L5 (az B ps) f) (.returned (.int .i64 1)) w):=gQ.none h (ay.refl _ _) (.inl ⟨rfl,U,rfl⟩)
  have b1:(f==1)=false:=by simp;omega
  have b2:(f==2)=false:=by simp;omega
  have b3:(f != 1)=true:=by simp;omega
  have b4:(f != 2)=true:=by simp;omega
  clear h G z U;generalize L5 (az B ps) f=R at *;go_enter func47,ntmps47;go_wp2_with fail;go_ret;exact HF.out
theorem JS{G:Nat}(h:eT w b G B ps)(z:(az B ps).getD 1 0=0):
  Calls prog 93 #[.pointer (some ⟨b,0,none⟩)] w λe w'=>e= .returned (.int .i64 ((az B ps).getD 1 0))/\w=w':=by
 have y:=nE h 1;rw[show(1:Int)=((1:Nat):Int) from rfl,JR 1 (by omega),z] at y;have y:=ar y;rw[z];clear h z;go_enter func93,ntmps93;go_wp2_with fail;refine y.out.mono ?_;rintro e w' ⟨rfl,rfl⟩;go_wp2_with fail;go_ret;exact⟨rfl,rfl⟩
end Go.Proofs.YtepbpdipenedhaaGreatDoor
namespace Go.Proofs.YtepbpdipenedhaaGreatDoor
open Go.Proofs.Tryz
open Go.RowKit
open Go.RowKit
open Go.RowKit
variable{w w':World}{B X Y f xs:List Int}{b gf gl gn k y:Nat}{D:DataW Unit}{ps qs:List (Int×Int)}{d:Int}{s:iN}{T V:List (bN×Value)}{own:Nat->List Nat}{l:List Nat}
end Go.Proofs.YtepbpdipenedhaaGreatDoor
