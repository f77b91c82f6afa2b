/- Lemmas. -/
import Derived.Test.YtepbpdipenedhaaGreatDoorR21
import Derived.Maps.OwnOps
import Derived.Maps.Views
set_option maxHeartbeats 4000000
set_option maxRecDepth 100000
namespace Go.Proofs.YtepbpdipenedhaaGreatDoor
open Go.Proofs.Tryz
open Go.RowKit Go.Maps
variable{w w':World}{B X Y f xs:List Int}{G J b gf gl gn gp k z:Nat}{D:DataW Unit}{ps qs:List (Int×Int)}{d:Int}{T V:List (bP×Value)}{own:Nat->List Nat}{ex l:List Nat}{M:Nat->Nd}
theorem ye:Keyed prog 3 :=int_keyed underlying3
theorem Gk (w:World):(zeroValue 3).run prog w= .ok (.int .i64 0) w:=by kernel_rfl
structure yZ (w:World) (B k:Nat) (f:List Int) (D:DataW Unit):Prop where
 own:w.ownsMap prog 3 (plainElem prog 3) B k D
 map:IsMap D
 get:∀q:Int,D.atKey (.int .i64 q) (.lit (.int .i64 0))= .lit (.int .i64 (if q∈f then 1 else 0))
theorem yZ.keep{B:Nat}(h:yZ w B k f D){l:List Nat}(J:az l w w')(hb:B∉l):yZ w' B k f D:=by
 refine⟨?_,h.map,h.get⟩;have G:=h.own.lt;obtain⟨V,z,U,W,h3,h4⟩:=h.own;exact⟨V,z,(J.block B G hb).trans U,W,h3,h4⟩
theorem yZ.skip{B:Nat}(h:yZ w B k f D){q:Int}(z:q∈f):yZ w B (k+1) (f++[q]) D:=by
 refine⟨h.own.mono (by omega),h.map,λx=> ?_⟩;rw[h.get];have :x∈f++[q]↔x∈f:=by simp;rintro rfl;exact z
 simp only[this]
theorem yZ.put{B:Nat}(h:yZ w B k f D){q:Int}(z:w'.ownsMap prog 3 (plainElem prog 3) B (k+1) (D.put (.int .i64 q) (.lit (.int .i64 1)))):
  yZ w' B (k+1) (f++[q]) (D.put (.int .i64 q) (.lit (.int .i64 1))):=by
 refine⟨z,h.map.put _ _,λx=> ?_⟩;by_cases e:x=q
 ·subst e
  rw[atKey_put_same h.map (show WideAt.IsKeyLit (.int .i64 x) from trivial),aC (by simp)]
 ·rw[atKey_put_other (by intro h;cases h;exact e rfl),h.get]
  have :x∈f++[q]↔x∈f:=by simp[e]
  simp only[this]
theorem Hq (h:fH w b gn gl gf (gJ xs ps qs d))(U:0<=d)(J:d<4611686018427387904)(i x:Int)(G:0<=i)(z:i<xs.length):
  Calls prog 102 #[.pointer (some ⟨b,0,none⟩),.int .i64 i] w λe w'=>e= .returned (.int .i64 0)/\fH w' b gn gl gf (gJ xs ps (qs++[(i,x)]) (d+1))/\az [b,gn,gl,gf] w w':=by
 have :=Lc h (xK _ _ _ _ U J) i;rw[lZ G z,Ho _ _ _ _ _ x G z] at this;exact this
theorem Hr (h:fH w b gn gl gf (gJ xs ps [] d))(U:0<=d)(J:d<4611686018427387904)(i x:Int)(G:0<=i)(z:i<xs.length):
  Calls prog 18 #[.pointer (some ⟨b,0,none⟩),.int .i64 i,.int .u64 x] w λe w'=>e= .returned (.int .i64 0)/\fH w' b gn gl gf (gJ xs (ps++[(i,x)]) [] (d+1))/\az [b,gn,gl,gf] w w':=by
 have :=Lb h (xK _ _ _ _ U J) i x;rw[lZ G z,Hn _ _ _ _ _ G z] at this;exact this
theorem fH.old{s:j0}(h:fH w b gn gl gf s)(z:s.now.length≠0):b<w.heap.size/\gn<w.heap.size/\gl<w.heap.size/\gf<w.heap.size:=by
 obtain⟨J,U,G,a,c,d,e⟩:=h.at_;exact⟨a.lt,(c.cell z).1,(d.cell z).1,(e.cell (by omega)).1⟩
theorem Nb (xs:List Int)(ps qs:List (Int×Int))(d:Int):(gJ xs ps qs d).now.length=xs.length:=b7 _ _
theorem Us (h:fH w b gn gl gf (gJ xs ps [] d))(h0:0<=d)(hd:d<4000000000000000000){v:Value}{g:Nat}(hr:mX w v g qs)
  (hq:N3 qs xs.length) (hn:qs.length<=1000) (hx:xs.length<=100000) (hg:qs.length≠0->g∉[b,gn,gl,gf]):
  Calls prog 123 #[.pointer (some ⟨b,0,none⟩),v] w λe w'=>e= .returned (.int .i64 0)/\fH w' b gn gl gf (gJ xs ps qs (d+(zf qs:Nat)))/\az [b,gn,gl,gf] w w':=by
 have H:=au h;have HR:=au hr;have HQ:=au hq;have HG:=au hg;obtain⟨a,cap,rfl,h1,h2⟩:=hr.val;unfold maxLen at h2;have HB:Hid (qs.length≠0->w.heap.size∉[b,gn,gl,gf]):=λar V=>by
  have hi:=Ab hq (k:=0) (by omega);have :=h.old (by rw[Nb];omega);simp only[aP,aM,bz] at V;omega
 have ak:= @run_makeMap prog;clear h hr hq hg;go_enter func123,ntmps123;go_wp2_with fail;go_loopg [13] qs.length (λgh s13 wx=>∃k:Nat,k+gh=qs.length/\s13= .int .i64 (k:Int)/\
  Hid ((∃D,yZ wx w.heap.size k ((iP qs).take k) D)/\fH wx b gn gl gf (gJ xs ps (qs.take k) (d+(mg (iP qs) k:Nat)))/\az [b,gn,gl,gf] w wx))
 case atStart=>
  refine⟨0,by omega,rfl,⟨.map [],World.ownsMap_made _ _ _ _,isMap_empty,λq=>by simp[DataW.atKey]⟩,?_,(az.refl _ _).alloc _⟩;have :=H.out.keep ((az.refl [] w).alloc (.map #[] 0)) (by simp) (by simp);simpa[mg] using this
 case round=>
  obtain⟨k,hk,rfl,HI⟩:=hrel;cases gk with
  |zero=>
   obtain rfl:k=qs.length:=by omega
   have ai:¬(qs.length:Int)<(qs.length:Int):=by omega
   have HE:=HI.out.2;rw[aV (aI _)] at HE;have HE:=au HE;go_wp2_with fail;go_ret;exact⟨rfl,HE.out.1,HE.out.2⟩
  |succ gg=>
   have ai:(k:Int)<(qs.length:Int):=by omega
   obtain⟨⟨D,hD⟩,hp,fK⟩:=HI.out;have af:=HG.out (by omega);have hB:=HB.out (by omega);obtain⟨aj,off,rfl,c0,c1⟩:=(HR.out.keep fK (λ_=>af)).get (j:=k) (by omega);obtain⟨x0,x1⟩:=Ab HQ.out (k:=k) (by omega);have av:=uQ (iP qs) k;have HS:=au (Jy qs k (by omega));have HT:=au (rB qs k (by omega));have ah:=au (K9 qs k (by omega));have ac:=au (Kt xs ps (qs.take k) (d+(mg (iP qs) k:Nat)) (jS qs k) (qD qs k));rw[<-uP] at ac;have EI:Hid (mg (iP qs) (k+1)=mg (iP qs) k+if jS qs k/8∈(iP qs).take k then 0 else 1):=by
    show mg (iP qs) (k+1)=_;rw[mg,ah.out]
   generalize jS qs k=x at *;generalize qD qs k=y at *;have HD:=au hD;have HP:=au hp;have iZ:=au fK;have o7:=au hB;have U:keyOf prog 3 (.int .i64 (x/8))=some (.int .i64 (x/8)):=keyOf_int_mk underlying3 (WalkArith.wf_i64 (by omega));have G:=au U;clear hD hp fK hB af HI U;generalize (iP qs).take k=f at *;by_cases V:x/8∈f
   ·rw[aC V] at EI
    have HM:=au V;clear V;go_wp2_with(at_lookup;refine wpList_lookup_own_int _ rfl _ _ 215 rfl 3 3 .i64 ye underlying215 underlying3 (Gk _) w.heap.size k _ rfl (HD.out.own.alloc _) _ _ rfl G.out ?_;intro c z J;(obtain rfl:c=1:=by(rw[HD.out.get,aC HM.out] at z;cases z;rfl));clear z J);go_roundg gg;case measure=>omega
    case rel=>
     refine⟨k+1,by omega,by go_num,⟨D,?_⟩,?_,iZ.out.alloc _⟩
     ·rw[HS.out]
      exact(HD.out.skip HM.out).keep ((az.refl [] _).alloc _) (by simp)
     ·rw[EI.out,HT.out,dR,ac.out HM.out]
      exact HP.out.keep ((az.refl [] _).alloc _) (by simp) (by simp)
   ·rw[aB V] at EI
    have HM:=au V;clear V;go_wp2_with(at_lookup;refine wpList_lookup_own_int _ rfl _ _ 215 rfl 3 3 .i64 ye underlying215 underlying3 (Gk _) w.heap.size k _ rfl (HD.out.own.alloc _) _ _ rfl G.out ?_;intro c z J;(obtain rfl:c=0:=by(rw[HD.out.get,aB HM.out] at z;cases z;rfl));clear z J);refine(Hq (HP.out.keep ((az.refl [] _).alloc _) (by simp) (by simp)) (by omega) (by omega) x y x0 x1).mono ?_;rintro e w2 ⟨rfl,ag,aa⟩;have mU:=au ag;have Ut:=au ((HD.out.keep ((az.refl [] _).alloc _) (by simp)).keep aa o7.out);have fL:=au ((iZ.out.alloc _).trans' aa);clear ag aa;go_wp2_with(first|(at_lookup;refine wpList_lookup_own_int _ rfl _ _ 215 rfl 3 3 .i64 ye underlying215 underlying3 (Gk _) w.heap.size k _ rfl Ut.out.own _ _ rfl G.out ?_;intro c z J;(obtain rfl:c=0:=by(rw[Ut.out.get,aB HM.out] at z;cases z;rfl));clear z J)|(at_mapUpdate;refine wpList_mapUpdate_own _ rfl _ _ _ 215 rfl 3 3 ye underlying215 _ w.heap.size k _ rfl Ut.out.own (by unfold maxLen;omega) _ _ _ rfl rfl G.out (.lit (.int .i64 1)) [] (plainElem_int underlying3 (by decide)) ?_;intro w3 ae X3));have Zz:=au (Ut.out.put ae);have W:az [w.heap.size] w2 w3:=az.of_grown X3 (by intro q hq;cases hq;simp);have Ad:=au (mU.out.keep W (by have :=o7.out;simp at this ⊢;omega) (λ_=>by have :=o7.out;simp at this ⊢;omega));have mV:=au (fL.out.trans W (by simp));clear ae X3 W;go_wp2_with fail;go_roundg gg;case measure=>omega
    case rel=>
     refine⟨k+1,by omega,by go_num,⟨D.put (.int .i64 (x/8)) (.lit (.int .i64 1)),?_⟩,?_,mV.out⟩
     ·rw[HS.out]
      exact Zz.out
     ·rw[EI.out,HT.out]
      have :=Ad.out;rw[show d+((mg (iP qs) k+1:Nat):Int)=d+(mg (iP qs) k:Nat)+1 by omega];exact this
theorem Cs (h:fH w b gn gl gf (calm xs d))(h0:0<=d)(hd:d<3000000000000000000){v:Value}{g:Nat}{ps:List (Int×Int)}(hr:mX w v g ps)
  (hq:N3 ps xs.length) (hn:ps.length<=1000) (hx:xs.length<=100000) (hg:ps.length≠0->g∉[b,gn,gl,gf]):
  Calls prog 69 #[.pointer (some ⟨b,0,none⟩),v] w λe w'=>e= .returned (.int .i64 0)/\fH w' b gn gl gf (calm (aA xs ps) (d+(mh ps:Nat)))/\az [b,gn,gl,gf] w w':=by
 have H:=au h;have HR:=au hr;have HQ:=au hq;have HG:=au hg;obtain⟨a,cap,rfl,h1,h2⟩:=hr.val;unfold maxLen at h2;clear h hr hq hg;go_enter func69,ntmps69;go_wp2_with fail;go_loopg [11] ps.length (λgh KR wx=>∃k:Nat,k+gh=ps.length/\KR= .int .i64 (k:Int)/\
  Hid (fH wx b gn gl gf (gJ xs (ps.take k) [] (d+(k:Nat)))/\az [b,gn,gl,gf] w wx))
 case atStart=>
  refine⟨0,by omega,rfl,?_,az.refl _ _⟩;have :=H.out;rw[RD] at this;simpa using this
 case round=>
  obtain⟨k,hk,rfl,HI⟩:=hrel;cases gk with
  |zero=>
   obtain rfl:k=ps.length:=by omega
   have aa:¬(ps.length:Int)<(ps.length:Int):=by omega
   obtain⟨J,U⟩:=HI.out;rw[aV (aI _)] at J;have HF:=au (Us J (by omega) (by omega) (HR.out.keep U HG.out) HQ.out hn hx HG.out);have iZ:=au U;clear J U;have ae:=uQ (iP ps) ps.length;go_wp2_with fail;refine HF.out.mono ?_;rintro e w2 ⟨rfl,z,G⟩;have V:=Le z (xK _ _ _ _ (by omega) (by unfold zf;omega));obtain⟨e1,e2⟩:=Hp xs ps (d+(ps.length:Nat)+(zf ps:Nat)) (λp J=>(HQ.out p J).1);rw[e1,e2] at V;have Rf:=au V;have fL:=au (iZ.out.trans' G);clear z G V e1 e2;go_wp2_with fail;refine Rf.out.mono ?_;rintro e w3 ⟨rfl,P4,W⟩;have Ad:=au P4;have mV:=au (fL.out.trans' W);clear P4 W;go_wp2_with fail;go_ret;refine⟨rfl,?_,mV.out⟩;rw[show d+((mh ps:Nat):Int)=d+(ps.length:Nat)+(zf ps:Nat)+1 by unfold mh;omega];exact Ad.out
  |succ gg=>
   have aa:(k:Int)<(ps.length:Int):=by omega
   obtain⟨J,U⟩:=HI.out;obtain⟨ac,off,rfl,c0,c1⟩:=(HR.out.keep U HG.out).get (j:=k) (by omega);obtain⟨x0,x1⟩:=Ab HQ.out (k:=k) (by omega);have HT:=au (rB ps k (by omega));generalize jS ps k=x at *;generalize qD ps k=y at *;have HP:=au J;have iZ:=au U;clear J U HI;go_wp2_with fail;refine(Hr (HP.out.keep ((az.refl [] _).alloc _) (by simp) (by simp)) (by omega) (by omega) x y x0 x1).mono ?_;rintro e w2 ⟨rfl,z,G⟩;have mU:=au z;have fL:=au ((iZ.out.alloc _).trans' G);clear z G;go_wp2_with fail;go_roundg gg;case measure=>omega
   case rel=>
    refine⟨k+1,by omega,by go_num,?_,fL.out⟩;rw[HT.out,show d+((k+1:Nat):Int)=d+(k:Nat)+1 by omega];exact mU.out
theorem X4 (w:World)(a x:Int)(T:Nat):mX (w.alloc (.cells #[.int .i64 a,.int .u64 x] T)) (.slice (some ⟨w.heap.size,0,none⟩) 1 1) w.heap.size [(a,x)]:=
 fp.preads (T:=T) ⟨rfl,_,1,rfl,aI _,by unfold maxLen;omega,λ_=>⟨rfl,_,bh.new _ _ _,rfl,rfl⟩⟩
theorem qP (h:fH w b gn gl gf (calm xs d))(h0:0<=d)(hd:d<3000000000000000000)(hx:xs.length=3128)(x:Int):
  Calls prog 71 #[.pointer (some ⟨b,0,none⟩),.int .u64 x] w λe w'=>e= .returned (.int .i64 0)/\fH w' b gn gl gf (calm (aA xs [(8,x)]) (d+3))/\az [b,gn,gl,gf] w w':=by
 have ho:=h.old (by show xs.length≠0;omega);have J:=λ(U:World) (W:az [] w U) (he:U.heap.size=w.heap.size)=>Cs (h.keep (W.alloc (.cells #[.int .i64 8,.int .u64 x] 58)) (by simp) (by simp)) h0 hd (X4 U 8 x 58) (by intro p V;simp at V;subst V;simp;omega) (by simp) (by omega) (by intro _ hm;simp at hm;omega)
 rw[La] at J;have HS:=au J;clear J ho h;go_enter func71,ntmps71;go_wp2_with fail;refine(HS.out w (az.refl _ _) rfl).mono ?_;rintro e w2 ⟨rfl,z,G⟩;have mU:=au z;have fL:=au (((az.refl _ _).alloc _).trans' G);clear z G;go_wp2_with fail;go_ret;exact⟨rfl,mU.out,fL.out⟩
theorem Nc (h:fH w b gn gl gf (calm xs d))(h0:0<=d)(hd:d<2000000000000000000)(V:xs.length=3128){v:Value}{g:Nat}{ps:List (Int×Int)}(U:mX w v g ps)
  (W:N3 ps 3128) (hn:ps.length<=1000) (hg:ps.length≠0->g∉[b,gn,gl,gf]):
  Calls prog 73 #[.pointer (some ⟨b,0,none⟩),v] w λe w'=>e= .returned (.int .i64 0)/\fH w' b gn gl gf (calm (VJ xs ps) (d+(mh ps:Nat)+3))/\az [b,gn,gl,gf] w w':=by
 have HS:=au (Cs h h0 (by omega) U (by rw[V];exact W) hn (by omega) hg);have aa:=uR ps;have HX:=au V;obtain⟨a,cap,rfl,-,-⟩:=U.val;clear h U W hg V;go_enter func73,ntmps73;go_wp2_with fail;refine HS.out.mono ?_;rintro e w2 ⟨rfl,G,J⟩;have HC:=au (qP G (by omega) (by omega) (by rw[b7];exact HX.out) 0);have fL:=au J;clear G J;go_wp2_with fail;refine HC.out.mono ?_;rintro e w3 ⟨rfl,P4,z⟩;have Ad:=au P4;have mV:=au (fL.out.trans' z);clear P4 z;go_wp2_with fail;go_ret;exact⟨rfl,Ad.out,mV.out⟩
end Go.Proofs.YtepbpdipenedhaaGreatDoor
namespace Go.Proofs.YtepbpdipenedhaaGreatDoor
open Go.Proofs.Tryz
open Go.RowKit
variable{w w':World}{B X Y f xs:List Int}{G J b gf gl gn gp k z:Nat}{D:DataW Unit}{ps qs:List (Int×Int)}{d:Int}{T V:List (bP×Value)}{own:Nat->List Nat}{ex l:List Nat}{M:Nat->Nd}
theorem Gl (h:fH w b gn gl gf (calm xs d))(z:xs.length=3128):
  Calls prog 46 #[.pointer (some ⟨b,0,none⟩)] w λe w'=>e= .returned (.int .i64 3128)/\w=w':=by
 have :=VL h;rw[show((calm xs d).now.length:Int)=3128 by show(xs.length:Int)=3128;omega] at this;exact this
theorem X5 (h:Aa ps=true):N3 ps 3128:=λp z=>by have :=R7 h z;omega
theorem abu (h:ps.length<=400):N3 (mn (fq ps)) 3128:=λp z=>by
 have :=K8 z;rw[mz] at this;omega
def Uu (w:World) (b gn gl gf:Nat) (xs:List Int) (d:Int) (e:Ending) (w':World):Prop:=
 e= .returned (.int .i64 0)/\fH w' b gn gl gf (calm xs d)/\az [b,gn,gl,gf] w w'
theorem Uv (h:fH w b gn gl gf (calm xs d))(h0:0<=d)(hd:d<1000000000000000000)(hx:xs.length=3128){v:Value}{g:Nat}{ps:List (Int×Int)}(hr:mX w v g ps)
  (aa:okP ps) (af:Aa ps=true) (hn:ps.length<=400) (hg:ps.length≠0->g∉[b,gn,gl,gf]):
  Calls prog 28 #[.pointer (some ⟨b,0,none⟩),v] w (Uu w b gn gl gf (mM xs ps) (d+(Bv ps:Nat))):=by
 have H:=au h;have HR:=au hr;have HX:=au hx;have HG:=au hg;have ag:=au af;have wQ:=au aa;have HL:=au (Gl h hx);have HW:=au (PZ hr aa hn);obtain⟨a,cap,rfl,h1,h2⟩:=hr.val;unfold maxLen at h2;have G:=au (h.old (by show xs.length≠0;omega));have q4:¬(400:Int)<(ps.length:Int):=by omega
 clear h hr aa hg af hx;go_enter func28,ntmps28;go_wp2_with fail;refine HL.out.mono ?_;rintro e w' ⟨rfl,rfl⟩;go_wp2_with fail;refine HW.out.mono ?_;rintro e w1 ⟨vw,gw,rfl,z,PS,J⟩;obtain⟨aw,cw,rfl,-,-,-⟩:=iB z;have Dy:=au z;have iU:=au J;have HU:=au (Eu wQ.out);have Q5:=Bd z HU.out ps.length (mz ps) (by omega);rw[Ew wQ.out,ag.out] at Q5;have Q5:=au Q5;have ac:=au (H.out.keep J (by simp) (by simp));clear z J;go_wp2_with fail;refine Q5.out.mono ?_;rintro e w' ⟨rfl,rfl⟩;go_wp2_with fail;refine(yc ac.out 8 (by omega) (by rw[HX.out];omega)).mono ?_;rintro e w' ⟨rfl,rfl⟩;by_cases hz:ps.length=0
 ·obtain rfl:ps=[]:=bg hz
  clear hz;go_wp2_with fail;go_ret;refine⟨rfl,?_,iU.out.mono (by simp)⟩;simpa[mM,Bv] using ac.out
 ·have ai:((ps.length:Int)==0)=false:=cQ.2 (by omega)
  have aD:(ps.length==0)=false:=cQ.2 hz;have VF:Hid (ps≠[]):=λe=>hz (by rw[e];rfl)
  have HZ:=au hz;clear hz;go_wp2_with fail;refine(XZ Dy.out (by rw[mz];omega)).mono ?_;rintro e w2 ⟨vl,aA,rfl,V,aC,ae⟩;obtain⟨al,cl,rfl,-,-⟩:=V.val;have fL:=au ae;have ho:=G.out;have ai:=iU.out.size;have Oc:=au (Cs (ac.out.keep ae (by simp) (by simp)) h0 (by omega) V (by rw[HX.out];exact abu hn) (by rw[nj,mz];omega) (by rw[HX.out];omega) (by intro _ hm;simp only[aP,aM,bz] at hm;omega));clear V ae ho ai;go_wp2_with fail;refine Oc.out.mono ?_;rintro e w3 ⟨rfl,P4,U⟩;have Ad:=au P4;have ho:=G.out;have aj:=(Dy.out.keep fL.out (by simp)).keep U (by intro hm;simp only[aP,aM,bz] at hm;omega);have av:=au (yY aj HU.out (by rw[mz];omega));have mV:Hid (az [b,gn,gl,gf] w w3):=((iU.out.trans fL.out (by simp)).mono (by simp)).trans' U;clear P4 U aj ho;go_wp2_with fail;refine av.out.mono ?_;rintro e w4 ⟨rfl,W⟩;have ar:=uR (mn (fq ps));rw[nj,mz] at ar;have ay:=au (qP (Ad.out.keep W (by simp) (by simp)) (by omega) (by omega) (by rw[b7];exact HX.out) (qL (fq ps)));have pW:=au (mV.out.trans W (by simp));clear W;go_wp2_with fail;refine ay.out.mono ?_;rintro e w5 ⟨rfl,ah,j6⟩;have qG:=au (pW.out.trans' j6);have X6:=au (Nc ah (by omega) (by omega) (by rw[b7,b7];exact HX.out) (HR.out.keep qG.out HG.out) (X5 ag.out) (by omega) HG.out);clear ah j6;go_wp2_with fail;refine X6.out.mono ?_;rintro e w6 ⟨rfl,ak,kG⟩;have ax:=au ak;have o8:=au (qG.out.trans' kG);clear ak kG;go_wp2_with fail;go_ret;refine⟨rfl,?_,o8.out⟩;rw[mM,aB VF.out,Bv,aB VF.out];have :=ax.out;rw[show d+((mh (mn (fq ps))+3+mh ps+3:Nat):Int)=d+(mh (mn (fq ps)):Nat)+3+(mh ps:Nat)+3 by omega];exact this
def Hs (xs:List Int):Nat:=(xs.getD 8 0/4294967296).toNat
def Ky (xs:List Int):Option (List (Int×Int)):=
 if 1<=Hs xs/\Hs xs<=400/\xs.getD 8 0=qL (pM xs (2*Hs xs))/\lK (pM xs (2*Hs xs)) (Hs xs)=true then some (adL (pM xs (2*Hs xs)) (Hs xs)) else none
def Uw (w:World) (e:Ending) (w':World):Prop:=e= .returned (.tuple #[.slice none 0 0,.bool false,.int .i64 0])/\az [] w w'
theorem Ux (h:fH w b gn gl gf (calm xs d))(m:Nat)(J:m<=800)(G:xs.length=3128)(M:Int)(z:M=(m:Int)):
  Calls prog 135 #[.pointer (some ⟨b,0,none⟩),.int .i64 9,.int .i64 M] w (qw w (pM xs m)):=by
 subst z;exact X0 h m J G
theorem Ht (h:fH w b gn gl gf (calm xs d))(hx:xs.length=3128)(hu:Et xs)(W:Ky xs=none):
  Calls prog 89 #[.pointer (some ⟨b,0,none⟩)] w (Uw w):=by
 have HL:=au (Gl h hx);have GC:=au (yc h 8 (by omega) (by rw[hx];omega));rw[show(8:Int).toNat=8 from rfl] at GC;obtain⟨c0,c1⟩:=Ev hu 8;obtain⟨n,hn⟩:∃n:Nat,Hs xs=n:=⟨_,rfl⟩;have hc:xs.getD 8 0/4294967296=(n:Int):=by unfold Hs at hn;omega
 have Q5:=au (Ux h (2*n));have HX:=au hx;have HU:=au hu;unfold Ky at W;rw[hn] at W;have HS:Hid (¬(1<=n/\n<=400/\xs.getD 8 0=qL (pM xs (2*n))/\lK (pM xs (2*n)) n=true)):=λe=>by rw[aC e] at W;cases W
 generalize ac:xs.getD 8 0=c at *;clear h hx hu hn ac W;by_cases h1:n<1
 ·go_enter func89,ntmps89
  go_wp2_with fail;refine HL.out.mono ?_;rintro e w' ⟨rfl,rfl⟩;go_wp2_with fail;refine GC.out.mono ?_;rintro e w' ⟨rfl,rfl⟩;go_wp2_with fail
  go_ret3
  exact⟨rfl,az.refl _ _⟩
 ·by_cases h2:400<n
  ·go_enter func89,ntmps89
   go_wp2_with fail;refine HL.out.mono ?_;rintro e w' ⟨rfl,rfl⟩;go_wp2_with fail;refine GC.out.mono ?_;rintro e w' ⟨rfl,rfl⟩;go_wp2_with fail
   go_ret3
   exact⟨rfl,az.refl _ _⟩
  ·go_enter func89,ntmps89
   go_wp2_with fail;refine HL.out.mono ?_;rintro e w' ⟨rfl,rfl⟩;go_wp2_with fail;refine GC.out.mono ?_;rintro e w' ⟨rfl,rfl⟩;go_wp2_with fail;refine(Q5.out (by omega) HX.out _ (by omega)).mono ?_;rintro e w1 ⟨vw,gw,rfl,z,PS,U⟩;obtain⟨aw,cw,rfl,-,-,-⟩:=iB z;have Dy:=au z;have iU:=au U;clear z U;go_wp2_with fail;refine(yY Dy.out (Na HU.out _) (by rw[qu];omega)).mono ?_;rintro e w2 ⟨rfl,G⟩;have fL:=au (iU.out.trans G (by simp));have QM:=au (Bd (Dy.out.keep G (by simp)) (Na HU.out _) n (qu _ _) (by omega));clear G;generalize V:qL (pM xs (2*n))=mk at *;by_cases J:c=mk
   ·have VC:(c != mk)=false:=by simpa using J
    have aa:Hid (lK (pM xs (2*n)) n=false):=by
     show lK (pM xs (2*n)) n=false;cases hp:lK (pM xs (2*n)) n
     ·rfl
     ·exact absurd ⟨by omega,by omega,J,hp⟩ HS.out
    rw[aa.out] at QM;subst J;clear V;go_wp2_with(go_at_call 68;refine QM.out.mono ?_;rintro e w' ⟨rfl,rfl⟩)
    go_ret3
    exact⟨rfl,fL.out⟩
   ·have VC:(c != mk)=true:=by simpa using J
    clear V J;go_wp2_with fail
    go_ret3
    exact⟨rfl,fL.out⟩
theorem X7 (V:X.length=3128):∀k,k<=3128->∀i,(aA X (cV X Y k)).getD i 0=if i<k then Y.getD i 0 else X.getD i 0:=by
 intro k;induction k with
 |zero=>intro _ i;rw[aB (by omega)];rfl
 |succ k ih=>
  intro U i;by_cases G:Y.getD k 0=X.getD k 0
  ·rw[CO X Y k G,ih (by omega)]
   by_cases h:i<k
   ·rw[aC h,aC (by omega)]
   ·rw[aB h]
    by_cases z:i=k
    ·rw[aC (by omega),z,G]
    ·rw[aB (by omega)]
  ·have e:cV X Y (k+1)=cV X Y k++[((k:Int),Y.getD k 0)]:=by
    unfold cV;rw[dS,ft,eX]
    congr 1
    have J:(Y.getD k 0 != X.getD k 0)=true:=bne_iff_ne.2 G;simp only[iT,J,if_true,List.filter_nil];rfl
   rw[e,bD,nC,aH,jk _ _ _ _ (by rw[b7];omega)];by_cases h:i=k
   ·rw[aC h.symm,aC (by omega),h]
   ·rw[aB (dK h),ih (by omega)]
    by_cases z:i<k
    ·rw[aC z,aC (by omega)]
    ·rw[aB z,aB (by omega)]
theorem X8{p:Int×Int}(h:p∈cV X Y k):∃i:Nat,i<k/\p=((i:Int),Y.getD i 0)/\Y.getD i 0≠X.getD i 0:=by
 unfold cV at h;obtain⟨i,z,rfl⟩:=bH.1 h;rw[List.mem_filter,bX] at z;exact⟨i,z.1,rfl,by simpa using z.2⟩
theorem abv{L:List Nat}(h:∀i,i<3128->Y.getD i 0≠X.getD i 0->i∈L):(cV X Y 3128).length<=L.length:=by
 unfold cV;rw[bS];have G:∀(l m:List Nat),l.Nodup->(∀x∈l,x∈m)->l.length<=m.length:=by
  intro l;induction l with
  |nil=>intro m _ _;exact fC _
  |cons a l ih=>
   intro m W h;have U:=List.nodup_cons.1 W;have V:=h a (by simp);have h2:=ih (m.erase a) U.2 λx z=>by
    have J:x≠a:=λe=>U.1 (e▸z)
    exact(List.mem_erase_of_ne J).2 (h x (by simp[z]))
   rw[List.length_erase_of_mem V] at h2;have :0<m.length:=List.length_pos_of_mem V;simp only[bQ];omega
 refine G _ L (List.Sublist.nodup List.filter_sublist List.nodup_range) λx z=> ?_
 rw[List.mem_filter,bX] at z;exact h x z.1 (by simpa using z.2)
theorem Nf (hX:X.length=3128)(ac:In64 X)(aa:In64 Y)(hj:∀k,8<=k->k<816->Y.getD k 0=X.getD k 0)(h8:X.getD 8 0=0)(hn:(cV X Y 3128).length<=400):
  okP (cV X Y 3128)/\Aa (cV X Y 3128)=true/\(mM X (cV X Y 3128)).length=3128/\In64 (mM X (cV X Y 3128))/\(mM X (cV X Y 3128)).getD 8 0=0/\
   ∀k,k<3128->(k<8\/816<=k)->(mM X (cV X Y 3128)).getD k 0=Y.getD k 0:=by
 have J:∀p∈cV X Y 3128,∃i:Nat,i<3128/\(i<8\/816<=i)/\p=((i:Int),Y.getD i 0):=λp z=>by
  obtain⟨i,h1,h2,h3⟩:=X8 z;refine⟨i,h1,?_,h2⟩;rcases dG i 8 with h4|h4
  ·exact .inl h4
  ·rcases dG i 816 with h5|h5
   ·exact absurd (hj i h4 h5) h3
   ·exact .inr h5
 have W:okP (cV X Y 3128):=λp z=>by
  obtain⟨i,h1,-,rfl⟩:=J p z;have :=aa i
  dsimp only
  omega
 have yS:Aa (cV X Y 3128)=true:=by
  unfold Aa;rw[fY];intro p z;obtain⟨i,h1,h2,rfl⟩:=J p z;exact mr.2 (by dsimp only;omega)
 have af:=mz (cV X Y 3128);have U:=X7 (Y:=Y) hX 3128 (aI _);by_cases G:cV X Y 3128=[]
 ·have e:mM X (cV X Y 3128)=X:=by unfold mM;rw[aC G]
  rw[e];refine⟨W,yS,hX,ac,h8,λk hk _=> ?_⟩;have :=U k;rw[G,aC hk] at this;exact this
 ·have e:mM X (cV X Y 3128)=aA (aA (aA (aA X (mn (fq (cV X Y 3128)))) [(8,qL (fq (cV X Y 3128)))]) (cV X Y 3128)) [(8,0)]:=by unfold mM;rw[aB G];rfl
  have ah:∀p∈mn (fq (cV X Y 3128)),9<=p.1/\p.1<809+1:=λp z=>by
   have :=K8 z;omega
  have ae:0<=qL (fq (cV X Y 3128))/\qL (fq (cV X Y 3128))<18446744073709551616:=by
   unfold qL;have h1:=Jw ((fq (cV X Y 3128)).map Int.toNat);rw[af,show 2*(cV X Y 3128).length/2=(cV X Y 3128).length by omega];omega
  have h1:In64 (aA X (mn (fq (cV X Y 3128)))):=ac.put λp z=>by
   have hu:=Eu W;unfold mn at z;obtain⟨k,hk,rfl⟩:=List.mem_mapIdx.1 z;have :=hu _ (bA hk)
   dsimp only
   omega
  have h2:In64 (aA (aA X (mn (fq (cV X Y 3128)))) [(8,qL (fq (cV X Y 3128)))]):=h1.put λp z=>by rw[ay] at z;subst z;exact ae
  have h3:In64 (aA (aA (aA X (mn (fq (cV X Y 3128)))) [(8,qL (fq (cV X Y 3128)))]) (cV X Y 3128)):=h2.put λp z=>by
   obtain⟨i,-,-,rfl⟩:=J p z;exact aa i
  have h4:In64 (aA (aA (aA (aA X (mn (fq (cV X Y 3128)))) [(8,qL (fq (cV X Y 3128)))]) (cV X Y 3128)) [(8,0)]):=h3.put λp z=>by rw[ay] at z;subst z;exact⟨Int.le_refl _,by decide⟩
  have GK:(aA (aA X (mn (fq (cV X Y 3128)))) [(8,qL (fq (cV X Y 3128)))]).length=3128:=by rw[b7,b7,hX]
  -- the words under the journal are the same
  have V:∀k,(k<8\/816<=k)->(aA (aA X (mn (fq (cV X Y 3128)))) [(8,qL (fq (cV X Y 3128)))]).getD k 0=X.getD k 0:=λk hk=>by
   rw[ey _ _ _ λp z=>by rw[ay] at z;subst z;show(8:Int).toNat≠k;rw[show(8:Int).toNat=8 from rfl];omega,ey _ _ _ λp z=>by have :=ah p z;omega]
  refine⟨W,yS,by rw[e,b7,b7,GK],by rw[e];exact h4,?_,λk hk ai=> ?_⟩
  ·rw[e,nC,show(8:Int).toNat=8 from rfl,jk _ _ _ _ (by rw[b7,GK];omega),aC rfl]
  ·rw[e,ey _ _ _ λp z=>by rw[ay] at z;subst z;show(8:Int).toNat≠k;rw[show(8:Int).toNat=8 from rfl];omega]
   -- the same puts over words that are the same there
   have ag:∀(ps:List (Int×Int)) (A B:List Int),A.length=3128->B.length=3128->A.getD k 0=B.getD k 0->(aA A ps).getD k 0=(aA B ps).getD k 0:=by
    intro ps;induction ps with
    |nil=>intro A B _ _ h;exact h
    |cons p ps ih=>
     intro A B hA hB h;show(aA (A.set p.1.toNat p.2) ps).getD k 0=(aA (B.set p.1.toNat p.2) ps).getD k 0;refine ih _ _ (by rw[cT,hA]) (by rw[cT,hB]) ?_;rcases dG p.1.toNat 3128 with z|z
     ·rw[jk _ _ _ _ (by omega),jk _ _ _ _ (by omega)]
      split
      ·rfl
      ·exact h
     ·rw[jb (by omega),jb (by omega)]
      exact h
   rw[ag _ _ X GK hX (V k ai),U,aC hk]
theorem qX.journal(h:qX X T V own ex)(hl:Y.length=3128)(J:In64 Y)(hs:∀k,k<3128->(k<8\/816<=k)->Y.getD k 0=X.getD k 0):qX Y T V own ex/\pg X Y []:=by
 have z:∀k,(k<8\/816<=k)->Y.getD k 0=X.getD k 0:=λk G=>by
  rcases dG k 3128 with U|U
  ·exact hs k U G
  ·rw[aj,aT (by omega),aj,aT (by rw[h.len];omega)]
 have hu:(∀c,c<256->dC Y c=dC X c):=λc hc=>by
  unfold dC bw;rw[z _ (by omega)]
 have W:pg X Y []:=λc _ _ _ _ j _=>z _ (by omega)
 exact⟨h.bits hl J (xJ h.sup (λk G=>z k (by omega)) λk G _=>z k (by omega)) (λk G _=>z k (by omega)) (λi _ c _ j _=>z _ (by omega)) (λb hb=>by rw[hu b hb];exact h.once b hb) h.exr λj hj=>h.tailsKeep W hj (by simp),W⟩
theorem qX.nodes(h:qX X T V own ex)(hk:pg X Y l){j:Nat}(hl:∀c∈dn (nT V j),c∉l):sS Y (nT V j)=sS X (nT V j):=by
 rcases h.vir j with G|G
 ·rcases h.gots.form j with ⟨h0,U,J⟩|⟨-,J,-⟩
  ·rw[G] at hl ⊢
   refine Bc J.len (λhK=>(rZ J.right hK).2) λc z k uS=> ?_
   have W:=h.rng U (bV _ (by rw[G];exact z));exact hk c W.2 W.1 (h.used U (bV _ (by rw[G];exact z))) (hl c z) k uS
  ·rw[G,J];rfl
 ·rw[G];rfl
theorem qX.nodesUp{J:List Nat}(h:StX X T own J)(U:∀i,M i=sS X (nT T i))(z:pg X Y l){i:Nat}(G:i<32)(V:∀j,j≠i->∀c∈dn (nT T j),c∉l)(n:bP):∀j,ng M i (sS Y n) j=sS Y (nT (mQ T i n) j):=by
 intro j;rw[oX h.gots.len G];by_cases e:i=j
 ·subst e
  rw[mJ,aC rfl]
 ·rw[dL _ _ (dK e),aB e,U]
  exact(h.nodes z (V j (dK e))).symm
theorem qX.filesOwn{V:List Nat}(h:StX X T own V){i:Nat}(U:i<32):∀j,∀c∈dn (nT T j),c∉own i:=λj c G z=>by
 rcases dG j 32 with J|J
 ·by_cases e:j=i
  ·subst e;exact h.inner J z G
  ·exact h.apart J U e (bV _ G) (bR _ z)
 ·rw[h.gots.zero J] at G
  have :dn cr=[]:=by decide
  rw[this] at G;simp at G
theorem Ng (i:Nat)(h:i<3128):Ae B ps (i:Int)=(aA B ps).getD i 0:=by
 unfold Ae;rw[aC (by omega),aH]
structure se (w:World) (b gp:Nat) (B:List Int) (ps:List (Int×Int)) (T:List (bP×Value)) (own:Nat->List Nat):Prop where
 st:gN w b gp B ps T own
 sup:kD (aA B ps)
theorem se.keep0(h:se w b z B ps T own)(G:az [] w w'):se w' b z B ps T own:=⟨h.st.keep0 G,h.sup⟩
theorem Ct (h:se w b z B ps T own)(i:Nat)(G:i<3128):
  Calls prog 127 #[.pointer (some ⟨b,0,none⟩),.int .i64 (i:Int)] w λe w'=>e= .returned (.int .u64 ((aA B ps).getD i 0))/\w=w':=by
 have :=oC h.st.sh (i:Int);rwa[Ng i G] at this
theorem RF (h:se w b J B ps T own):
  Calls prog 121 #[.pointer (some ⟨b,0,none⟩)] w λe w'=>e= .returned (.bool (decide ((aA B ps).getD 2 0=32)))/\w=w':=by
 have G:=au (Ct h 2 (by omega));clear h;generalize (aA B ps).getD 2 0=c at *;by_cases z:c=32
 ·subst z
  go_enter func121,ntmps121;go_wp2_with fail;refine G.out.mono ?_;rintro e w' ⟨rfl,rfl⟩;go_wp2_with fail;go_ret;exact⟨rfl,rfl⟩
 ·have U:(c==32)=false:=by simpa using z
  rw[aS z];clear z;go_enter func121,ntmps121;go_wp2_with fail;refine G.out.mono ?_;rintro e w' ⟨rfl,rfl⟩;go_wp2_with fail;go_ret;exact⟨rfl,rfl⟩
theorem yf (h:se w b G B ps T own):
  Calls prog 93 #[.pointer (some ⟨b,0,none⟩)] w λe w'=>e= .returned (.int .i64 ((aA B ps).getD 1 0))/\w=w':=by
 have z:=au (Ct h 1 (by omega));have J:=h.sup.2.1;clear h;generalize (aA B ps).getD 1 0=t at *;rcases J with rfl|rfl
 ·go_enter func93,ntmps93
  go_wp2_with fail;refine z.out.mono ?_;rintro e w' ⟨rfl,rfl⟩;go_wp2_with fail;go_ret;exact⟨rfl,rfl⟩
 ·go_enter func93,ntmps93
  go_wp2_with fail;refine z.out.mono ?_;rintro e w' ⟨rfl,rfl⟩;go_wp2_with fail;go_ret;exact⟨rfl,rfl⟩
def cO (w:World) (b z:Nat) (B:List Int) (ps:List (Int×Int)) (m:Nat) (R:Int->List (Int×Int)->Prop) (e:Ending) (w':World):Prop:=
 ∃r qs h,e= .returned (.int .i64 r)/\(h=z\/(w.heap.size<=h/\h<w'.heap.size))/\eO w' b h B (ps++qs)/\az [b,z] w w'/\qs.length<=m/\R r qs
def Cu (X:List Int) (f r:Int) (qs:List (Int×Int)):Prop:=
 (r=1/\¬(f=1\/f=2)/\qs=[])\/(r=0/\(f=1\/f=2)/\((X.getD 1 0=f/\qs=[])\/(X.getD 1 0≠f/\qs=[(1,f),(2,0)])))
theorem cO.none{m:Nat}{R:Int->List (Int×Int)->Prop}{r:Int}(h:eO w b z B ps)(G:az [] w w')(J:R r []):cO w b z B ps m R (.returned (.int .i64 r)) w':=
 ⟨r,[],z,rfl,.inl rfl,by rw[bu];exact h.keep G (by simp) (by simp),G.mono (by simp),by simp,J⟩
theorem X9 (h:eO w b z B ps)(G:b<w.heap.size/\z<w.heap.size)(ae:ps.length<=700000)(f:Int)
  (J:Calls prog 93 #[.pointer (some ⟨b,0,none⟩)] w λe w'=>e= .returned (.int .i64 ((aA B ps).getD 1 0))/\w=w'):
  Calls prog 47 #[.pointer (some ⟨b,0,none⟩),.int .i64 f] w (cO w b z B ps 2 (Cu (aA B ps) f)):=by
 by_cases hf:f=1\/f=2
 ·have HT:=au J
  by_cases ht:(aA B ps).getD 1 0=f
  ·have HF:Hid (cO w b z B ps 2 (Cu (aA B ps) f) (.returned (.int .i64 0)) w):=cO.none h (az.refl _ _) (.inr ⟨rfl,hf,.inl ⟨ht,rfl⟩⟩)
   rw[ht] at HT;clear h G J ht;generalize Cu (aA B ps) f=R at *;rcases hf with rfl|rfl
   ·go_enter func47,ntmps47
    go_wp2_with fail;refine HT.out.mono ?_;rintro e w' ⟨rfl,rfl⟩;go_wp2_with fail;go_ret;exact HF.out
   ·go_enter func47,ntmps47
    go_wp2_with fail;refine HT.out.mono ?_;rintro e w' ⟨rfl,rfl⟩;go_wp2_with fail;go_ret;exact HF.out
  ·have ai:=au (oD h (by omega) 1 f)
   have lU:Hid (∀w',(∃gG,(gG=z\/(w.heap.size<=gG/\gG<w'.heap.size))/\eO w' b gG B (ps++[(1,f),(2,0)])/\az [b,z] w w')->cO w b z B ps 2 (Cu (aA B ps) f) (.returned (.int .i64 0)) w'):=λw' ⟨gG,h1,h2,h3⟩=>
    ⟨0,_,gG,rfl,h1,h2,h3,by simp,.inr ⟨rfl,hf,.inr ⟨ht,rfl⟩⟩⟩
   have yI:=au ae;have af:=G;have ak:=au af;clear h G J af ae;generalize Cu (aA B ps) f=R at *;generalize (aA B ps).getD 1 0=t at *;have hw:IntKind.u64.wrap f=f:=by rcases hf with rfl|rfl<;>rfl
   have hb:(t==f)=false:=by simpa using ht
   have mU:Hid (∀V U,(U=z\/(w.heap.size<=U/\U<V.heap.size))->eO V b U B (zj ps 1 f)->Calls prog 48 #[.pointer (some ⟨b,0,none⟩),.int .i64 2,.int .u64 0] V (jE V b U B (ps++[(1,f),(2,0)]))):=λV U hg hs=>by
    have e1:zj ps 1 f=ps++[(1,f)]:=rfl;have e2:zj (ps++[(1,f)]) 2 0=ps++[(1,f),(2,0)]:=by show(ps++[(1,f)])++[(2,0)]=_;rw[ba];rfl
    rw[e1] at hs;have :=oD hs (by rw[aD];have :=yI.out;simp;omega) 2 0;rwa[e2] at this
   rcases hf with rfl|rfl
   all_goals
    go_enter func47,ntmps47;go_wp2_with fail;refine HT.out.mono ?_;rintro e w' ⟨rfl,rfl⟩;go_wp2_with fail;refine ai.out.mono ?_;rintro e V ⟨rfl,U,W,ag,ah⟩;have Ad:=au (mU.out V U W ag);have iU:=au ah;have ac:=au W;clear W ag ah mU ai;go_wp2_with fail;refine Ad.out.mono ?_;rintro e w2 ⟨rfl,pq,ar,aj,aa⟩;have HF:Hid (cO w b z B ps 2 R (.returned (.int .i64 0)) w2):=lU.out w2 ⟨pq,by
     have h1:=ac.out;have h2:=iU.out.size;have h3:=aa.size;have h4:=ak.out;omega,aj,by
     refine iU.out.trans aa (λx hx=> ?_);have h1:=ac.out;simp only[aP,aM,bz] at hx ⊢;omega⟩
    clear ar aj aa Ad lU;go_wp2_with fail;go_ret;exact HF.out
 ·have HF:Hid (cO w b z B ps 2 (Cu (aA B ps) f) (.returned (.int .i64 1)) w):=cO.none h (az.refl _ _) (.inl ⟨rfl,hf,rfl⟩)
  have b1:(f==1)=false:=by simp;omega
  have b2:(f==2)=false:=by simp;omega
  have b3:(f != 1)=true:=by simp;omega
  have b4:(f != 2)=true:=by simp;omega
  clear h G J hf;generalize Cu (aA B ps) f=R at *;go_enter func47,ntmps47;go_wp2_with fail;go_ret;exact HF.out
theorem adM (h:se w b G B ps T own)(z:ps.length<=700000)(f:Int):
  Calls prog 47 #[.pointer (some ⟨b,0,none⟩),.int .i64 f] w (cO w b G B ps 2 (Cu (aA B ps) f)):=X9 h.st.sh h.st.lt z f (yf h)
theorem Nh (h:eO w b J B ps)(G:(aA B ps).getD 1 0=0):
  Calls prog 93 #[.pointer (some ⟨b,0,none⟩)] w λe w'=>e= .returned (.int .i64 ((aA B ps).getD 1 0))/\w=w':=by
 have z:=oC h 1;rw[show(1:Int)=((1:Nat):Int) from rfl,Ng 1 (by omega),G] at z;have z:=au z;rw[G];clear h G;go_enter func93,ntmps93;go_wp2_with fail;refine z.out.mono ?_;rintro e w' ⟨rfl,rfl⟩;go_wp2_with fail;go_ret;exact⟨rfl,rfl⟩
def RG (w:World) (b:Nat) (t:Int) (e:Ending) (w':World):Prop:=
 ∃h z,e= .returned (.func (.func 188) #[] #[.pointer (some ⟨h,0,none⟩),.pointer (some ⟨z,0,none⟩)])/\w.heap.size<=h/\w.heap.size<=z/\bh w' h #[.pointer (some ⟨b,0,none⟩)] 50/\bh w' z #[.int .i64 t] 3/\az [] w w'
theorem Ni{V:Nat}(h:se w b V B ps T own):
  Calls prog 160 #[.pointer (some ⟨b,0,none⟩)] w (RG w b ((aA B ps).getD 1 0)):=by
 have G:az [] w (w.alloc (.cells #[.pointer (some ⟨b,0,none⟩)] 50)):=(az.refl _ _).alloc _;have z:=bh.new w #[.pointer (some ⟨b,0,none⟩)] 50;have c0:(w.alloc (.cells #[.pointer (some ⟨b,0,none⟩)] 50)).cell? ⟨w.heap.size,0,none⟩=some (.pointer (some ⟨b,0,none⟩)):=by rw[z.cell];rfl
 have U:=au (yf (h.keep0 G));have W:Hid (∀t,RG w b t (.returned (.func (.func 188) #[] #[.pointer (some ⟨w.heap.size,0,none⟩),.pointer (some ⟨w.heap.size+1,0,none⟩)])) ((w.alloc (.cells #[.pointer (some ⟨b,0,none⟩)] 50)).alloc (.cells #[.int .i64 t] 3))):=λt=>by
  have hs:=br w (.cells #[.pointer (some ⟨b,0,none⟩)] 50);have J:=bh.new (w.alloc (.cells #[.pointer (some ⟨b,0,none⟩)] 50)) #[.int .i64 t] 3;rw[hs] at J;refine⟨w.heap.size,w.heap.size+1,rfl,aI _,by omega,?_,J,?_⟩
  ·exact z.keep ((az.refl [] _).alloc _) (by simp)
  ·exact G.alloc _
 clear h z G;generalize (aA B ps).getD 1 0=t at *;go_enter func160,ntmps160;go_wp2_with fail;refine U.out.mono ?_;rintro e w' ⟨rfl,rfl⟩;go_wp2_with fail;go_ret;exact W.out t
theorem Kz (h:gN w b gp B ps T own){bs bt:Nat}{t:Int}(hs:bh w bs #[.pointer (some ⟨b,0,none⟩)] 50)(ht:bh w bt #[.int .i64 t] 3){i:Nat}(hi:i<32):
  Calls prog 188 #[.int .i64 (i:Int),.pointer (some ⟨bs,0,none⟩),.pointer (some ⟨bt,0,none⟩)] w (dh w (¬dP (aA B ps) (i:Int)/\(nT T i).F≠t)):=by
 have hG:=h.get hi;unfold x9 at hG;have HG:=au hG;have c0:w.cell? ⟨bs,0,none⟩=some (.pointer (some ⟨b,0,none⟩)):=by rw[hs.cell];rfl
 have af:Hid (∀w',az [] w w'->w'.cell? ⟨bt,0,none⟩=some (.int .i64 t)):=λw' hk=>by rw[(ht.keep hk (by simp)).cell];rfl
 have HP:Hid (∀(r:Bool) w',(r=true↔¬dP (aA B ps) (i:Int)/\(nT T i).F≠t)->az [] w w'->dh w (¬dP (aA B ps) (i:Int)/\(nT T i).F≠t) (.returned (.bool r)) w'):=λr w' G V=>⟨r,rfl,G,V⟩
 have U:Hid ((nT T i).F≠0->¬dP (aA B ps) (i:Int)):=λG V=>by
  rcases h.gots.form i with ⟨-,-,h3⟩|⟨h3,-⟩
  ·exact h3.notFree V
  ·exact G h3
 have ub:=eA;clear h hs ht hG;generalize dP (aA B ps) (i:Int)=fP at *;generalize nT T i=n at *;generalize ae:aR cr (.slice none 0 0)=Z0 at *;have DN:Hid (Z0.size=18):=by show _=_;rw[<-ae];rfl
 clear ae;go_enter func188,ntmps188;go_wp2_with fail;refine HG.out.mono ?_;rintro e w1 ⟨v,g,va,ga,r,rfl,hB,hE,hg,-,-,aa,hr⟩;obtain⟨J,p1,p2,p3⟩:=dc (n:=n) (v:=v) (bh.new w1 Z0 111) DN.out hB hE.one;have ac:az [] w J:=(aa.alloc _).trans p3 (by intro x hx;rw[ay] at hx;have :=aa.size;omega);have ov:=au p1;have c1:J.cell? ⟨w1.heap.size,0,none⟩=some (.int .i64 n.F):=by rw[p2.cell];exact(iX v hB).f0
 have c2:=af.out J ac;have fL:=au ac;clear p1 p2 p3 ac hE hg aa HG af hB;generalize aR n v=ZN at *;by_cases V:r=2
 ·subst V
  have HF:Hid (dh w (¬fP/\n.F≠t) (.returned (.bool false)) J):=HP.out false J ⟨(λh=>by cases h),λh=>by
   rcases hr with ⟨G,-⟩|⟨-,-,G⟩|⟨G,-⟩
   ·omega
   ·exact absurd G h.1
   ·omega⟩ fL.out
  clear hr HP U;generalize n.F=f at *;go_wp2_with(first|(with_reducible refine gS 111 ov.out ?_));go_ret;exact HF.out
 ·have W:¬fP:=by
   rcases hr with ⟨-,G⟩|⟨G,-⟩|⟨-,-,G⟩
   ·exact U.out G
   ·exact absurd G V
   ·exact G
  have b2:(r != 2)=true:=by simpa using V
  clear hr V;by_cases z:n.F=t
  ·have HF:Hid (dh w (¬fP/\n.F≠t) (.returned (.bool false)) J):=HP.out false J ⟨(λh=>by cases h),λh=>absurd z h.2⟩ fL.out
   have bf:(n.F != t)=false:=by simpa using z
   clear HP U z W;generalize n.F=f at *;go_wp2_with(first|(with_reducible refine gS 111 ov.out ?_));go_ret;exact HF.out
  ·have HF:Hid (dh w (¬fP/\n.F≠t) (.returned (.bool true)) J):=HP.out true J ⟨λ_=>⟨W,z⟩,λ_=>rfl⟩ fL.out
   have bf:(n.F != t)=true:=by simpa using z
   clear HP U z W;generalize n.F=f at *;go_wp2_with(first|(with_reducible refine gS 111 ov.out ?_));go_ret;exact HF.out
theorem abw (h:se w b gp B ps T own)(hT:∀z,az [b,gp] w z->kg z)(ah:ps.length<=700000){i:Nat}(hi:i<32)(hF:(nT T i).F≠0):
  Calls prog 161 #[.pointer (some ⟨b,0,none⟩),.int .i64 (i:Int)] w (cO w b gp B ps 700 (nH (aA B ps) (i:Int) { nT T i with F:=(aA B ps).getD 1 0 })):=by
 have hG:=h.st.get hi;unfold x9 at hG;have HG:=au hG;have Tp:=au (λz (V:az [] w z)=>yf (h.keep0 V));have RH:Hid (∀z v g,az [] w z->bC z v g (nT T i).E->w.heap.size<=g->Calls prog 49 #[.pointer (some ⟨b,0,none⟩),.int .i64 (i:Int),.agg (aR { nT T i with F:=(aA B ps).getD 1 0 } v)] z (lV z b gp B ps (i:Int) { nT T i with F:=(aA B ps).getD 1 0 })):=λz v g V hE hg=>by
  have ag:eG (aA B ps) (i:Int) (nT T i) (own i):=by
   rcases h.st.gots.form i with ⟨-,-,h1⟩|⟨h1,-⟩
   ·exact h1
   ·exact absurd h1 hF
  have aj:=h.st.lt;exact um (h.st.sh.keep V (by simp) (by simp)) h.st.w64 (λwy hy=>hT wy ((V.mono (by simp)).trans' hy)) (by have :=V.size;omega) ah (i:Int) { nT T i with F:=(aA B ps).getD 1 0 } v g ag.len hE (show ∀k,k<(nT T i).E.length->(eU (nT T i).E k).size<=9223372036854775807 from Dh ag.right) (λ_=>by omega)
 have lU:Hid (∀z,az [] w z->∀e w',lV z b gp B ps (i:Int) { nT T i with F:=(aA B ps).getD 1 0 } e w'->∃r,e= .returned (.int .i64 r)/\cO w b gp B ps 700 (nH (aA B ps) (i:Int) { nT T i with F:=(aA B ps).getD 1 0 }) e w'):=λz V e w' ⟨r,qs,gG,h1,h2,h3,h4,h5,h6⟩=>
  ⟨r,h1,r,qs,gG,h1,by have :=V.size;omega,h3,(V.mono (by simp)).trans' h4,h5,h6⟩
 have O9:=au hF;have ub:=eA;clear h hF hT ah hG;generalize lV=PI at *;generalize nH (aA B ps) (i:Int) { nT T i with F:=(aA B ps).getD 1 0 }=R at *;generalize (aA B ps).getD 1 0=t at *;generalize nT T i=n at *;generalize ae:aR cr (.slice none 0 0)=Z0 at *;have DN:Hid (Z0.size=18):=by show _=_;rw[<-ae];rfl
 clear ae;go_enter func161,ntmps161;go_wp2_with fail;refine HG.out.mono ?_;rintro e G ⟨v,g,va,ga,r,rfl,hB,hE,hg,-,-,J,hr⟩;have Ki:r=0:=by
  have :=O9.out;omega
 subst Ki;clear hr;obtain⟨U,p1,p2,p3⟩:=dc (n:=n) (v:=v) (bh.new G Z0 111) DN.out hB hE.one;have ac:az [] w U:=(J.alloc _).trans p3 (by intro x W;rw[ay] at W;have :=J.size;omega);have ov:=au p1;have K0:bC U v g n.E:=hE.keep ((((az.refl [] G).alloc _).mono (by simp)).trans' p3) (λh0=>hE.apart (l:=[G.heap.size]) (λx W=>by rw[ay] at W;omega) h0);have ai:=abk p2 t;have aa:az [G.heap.size] U (U.setCell ⟨G.heap.size,0,none⟩ (.int .i64 t)):=(az.refl _ _).setCell (.inl (by simp)) _;have mH:az [] w (U.setCell ⟨G.heap.size,0,none⟩ (.int .i64 t)):=ac.trans aa (by intro x W;rw[ay] at W;have :=J.size;omega);have zC:=au (ct ai (by exact hB));have PS:n.E.length≠0->g∉[G.heap.size]:=λh0=>hE.apart (l:=[G.heap.size]) (λx W=>by rw[ay] at W;omega) h0
 have A0:=au (RH.out _ v g mH (K0.keep aa PS) hg);have Kn:=au (lU.out _ mH);have Bq:=au (Tp.out U ac);have o7:Hid (∃c,U.heap[G.heap.size]? =c):=⟨_,rfl⟩;have ak:U.cell? ⟨G.heap.size,0,none⟩=some (.int .i64 n.F):=by rw[p2.cell];exact(iX v hB).f0
 have mU:=au p2;clear p1 p3 ac K0 hE hg J HG RH lU Tp ai aa mH PS p2;generalize aR n v=ZN at *;generalize aR { n with F:=t } v=ZT at *;go_wp2_with(first|(with_reducible refine gS 111 ov.out ?_));refine Bq.out.mono ?_;rintro e w' ⟨rfl,rfl⟩;have o9:=mU.out.frozen;go_wp2_with(first|(with_reducible refine gL 111 zC.out ?_));refine A0.out.mono ?_;intro e w4 af;obtain⟨r,rfl,hf⟩:=Kn.out e w4 af;have HF:=au hf;clear hf af A0 Kn;go_wp2_with fail;go_ret;exact HF.out
def qx (X:List Int) (T:List (bP×Value)) (r:Int) (qs:List (Int×Int)):Prop:=
 (X.getD 2 0=32/\r=0/\qs=[])\/∃c:Nat,X.getD 2 0=(c:Int)/\c<32/\
  ((¬(¬dP X (c:Int)/\(nT T c).F≠X.getD 1 0)/\r=0/\qs=[(2,(c:Int)+1)])\/
  ((¬dP X (c:Int)/\(nT T c).F≠X.getD 1 0)/\∃z h,nH X (c:Int) { nT T c with F:=X.getD 1 0 } z h/\((z≠0/\r=z/\qs=h)\/(z=0/\r=0/\qs=h++[(2,(c:Int)+1)]))))
theorem abx (h:se w b J B ps T own)(hA:vK (aA B ps) T)(hT:∀wx,az [b,J] w wx->kg wx)(aN:ps.length<=600000):
  Calls prog 120 #[.pointer (some ⟨b,0,none⟩)] w (cO w b J B ps 701 (qx (aA B ps) T)):=by
 have HD:=au (RF h);have ar:=au (Ct h 2 (by omega));have aO:=h.sup.2.2.1;have aI:0<=(aA B ps).getD 2 0:=(h.st.w64 2).1;by_cases hc:(aA B ps).getD 2 0=32
 ·have HF:Hid (cO w b J B ps 701 (qx (aA B ps) T) (.returned (.int .i64 0)) w):=cO.none h.st.sh (az.refl _ _) (.inl ⟨hc,rfl,rfl⟩)
  rw[bq hc] at HD;clear h hA hT aN ar aO aI hc;generalize qx (aA B ps) T=R at *;go_enter func120,ntmps120;go_wp2_with fail;refine HD.out.mono ?_;rintro e w' ⟨rfl,rfl⟩;go_wp2_with fail;go_ret;exact HF.out
 ·rw[aS hc] at HD
  obtain⟨c,ae⟩:∃c:Nat,(aA B ps).getD 2 0=(c:Int):=⟨((aA B ps).getD 2 0).toNat,by omega⟩;have Gm:c<32:=by omega
  have HU:=au (Ni h);have aJ:Hid (∀z bs bt,az [] w z->bh z bs #[.pointer (some ⟨b,0,none⟩)] 50->bh z bt #[.int .i64 ((aA B ps).getD 1 0)] 3->Calls prog 188 #[.int .i64 (c:Int),.pointer (some ⟨bs,0,none⟩),.pointer (some ⟨bt,0,none⟩)] z (dh z (¬dP (aA B ps) (c:Int)/\(nT T c).F≠(aA B ps).getD 1 0))):=λz bs bt hk h1 h2=>
   Kz (h.st.keep0 hk) h1 h2 Gm
  have ax:Hid ((¬dP (aA B ps) (c:Int)/\(nT T c).F≠(aA B ps).getD 1 0)->∀wx,az [] w wx->Calls prog 161 #[.pointer (some ⟨b,0,none⟩),.int .i64 (c:Int)] wx (cO wx b J B ps 700 (nH (aA B ps) (c:Int) { nT T c with F:=(aA B ps).getD 1 0 }))):=λV wx hk=>
   abw (h.keep0 hk) (λwy hy=>hT wy ((hk.mono (by simp)).trans' hy)) (by omega) Gm (by
    rcases hA c Gm with h1|h1
    ·exact absurd h1 V.1
    ·exact h1)
  have Cl:Hid (∀z kX qs,qs.length<=700->eO z b kX B (ps++qs)->Calls prog 48 #[.pointer (some ⟨b,0,none⟩),.int .i64 2,.int .u64 ((c:Int)+1)] z (jE z b kX B (ps++(qs++[(2,(c:Int)+1)])))):=λz kX qs hq hs=>by
   have :=oD hs (by rw[aD];omega) 2 ((c:Int)+1);rwa[show zj (ps++qs) 2 ((c:Int)+1)=ps++(qs++[(2,(c:Int)+1)]) by show(ps++qs)++[(2,(c:Int)+1)]=_;rw[ba]] at this
  have wC:Hid (∀wx,az [] w wx->eO wx b J B (ps++[])):=λwx hk=>by rw[bu];exact h.st.sh.keep hk (by simp) (by simp)
  have aB:Hid (¬(¬dP (aA B ps) (c:Int)/\(nT T c).F≠(aA B ps).getD 1 0)->qx (aA B ps) T 0 ([]++[(2,(c:Int)+1)])):=λV=> .inr ⟨c,ae,Gm,.inl ⟨V,rfl,rfl⟩⟩
  have ai:Hid ((¬dP (aA B ps) (c:Int)/\(nT T c).F≠(aA B ps).getD 1 0)->∀r qs,nH (aA B ps) (c:Int) { nT T c with F:=(aA B ps).getD 1 0 } r qs->r≠0->qx (aA B ps) T r qs):=λV r qs h1 h2=> .inr ⟨c,ae,Gm,.inr ⟨V,r,qs,h1,.inl ⟨h2,rfl,rfl⟩⟩⟩
  have av:Hid ((¬dP (aA B ps) (c:Int)/\(nT T c).F≠(aA B ps).getD 1 0)->∀qs,nH (aA B ps) (c:Int) { nT T c with F:=(aA B ps).getD 1 0 } 0 qs->qx (aA B ps) T 0 (qs++[(2,(c:Int)+1)])):=λV qs h1=> .inr ⟨c,ae,Gm,.inr ⟨V,0,qs,h1,.inr ⟨rfl,rfl,rfl⟩⟩⟩
  have aG:=h.st.lt;have EI:=au aG;have lU:Hid (∀G U W qs,az [b,J] w G->(W=J\/(w.heap.size<=W/\W<G.heap.size))->qs.length<=700->qx (aA B ps) T 0 (qs++[(2,(c:Int)+1)])->(∃VG,(VG=W\/(G.heap.size<=VG/\VG<U.heap.size))/\eO U b VG B (ps++(qs++[(2,(c:Int)+1)]))/\az [b,W] G U)->cO w b J B ps 701 (qx (aA B ps) T) (.returned (.int .i64 0)) U):=λG U W qs hk hg hq hr ⟨VG,h1,h2,h3⟩=>by
   have h4:=hk.size;have h5:=h3.size;refine⟨0,_,VG,rfl,by omega,h2,hk.trans h3 (λx hx=> ?_),by rw[aD];simp;omega,hr⟩;simp only[aP,aM,bz] at hx ⊢;omega
  have Rf:Hid (∀z G r,az [] w z->(∃qs W,(W=J\/(z.heap.size<=W/\W<G.heap.size))/\eO G b W B (ps++qs)/\az [b,J] z G/\qs.length<=700/\qx (aA B ps) T r qs)->cO w b J B ps 701 (qx (aA B ps) T) (.returned (.int .i64 r)) G):=λz G r hk ⟨qs,W,h1,h2,h3,h4,h5⟩=>by
   have h6:=hk.size;exact⟨r,qs,W,rfl,by omega,h2,(hk.mono (by simp)).trans' h3,by omega,h5⟩
  have aR:IntKind.i64.wrap (c:Int)=(c:Int):=by rw[cy];omega
  rw[ae] at ar;have ac:Hid (IntKind.i64.wrap ((c:Int)+1)=(c:Int)+1/\IntKind.u64.wrap ((c:Int)+1)=(c:Int)+1):=⟨by rw[cy];omega,by rw[gi];omega⟩;clear h hA hT aN aO aI hc ae aG Gm;generalize qx (aA B ps) T=R at *;generalize nH (aA B ps) (c:Int) { nT T c with F:=(aA B ps).getD 1 0 }=RP at *;generalize (¬dP (aA B ps) (c:Int)/\(nT T c).F≠(aA B ps).getD 1 0)=pP at *;generalize (aA B ps).getD 1 0=t at *;generalize N5:(c:Int)=ci at *;clear N5;go_enter func120,ntmps120;go_wp2_with fail;refine HD.out.mono ?_;rintro e w' ⟨rfl,rfl⟩;go_wp2_with fail;refine ar.out.mono ?_;rintro e w' ⟨rfl,rfl⟩;go_wp2_with fail;refine HU.out.mono ?_;rintro e z ⟨bs,bt,rfl,-,-,aK,aF,aj⟩;have aL:=au (aJ.out z bs bt aj aK aF);have iU:=au aj;clear aj aK aF HU aJ;go_wp2_with fail;refine aL.out.mono ?_;rintro e G ⟨r,rfl,hr,aC⟩;have fL:=au (iU.out.trans' aC);clear aC aL iU;cases r with
  |false=>
   have HN:=au (aB.out λV=>by have :=hr.2 V;cases this);have HP:=au (Cl.out G J [] (by simp) (wC.out G fL.out));have aa:=au (λU=>lU.out G U J [] (fL.out.mono (by simp)) (.inl rfl) (by simp) HN.out);have ak:=ac.out;obtain⟨ak,aQ⟩:=ak;clear hr aB ai av ax Cl lU Rf wC HN ac;go_wp2_with fail;refine HP.out.mono ?_;rintro e U ⟨rfl,hx⟩;have HF:=au (aa.out U hx);clear hx HP aa;go_wp2_with fail;go_ret;exact HF.out
  |true=>
   have V:pP:=hr.1 rfl;have Bq:=au (ax.out V G fL.out);have HE:=au (ai.out V);have A0:=au (av.out V);clear hr aB ai av ax wC V;go_wp2_with fail;refine Bq.out.mono ?_;rintro e U ⟨r,qs,VG,rfl,ay,ag,af,Rc,ah⟩;by_cases h0:r=0
   ·subst h0
    have HP:=au (Cl.out U VG qs Rc ag);have hz:=fL.out.size;have aH:az [b,J] w U:=(fL.out.mono (by simp)).trans' af;have aa:=au (λw4=>lU.out U w4 VG qs aH (by omega) Rc (A0.out qs ah));obtain⟨ak,aQ⟩:=ac.out;clear ay ag af Rc ah hz aH HE A0 Bq Cl lU Rf ac;go_wp2_with fail;refine HP.out.mono ?_;rintro e w4 ⟨rfl,hx⟩;have HF:=au (aa.out w4 hx);clear hx HP aa;go_wp2_with fail;go_ret;exact HF.out
   ·have HF:Hid (cO w b J B ps 701 R (.returned (.int .i64 r)) U):=Rf.out G U r fL.out ⟨qs,VG,ay,ag,af,Rc,HE.out r qs ah h0⟩
    have b0:(r==0)=false:=by simpa using h0
    clear ay ag af Rc ah HE A0 Bq Cl lU Rf ac h0;go_wp2_with fail;go_ret;exact HF.out
theorem lY.putOver(h:lY X T own ex M){i:Nat}(hi:(M i).K≠0){n:bP}(hB:n.B.length=13)(W:bZ n){r:Int}{qs:List (Int×Int)}(hp:nH X (i:Int) n r qs){ex':List Nat}
  (V:∀b,b<256->(dn n).count b+ex'.count b=(dn (nT T i)).count b+ex.count b) (hx:∀c∈ex',c≠0/\c<256) (ht:jR X n) (hM:eo (ng M i (sS X n))):
  (r=7/\qs=[]/\(aZ X).length+(own i).length<dz n)\/(r=0/\∃cM,lY (aA X qs) (mQ T i n) cM ex' (ng M i (sS X n))/\pg X (aA X qs) (own i)/\(aZ (aA X qs)).length+dz n=(aZ X).length+(own i).length/\(∀k,k<816->(aA X qs).getD k 0=X.getD k 0)/\
   (∀p∈qs,(816<=p.1.toNat/\p.1.toNat<820)\/(824+8*i<=p.1.toNat/\p.1.toNat<824+8*i+8)\/(1080<=p.1.toNat/\(p.1.toNat-1080)/8∈cM i))/\(cM i).length=dz n):=by
 have z:=h.tree.rng hi;have U:eG X (i:Int) (nT T i) (own i):=by
  rcases h.st.each z with ⟨-,J⟩|⟨J,-,-⟩
  ·exact J
  ·exact absurd ((h.free z).1 J) hi
 have aa:(own i).Nodup:=U.nodup;have af:(aZ (aA X (cJ X (own i)))).length=(aZ X).length+(own i).length:=
  uj U.mem aa (λc V=>h.st.used z (bR _ V)) λc V ac=>(jF (own i) X h.st.w64 h.st.len).2.1 c V ac
 rcases hp.over U with ⟨-,J,-⟩|⟨J,-,h2,h3⟩|⟨J,-,h2,h3⟩
 ·exact absurd W J
 ·exact .inl ⟨J,h3,by omega⟩
 ·right
  rw[aH] at h3;subst h3;obtain⟨p1,p2,p3,p4⟩:=h.st.put z hB W h2 V hx ht;refine⟨J,_,⟨p1,λj=> ?_,hM⟩,p2,p3,p4,λp hp=> ?_,?_⟩
  ·have hn:sS (aA X (lH X i n (own i))) n=sS X n:=by
    have ae:∀c∈dn n,c≠0/\c<256/\dC X c=true/\c∉own i:=λc G=>by
     have h4:=pJ hB W c G;have h5:=V c h4.2;have h6:0<(dn n).count c:=List.count_pos_iff.2 G;rcases eT (ex.count c) with h7|h7
     ·have h8:c∈dn (nT T i):=List.count_pos_iff.1 (by omega)
      exact⟨h4.1,h4.2,h.st.used z (bV _ h8),λh9=>h.st.inner z h9 h8⟩
     ·have h8:c∈ex:=List.count_pos_iff.1 h7
      exact⟨h4.1,h4.2,h.st.usedEx h8,λh9=>h.st.apartEx z (bR _ h9) h8⟩
    exact Bc hB (λhK=>(rZ W hK).2) λc G k hk=>by
     have :=ae c G;exact p2 c this.2.1 this.1 this.2.2.1 this.2.2.2 k hk
   have :=h.st.nodesUp h.abs p2 z (λj _=>h.st.filesOwn z j) n j;rw[hn] at this;exact this
  ·have :=yb z W (own:=own i) rfl h2 hp
   rw[Hm,aC rfl];exact this
  ·rw[Hm,aC rfl]
   exact sJ h2
theorem Ya (X:List Int)(n:bP)(f:Int):sS X { n with F:=f }=sS X n:=rfl
theorem Yb{i:Nat}{n:Nd}(h:n=M i):ng M i n=M:=by
 funext j
 unfold ng;split
 ·next e=>rw[e,h]
 ·rfl
theorem lY.heads{G:List Nat}(h:lY X T own G M){qs:List (Int×Int)}(V:∀p∈qs,p.1=1\/p.1=2)(z:In64 (aA X qs))(W:kD (aA X qs)):
  lY (aA X qs) T own G M/\aZ (aA X qs)=aZ X:=by
 obtain⟨J,U,h3⟩:=h.st.heads V z W;exact⟨⟨J,λj=>by rw[h.abs,h.st.nodes U (by simp)],h.tree⟩,h3⟩
theorem Nj (h:kD X)(U:X.length=3128){f:Int}(J:f=1\/f=2):kD (aA X [(1,f),(2,0)]):=by
 have e:aA X [(1,f),(2,0)]=(X.set 1 f).set 2 0:=rfl;rw[e];have g:∀k,((X.set 1 f).set 2 0).getD k 0=if 2=k then 0 else if 1=k then f else X.getD k 0:=λk=>by
  rw[jk _ _ _ _ (by rw[cT];omega),jk _ _ _ _ (by omega)]
 refine⟨by rw[g];exact h.1,by rw[g];exact J,by rw[g,aC rfl];omega,λi z G=> ?_,λi z G=> ?_⟩
 ·rw[g,aB (by omega),aB (by omega)];exact h.2.2.2.1 i z G
 ·rw[g,aB (by omega),aB (by omega)];exact h.2.2.2.2 i z G
theorem Be (h:kD X)(U:X.length=3128){c:Int}(J:c<=32):kD (aA X [(2,c)]):=by
 have e:aA X [(2,c)]=X.set 2 c:=rfl;rw[e];have g:∀k,(X.set 2 c).getD k 0=if 2=k then c else X.getD k 0:=λk=>by rw[jk _ _ _ _ (by omega)]
 refine⟨by rw[g];exact h.1,by rw[g];exact h.2.1,by rw[g];exact J,λi z G=> ?_,λi z G=> ?_⟩
 ·rw[g,aB (by omega)];exact h.2.2.2.1 i z G
 ·rw[g,aB (by omega)];exact h.2.2.2.2 i z G
theorem aby{U:List Nat}(h:lY X T own U M){f r:Int}{qs:List (Int×Int)}(ha:Cu X f r qs):
  (r=1/\¬(f=1\/f=2)/\qs=[])\/(r=0/\(f=1\/f=2)/\lY (aA X qs) T own U M/\aZ (aA X qs)=aZ X/\∀k,3<=k->(aA X qs).getD k 0=X.getD k 0):=by
 rcases ha with G|⟨G,J,⟨-,rfl⟩|⟨-,rfl⟩⟩
 ·exact .inl G
 ·exact .inr ⟨G,J,h,rfl,λ_ _=>rfl⟩
 ·right
  have h3:In64 (aA X [(1,f),(2,0)]):=h.st.w64.put λp z=>by
   simp only[aP,aM,bz] at z;rcases z with rfl|rfl<;>dsimp only <;>omega
  obtain⟨W,V⟩:=h.heads (qs:=[(1,f),(2,0)]) (by simp) h3 (Nj h.st.sup h.st.len J);exact⟨G,J,W,V,λk hk=>ey _ _ _ λp z=>by
   simp only[aP,aM,bz] at z;rcases z with rfl|rfl
   ·show(1:Int).toNat≠k;rw[show(1:Int).toNat=1 from rfl];omega
   ·show(2:Int).toNat≠k;rw[show(2:Int).toNat=2 from rfl];omega⟩
theorem Yc (h:lY X T own ex M){r:Int}{qs:List (Int×Int)}(hs:qx X T r qs):
  (r=7/\qs=[]/\(aZ X).length<32)\/(r=0/\∃T' cM,lY (aA X qs) T' cM ex M/\(∀k,8<=k->k<816->(aA X qs).getD k 0=X.getD k 0)/\∃L:List Nat,L.length<=300/\∀k,k<3128->(aA X qs).getD k 0≠X.getD k 0->k∈L):=by
 rcases hs with ⟨-,V,rfl⟩|⟨c,hc,Gm,⟨-,V,rfl⟩|⟨⟨hf,hF⟩,r',J,z,hr⟩⟩
 ·exact .inr ⟨V,T,own,h,λ_ _ _=>rfl,[],by simp,λk _ U=>absurd rfl U⟩
 ·have h3:In64 (aA X [(2,(c:Int)+1)]):=h.st.w64.put λp z=>by rw[ay] at z;subst z;dsimp only;omega
  obtain⟨h4,h5⟩:=h.heads (qs:=[(2,(c:Int)+1)]) (by simp) h3 (Be h.st.sup h.st.len (by omega));have W:∀k,k≠2->(aA X [(2,(c:Int)+1)]).getD k 0=X.getD k 0:=λk U=>ey _ _ _ λp z=>by rw[ay] at z;subst z;show(2:Int).toNat≠k;rw[show(2:Int).toNat=2 from rfl];omega
  exact .inr ⟨V,T,own,h4,λk U _=>W k (by omega),[2],by simp,λk _ U=>by
   by_cases e:k=2
   ·rw[e];simp
   ·exact absurd (W k e) U⟩
 ·have ae:(M c).K≠0:=λe=>hf ((h.free Gm).2 e)
  have aa:eG X (c:Int) (nT T c) (own c):=by
   rcases h.st.each Gm with ⟨-,V⟩|⟨V,-,-⟩
   ·exact V
   ·exact absurd V hf
  have ht:=h.st.sup.2.1;have hR:bZ { nT T c with F:=X.getD 1 0 }:=⟨ht,aa.right.2⟩;have G:sS X { nT T c with F:=X.getD 1 0 }=M c:=by rw[Ya,h.abs]
  have hM:eo (ng M c (sS X { nT T c with F:=X.getD 1 0 })):=by rw[Yb G];exact h.tree
  rcases h.putOver ae (n:={ nT T c with F:=X.getD 1 0 }) aa.len hR z (ex':=ex) (λb _=>rfl) h.st.exr (h.st.tails c Gm) hM with ⟨q1,q2,q3⟩|⟨q1,cM,q2,q3,q4,q5,q6,q7⟩
  ·rcases hr with ⟨-,r2,r3⟩|⟨r1,-,-⟩
   ·have :=ui hR
    exact .inl ⟨by omega,by rw[r3,q2],by omega⟩
   ·omega
  ·rcases hr with ⟨r1,-,-⟩|⟨-,r2,r3⟩
   ·exact absurd q1 r1
   ·subst r3
    rw[Yb G] at q2;have h3:In64 (aA (aA X J) [(2,(c:Int)+1)]):=q2.st.w64.put λp z=>by rw[ay] at z;subst z;dsimp only;omega
    obtain⟨h4,h5⟩:=q2.heads (qs:=[(2,(c:Int)+1)]) (by simp) h3 (Be q2.st.sup q2.st.len (by omega));have W:∀k,k≠2->(aA (aA X J) [(2,(c:Int)+1)]).getD k 0=(aA X J).getD k 0:=λk U=>ey _ _ _ λp z=>by rw[ay] at z;subst z;show(2:Int).toNat≠k;rw[show(2:Int).toNat=2 from rfl];omega
    rw[bD];refine .inr ⟨r2,_,_,h4,λk U ah=>by rw[W k (by omega),q5 k ah],[2,816,817,818,819]++(List.range 8).map (824+8*c+·)++(cM c).flatMap (λb=>(List.range 8).map (1080+8*b+·)),?_,λk U ac=> ?_⟩
    ·have hl:=ui hR
     have ag:∀l:List Nat,(l.flatMap (λb=>(List.range 8).map (1080+8*b+·))).length=8*l.length:=by
      intro l;induction l with
      |nil=>rfl
      |cons b l ih=>rw[List.flatMap_cons,aD,ih];simp;omega
     rw[aD,aD,ag];simp;omega
    ·by_cases e2:k=2
     ·rw[e2];simp
     ·rw[W k e2] at ac
      have af:∃p∈J,p.1.toNat=k:=by
       by_cases hh:∃p∈J,p.1.toNat=k
       ·exact hh
       ·exact absurd (ey _ _ _ λp z e=>hh ⟨p,z,e⟩) ac
      obtain⟨p,z,e⟩:=af;simp only[aU,aP,aM,bz,bH,bX,List.mem_flatMap];rcases q6 p z with h6|h6|h6
      ·left;left;omega
      ·left;right;exact⟨k-(824+8*c),by omega,by omega⟩
      ·right;exact⟨(p.1.toNat-1080)/8,h6.2,(p.1.toNat-1080)%8,by omega,by omega⟩
end Go.Proofs.YtepbpdipenedhaaGreatDoor
