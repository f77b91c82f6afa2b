/- Lemmas. -/
import Derived.Test.YtimcfdnbpkiniaaGreatDoorM20
import Derived.Maps.OwnOps
import Derived.Maps.Views
set_option maxHeartbeats 4000000
set_option maxRecDepth 100000
namespace Go.Proofs.YtimcfdnbpkiniaaGreatDoor
open Go.Proofs.Tryz
section
open Go.RowKit
variable{w w':World}{v:Value}{G J b g gf gl gn gp k z:Nat}{ps qs:List (Int×Int)}{B X Y f xs:List Int}{D:DataW Unit}{d:Int}{ex ks l:List Nat}{R:Nat->World->Prop}{F:Int->World->Prop}{T V:List (bS×Value)}{own:Nat->List Nat}
theorem Rh (h:ni w v g ps)(W:okP ps)(hn:ps.length<=400):
  Calls prog 78 #[v] w (jG w (fx ps)):=by
 obtain⟨i0,hi,ag,ac,af⟩:=df Tryz.info_u64;obtain⟨H,qU⟩:=hh2 h W;obtain⟨a,cap,rfl,h1,h2⟩:=h.val;unfold maxLen at h2;have aa:=AR (2*ps.length) (by omega) (2*(ps.length:Int)) (by omega) 0 (.inl rfl) w;rw[Int.natCast_zero] at aa;have HO:Hid ((w.alloc (.cells (madeCells #[.int .u64 0] (2*ps.length)) 70)).ownsRow w.heap.size 70 1 (.slice w.heap.size 0 (2*ps.length)) 0 []):=
  World.ownsRow_made w _ _ (aI _) (by simp[maxLen];omega) (by simp[size_madeCells])
 clear h W;go_in;go_wp2_with fail;go_loopg [3,12] ps.length (λgh s3 s12 wx=>∃k:Nat,k+gh=ps.length/\s12= .int .i64 (k:Int)/\s3= .slice w.heap.size (2*k) (2*ps.length)/\
  Hid (wx.ownsRow w.heap.size 70 1 (.slice w.heap.size (2*k) (2*ps.length)) (2*k) (aX (fx (ps.take k)))/\ay [] w wx))
 case atStart=>exact⟨0,by omega,rfl,rfl,HO.out,(ay.refl _ _).alloc _⟩
 case round=>
  obtain⟨k,hk,rfl,rfl,HR⟩:=hrel;cases gk with
  |zero=>
   obtain rfl:k=ps.length:=by omega
   have ae:¬(ps.length:Int)<(ps.length:Int):=by omega
   obtain⟨hr,U⟩:=HR.out;rw[aW (aI _)] at hr;obtain⟨g',ho,-⟩:=fw.of_row hr;have hb:g'=w.heap.size\/ps.length=0:=by
    by_cases e:ps.length=0
    ·exact .inr e
    ·left
     obtain⟨-,⟨_,hv,-,-⟩,-,-⟩:=ho.cell (by omega);cases hv;rfl
   have HM:Hid (jG w (fx ps) (.returned (.slice w.heap.size (2*ps.length) (2*ps.length))) wr):=by
    rcases hb with rfl|hb
    ·exact⟨_,_,rfl,ho.reads,aI _,U⟩
    ·exact⟨_,w.heap.size,rfl,(ho.anyG (by omega) _).reads,aI _,U⟩
   clear hr ho hb U HR;go_wp2;go_ret;exact HM.out
  |succ gg=>
   have ae:(k:Int)<(ps.length:Int):=by omega
   obtain⟨hg,off,rfl,c0,c1⟩:=(H.out.keep HR.out.2).get (j:=k) (by omega);have b1:=R9 qU.out (k:=k) (by omega);have HW:=ar (Cb ps k (by omega));generalize jo ps k=x,rA ps k=y at *;obtain⟨J,U⟩:=HR.out;obtain⟨V,jD⟩:=hh2 J U;clear J U HR;go_wp2_with(at_builtin;refine wpList_append_fits _ rfl _ _ 65 rfl w.heap.size 70 i0 1 underlying65 hi ac w.heap.size (2*k) (2*ps.length) _ rfl ((V.out.alloc _).alloc _) ⟨wr.heap.size+1,0,none⟩ 2 2 [.int .u64 (IntKind.u64.wrap x),.int .u64 y] rfl rfl ?c1 ?c2 (by omega) ?_);case c1=>exact lu _ [_,_] _ _ (by simp)
   case c2=>simp[Value.oneCell']
   intro w1 z G;have jv:Hid (ay [] w w1):=((jD.out.alloc _).alloc _).trans (ay.of_grown (l:=[w.heap.size]) G (by intro q hq;cases hq;simp));have MI:=ar z;clear z G;go_wp2;go_roundg gg;case measure=>omega
   case rel=>
    refine⟨k+1,by omega,by go_num,rfl,?_,jv.out⟩;have :=MI.out;rw[HW.out,ua];rw[fW] at this;exact this
theorem LD (ws:List Int)(k:Nat)(h:k<ws.length):(nD ws)[k]'(by rw[nV];exact h)=(9+(k:Int),ws.getD k 0):=by
 simp[nD,h]
theorem Zl{ws:List Int}(h:Reads w v g (aX ws))(hn:ws.length<=800):
  Calls prog 81 #[v] w (mH w (nD ws)):=by
 have H:=ar h;obtain⟨a,cap,rfl,h1,h2,-⟩:=il h;unfold maxLen at h2;have aa:=PQ ws.length (by omega) (ws.length:Int) rfl w;have G:=PR w ws.length (by omega);rw[show List.replicate ws.length ((0:Int),(0:Int))=eH (0,0) (nD ws) 0 by rw[l8,nV]] at G;have G:=ar G;generalize madeCells #[Value.int .i64 0,Value.int .u64 0] (ws.length*2)=mc at *;clear h;go_in;go_wp2_with fail;go_loopg [11] ws.length (λgh Qh wx=>∃k:Nat,k+gh=ws.length/\Qh= .int .i64 (k:Int)/\
  Hid (fw wx (.slice w.heap.size ws.length ws.length) w.heap.size 82 2 ws.length (je (eH (0,0) (nD ws) k))/\ay [] w wx))
 case atStart=>exact⟨0,by omega,rfl,G.out,(ay.refl _ _).alloc _⟩
 case round=>
  obtain⟨k,hk,rfl,z⟩:=hrel;cases gk with
  |zero=>
   obtain rfl:k=ws.length:=by omega
   have J:¬(ws.length:Int)<(ws.length:Int):=by omega
   have HM:Hid (mH w (nD ws) (.returned (.slice w.heap.size ws.length ws.length)) wr):=by
    obtain⟨W,gD⟩:=z.out;have e:eH (0,0) (nD ws) ws.length=nD ws:=by
     have :=nj ((0:Int),(0:Int)) (nD ws);rw[nV] at this;exact this
    rw[e] at W;exact mH.mk W (nV ws).symm (aI _) gD
   go_wp2;go_ret;exact HM.out
  |succ gg=>
   have J:(k:Int)<(ws.length:Int):=by omega
   obtain⟨_,_,hv,-,-,HC⟩:=il (H.out.keep z.out.2);cases hv;obtain⟨hg,off,rfl,c0⟩:=HC.out k (by omega);have hl:=mg ((0:Int),(0:Int)) (nD ws) k (by rw[nV];omega);rw[nV] at hl;obtain⟨-,-,U,V⟩:=z.out.1.cell (by omega);have d0:=(U (k*2) (by omega)).trans (p9 (eH (0,0) (nD ws) k) k (by omega)).1;have d1:=(U (k*2+1) (by omega)).trans (p9 (eH (0,0) (nD ws) k) k (by omega)).2;have f0:=V (k*2);have f1:=V (k*2+1);have HE:=ar (l9 ((0:Int),(0:Int)) (nD ws) k (by rw[nV];omega) _ (LD ws k (by omega)));generalize jo (eH (0,0) (nD ws) k) k=o1,rA (eH (0,0) (nD ws) k) k=o2 at *;obtain⟨HP,jD⟩:=hh2 (z.out.1.pair k (9+(k:Int)) (ws.getD k 0)) z.out.2;generalize ws.getD k 0=x at *;clear U V hl HC z;go_wp2;go_roundg gg;case measure=>omega
   case rel=>
    refine⟨k+1,by omega,by go_num,?_,(jD.out.setCell (.inr (aI _)) _).setCell (.inr (aI _)) _⟩;rw[<-HE.out];exact HP.out
def aeR (ws:List Int) (m:Nat):List (Int×Int):=(List.range m).map λk=>(ws.getD (2*k) 0,ws.getD (2*k+1) 0)
def qV (xs:List Int) (m:Nat):List Int:=(List.range m).map λk=>xs.getD (9+k) 0
theorem qW (xs:List Int)(m:Nat):(qV xs m).length=m:=by simp[qV]
theorem LF (xs:List Int)(m k:Nat)(h:k<m):(qV xs m)[k]'(by rw[qW];exact h)=xs.getD (9+k) 0:=by simp[qV]
theorem Ou (h:Fm xs)(m:Nat):Fm (qV xs m):=by
 intro x z;simp only[qV,bH] at z;obtain⟨k,-,rfl⟩:=z;exact Fq h _
theorem Hb (w:World)(n:Nat)(h:n<=100000):fw (w.alloc (.cells (madeCells #[.int .u64 0] n) 70)) (.slice w.heap.size n n) w.heap.size 70 1 n (aX (List.replicate n 0)):=by
 refine⟨by simp[aX],_,n,rfl,aI _,by unfold maxLen;omega,λ_=>⟨rfl,_,bc.new _ _ _,by simp[size_madeCells],?_⟩⟩;rw[toList_madeCells_one,Jk,aW (by simp[aX])]
def uw (w:World) (ws:List Int) (e:Ending) (w':World):Prop:=
 ∃v g,e= .returned (.tuple #[v,(0:Int)])/\Reads w' v g (aX ws)/\w.heap.size<=g/\ay [] w w'
def Ri (w:World) (b:Nat) (xs:List Int):Prop:=∀(k:Nat) (h:World),k<3128->ay [] w h->Calls prog 55 #[b,(k:Int)] h λe z=>e= .returned (.tuple #[.int .u64 (xs.getD k 0),(0:Int)])/\h=z
theorem Zo (V:Ri w b xs)(m:Nat)(hm:m<=800)(M:Int)(hM:M=(m:Int)):
  Calls prog 147 #[b,(9:Int),M] w (uw w (qV xs m)):=by
 subst hM;have Eu:=ar V;have aa:=AR m (by omega) (m:Int) rfl m (.inr rfl) w;have G:=Hb w m (by omega);rw[show List.replicate m (0:Int)=eH 0 (qV xs m) 0 by rw[l8,qW]] at G;have G:=ar G;generalize madeCells #[Value.int .u64 0] m=mc at *;clear V;go_in;go_wp2_with fail;go_loopg [16] m (λgh s16 wx=>∃k:Nat,k+gh=m/\s16= .int .i64 (k:Int)/\
  Hid (fw wx (.slice w.heap.size m m) w.heap.size 70 1 m (aX (eH 0 (qV xs m) k))/\ay [] w wx))
 case atStart=>exact⟨0,by omega,rfl,G.out,(ay.refl _ _).alloc _⟩
 case round=>
  obtain⟨k,hk,rfl,h⟩:=hrel;cases gk with
  |zero=>
   obtain rfl:k=m:=by omega
   have U:¬(k:Int)<(k:Int):=by omega
   have J:Hid (uw w (qV xs k) (.returned (.tuple #[.slice w.heap.size k k,(0:Int)])) wr):=by
    obtain⟨W,gD⟩:=h.out;have e:eH 0 (qV xs k) k=qV xs k:=by
     have :=nj (0:Int) (qV xs k);rw[qW] at this;exact this
    rw[e] at W;exact⟨_,_,rfl,W.reads,aI _,gD⟩
   go_wp2;go_ret2;exact J.out
  |succ gg=>
   have U:(k:Int)<(m:Int):=by omega
   have HL:=ar (Eu.out (9+k) wr (by omega) h.out.2);rw[show((9+k:Nat):Int)=9+(k:Int) by omega] at HL;have hl:=mg (0:Int) (qV xs m) k (by rw[qW];omega);rw[qW] at hl;obtain⟨-,-,hc,hf⟩:=h.out.1.cell (by omega);have d0:=(hc k (by omega)).trans (dM (l:=eH 0 (qV xs m) k) (by omega));have f0:=hf k;have HE:=ar (l9 (0:Int) (qV xs m) k (by rw[qW];omega) _ (LF xs m k (by omega)));generalize (eH 0 (qV xs m) k).getD k 0=o1 at *;have z:=h.out.1.set k (.int .u64 (xs.getD (9+k) 0));rw[mz] at z;obtain⟨z,jD⟩:=hh2 z h.out.2;generalize xs.getD (9+k) 0=x at *;clear hc hf hl h;go_wp2_with(go_at_call 55;refine C' HL.out ?_);go_roundg gg;case measure=>omega
   case rel=>
    refine⟨k+1,by omega,by go_num,?_,jD.out.setCell (.inr (aI _)) _⟩;rw[<-HE.out];exact z.out
end
section
open Go.RowKit Go.Maps
variable{w w':World}{v:Value}{G J b g gf gl gn gp k z:Nat}{ps qs:List (Int×Int)}{B X Y f xs:List Int}{D:DataW Unit}{d:Int}{ex ks l:List Nat}{R:Nat->World->Prop}{F:Int->World->Prop}{T V:List (bS×Value)}{own:Nat->List Nat}
theorem yY:Keyed prog 3 :=int_keyed underlying3
theorem Hc (w:World):(zeroValue 3).run prog w= .ok (.int .i64 0) w:=by kernel_rfl
structure zP (w:World) (B k:Nat) (f:List Int) (D:DataW Unit):Prop where
 own:w.ownsMap prog 3 (plainElem prog 3) B k D
 map:IsMap D
 get:∀q:Int,D.atKey (.int .i64 q) (.lit (.int .i64 0))= .lit (.int .i64 (if q∈f then 1 else 0))
theorem zP.keep{B:Nat}(h:zP w B k f D){l:List Nat}(W:ay l w w')(V:B∉l:=by simp):zP w' B k f D:=by
 refine⟨?_,h.map,h.get⟩;have G:=h.own.lt;obtain⟨es,z,J,h2,h3,U⟩:=h.own;exact⟨es,z,(W.block B G V).trans J,h2,h3,U⟩
theorem zP.skip{B:Nat}(h:zP w B k f D){q:Int}(z:q∈f):zP w B (k+1) (f++[q]) D:=by
 refine⟨h.own.mono (by omega),h.map,λx=> ?_⟩;rw[h.get];have :x∈f++[q]↔x∈f:=by simp;rintro rfl;exact z
 simp only[this]
theorem zP.put{B:Nat}(h:zP w B k f D){q:Int}(z:w'.ownsMap prog 3 (plainElem prog 3) B (k+1) (D.put (.int .i64 q) (.lit (.int .i64 1)))):
  zP w' B (k+1) (f++[q]) (D.put (.int .i64 q) (.lit (.int .i64 1))):=by
 refine⟨z,h.map.put _ _,λx=> ?_⟩;by_cases e:x=q
 ·subst e
  rw[atKey_put_same h.map (show WideAt.IsKeyLit (.int .i64 x) from trivial),aB (by simp)]
 ·rw[atKey_put_other (by intro h;cases h;exact e rfl),h.get]
  have :x∈f++[q]↔x∈f:=by simp[e]
  simp only[this]
theorem I5 (h:fM w b gn gl gf (ir xs ps qs d))(U:0<=d)(J:d<4611686018427387904)(i x:Int)(G:0<=i)(z:i<xs.length):
  Calls prog 106 #[b,i] w λe w'=>e=(0:Int)/\fM w' b gn gl gf (ir xs ps (qs++[(i,x)]) (d+1))/\ay [b,gn,gl,gf] w w':=by
 have :=Mq h (yt _ _ _ _ U J) i;rw[mD G z,I3 _ _ _ _ _ x G z] at this;exact this
theorem I6 (h:fM w b gn gl gf (ir xs ps [] d))(U:0<=d)(J:d<4611686018427387904)(i x:Int)(G:0<=i)(z:i<xs.length):
  Calls prog 105 #[b,i,.int .u64 x] w λe w'=>e=(0:Int)/\fM w' b gn gl gf (ir xs (ps++[(i,x)]) [] (d+1))/\ay [b,gn,gl,gf] w w':=by
 have :=Mo h (yt _ _ _ _ U J) i x;rw[mD G z,I0 _ _ _ _ _ G z] at this;exact this
theorem fM.old{s:kp}(h:fM w b gn gl gf s)(z:s.now.length≠0):b<w.heap.size/\gn<w.heap.size/\gl<w.heap.size/\gf<w.heap.size:=by
 obtain⟨U,J,G,a,c,d,e⟩:=h.at_;exact⟨a.lt,(c.cell z).1,(d.cell z).1,(e.cell (by omega)).1⟩
def Td (w:World) (ks:List Nat) (R:World->Prop) (F:Int->World->Prop) (e:Ending) (w':World):Prop:=
 ∃y,e=(y:Int)/\ay ks w w'/\((y=0/\R w')\/(y≠0/\F y w'))
theorem aeS (hr:ni w v g qs)(hq:Mn qs 100000)(hn:qs.length<=1000)(hg:qs.length≠0->g∉ks)(ai:∀y∈ks,y<w.heap.size)
  (hR:∀k wa wb l,(∀y∈l,w.heap.size<=y)->ay l wa wb->R k wa->R k wb) (h0:R 0 w)
  (Ov:∀k G,k<qs.length->R k G->jo qs k/8∈iC (qs.take k)->R (k+1) G)
  (ax:∀k G,k<qs.length->R k G->¬jo qs k/8∈iC (qs.take k)->Calls prog 106 #[b,(jo qs k:Int)] G (Td G ks (R (k+1)) F)):
  Calls prog 133 #[b,v] w (Td w ks (R qs.length) F):=by
 obtain⟨HR,HQ,HG,af,aj,Vk,aD⟩:=hh7 hr hq hg hR Ov ax (hR 0 w _ [] (by simp) ((ay.refl [] w).alloc (.map #[] 0)) h0);obtain⟨a,cap,rfl,h1,h2⟩:=hr.val;unfold maxLen at h2;have HB:Hid (w.heap.size∉ks):=λhm=>by have :=ai _ hm;omega
 have aG:= @run_makeMap prog;clear hr hq hg hR Ov ax h0 ai;go_in;go_wp2_with fail;go_loopg [13] qs.length (λgh s13 G=>∃k:Nat,k+gh=qs.length/\s13= .int .i64 (k:Int)/\
  Hid ((∃D,zP G w.heap.size k ((iC qs).take k) D)/\R k G/\ay ks w G))
 case atStart=>
  exact⟨0,by omega,rfl,⟨.map [],World.ownsMap_made _ _ _ _,isMap_empty,λq=>by simp[DataW.atKey]⟩,aD.out,(ay.refl _ _).alloc _⟩
 case round=>
  obtain⟨k,hk,rfl,HI⟩:=hrel;cases gk with
  |zero=>
   obtain rfl:k=qs.length:=by omega
   have aC:¬(qs.length:Int)<(qs.length:Int):=by omega
   have HE:Hid (Td w ks (R qs.length) F (.returned (0:Int)) wr):=⟨0,rfl,HI.out.2.2,.inl ⟨rfl,HI.out.2.1⟩⟩;go_wp2;go_ret;exact HE.out
  |succ gg=>
   have aC:(k:Int)<(qs.length:Int):=by omega
   obtain⟨⟨D,hD⟩,hp,gD⟩:=HI.out;have av:=HG.out (by omega);obtain⟨aH,off,rfl,c0,c1⟩:=(HR.out.keep gD (λ_=>av)).get (j:=k) (by omega);obtain⟨x0,x1⟩:=yI HQ.out (k:=k) (by omega);obtain⟨HS,aF⟩:=hh2 (KB qs k (by omega)) gD.size;have ui:Hid (∀G,ay [] wr G->R k G):=λG hk=>af.out k wr G [] (by simp) hk hp
   have ak:Hid (jo qs k/8∈(iC qs).take k->∀G,R k G->R (k+1) G):=λhm G h=>aj.out k G (by omega) h (by rw[<-o6];exact hm)
   have au:Hid (¬jo qs k/8∈(iC qs).take k->∀G,R k G->Calls prog 106 #[b,(jo qs k:Int)] G (Td G ks (R (k+1)) F)):=λhm G h=>Vk.out k G (by omega) h (by rw[<-o6];exact hm)
   generalize jo qs k=x,rA qs k=y at *;obtain⟨HD,jD⟩:=hh2 hD gD;have ae:keyOf prog 3 (.int .i64 (x/8))=some (.int .i64 (x/8)):=keyOf_int_mk underlying3 (WalkArith.wf_i64 (by omega));have U:=ar ae;clear hD hp gD av HI ae aj Vk;generalize (iC qs).take k=f at *;by_cases hm:x/8∈f
   ·have HM:=ar hm
    clear hm;go_wp2_with(at_lookup;refine wpList_lookup_own_int _ rfl _ _ 217 rfl 3 3 .i64 yY underlying217 underlying3 (Hc _) w.heap.size k _ rfl (HD.out.own.alloc _) _ _ rfl U.out ?_;intro c J V;(obtain rfl:c=1:=by(rw[HD.out.get,aB HM.out] at J;cases J;rfl));clear J V);go_roundg gg;case measure=>omega
    case rel=>
     refine⟨k+1,by omega,by go_num,⟨D,?_⟩,ak.out HM.out _ (ui.out _ ((ay.refl [] _).alloc _)),jD.out.alloc _⟩;rw[HS.out];exact(HD.out.skip HM.out).keep ((ay.refl [] _).alloc _)
   ·have HM:=ar hm
    clear hm;go_wp2_with(at_lookup;refine wpList_lookup_own_int _ rfl _ _ 217 rfl 3 3 .i64 yY underlying217 underlying3 (Hc _) w.heap.size k _ rfl (HD.out.own.alloc _) _ _ rfl U.out ?_;intro c J V;(obtain rfl:c=0:=by(rw[HD.out.get,aA HM.out] at J;cases J;rfl));clear J V);refine(au.out HM.out _ (ui.out _ ((ay.refl [] _).alloc _))).mono ?_;rintro e w2 ⟨z,rfl,W,⟨rfl,aa⟩|⟨hz,aa⟩⟩
    ·have mP:=ar aa
     obtain⟨ac,fC⟩:=hh2 ((HD.out.keep ((ay.refl [] _).alloc _)).keep W HB.out) ((jD.out.alloc _).trans' W);clear aa W;go_wp2_with(first|(at_lookup;refine wpList_lookup_own_int _ rfl _ _ 217 rfl 3 3 .i64 yY underlying217 underlying3 (Hc _) w.heap.size k _ rfl ac.out.own _ _ rfl U.out ?_;intro c J V;(obtain rfl:c=0:=by(rw[ac.out.get,aA HM.out] at J;cases J;rfl));clear J V)|(at_mapUpdate;refine wpList_mapUpdate_own _ rfl _ _ _ 217 rfl 3 3 yY underlying217 _ w.heap.size k _ rfl ac.out.own (by unfold maxLen;omega) _ _ _ rfl rfl U.out (.lit (.int .i64 1)) [] (plainElem_int underlying3 (by decide)) ?_;intro w3 ah Zp));have az:=ar (ac.out.put ah);have ag:ay [w.heap.size] w2 w3:=ay.of_grown Zp (by intro q hq;cases hq;simp);obtain⟨Cf,og⟩:=hh2 (af.out (k+1) w2 w3 [w.heap.size] (by simp) ag mP.out) (fC.out.trans ag);clear ah Zp ag;go_wp2;go_roundg gg;case measure=>omega
     case rel=>
      refine⟨k+1,by omega,by go_num,⟨D.put (.int .i64 (x/8)) (.lit (.int .i64 1)),?_⟩,Cf.out,og.out⟩;rw[HS.out];exact az.out
    ·have HE:Hid (Td w ks (R qs.length) F (.returned z) w2):=⟨z,rfl,(jD.out.alloc _).trans' W,.inr ⟨hz,aa⟩⟩
     have hb:(z != 0)=true:=by simpa using hz
     clear aa W au ak af;go_wp2;go_ret;exact HE.out
theorem acq{S:Nat->World->Prop}{T:World->Prop}(hr:ni w v g ps)(hq:Mn ps 100000)(hn:ps.length<=1000)(hg:ps.length≠0->g∉ks)(ae:∀y∈ks,y<w.heap.size)
  (hS:∀k wa U,ay [] wa U->S k wa->S k U) (h0:S 0 w)
  (ac:∀k h,k<ps.length->S k h->Calls prog 105 #[b,(jo ps k:Int),.int .u64 (rA ps k)] h (Td h ks (S (k+1)) F))
  (hR:∀k wa U l,(∀y∈l,w.heap.size<=y)->ay l wa U->R k wa->R k U) (h1:∀h,S ps.length h->R 0 h)
  (Ov:∀k h,k<ps.length->R k h->jo ps k/8∈iC (ps.take k)->R (k+1) h)
  (ag:∀k h,k<ps.length->R k h->¬jo ps k/8∈iC (ps.take k)->Calls prog 106 #[b,(jo ps k:Int)] h (Td h ks (R (k+1)) F))
  (af:∀h,R ps.length h->Calls prog 107 #[b] h (Td h ks T F)):
  Calls prog 80 #[b,v] w (Td w ks T F):=by
 obtain⟨HR,HQ,HG,T8,W,Np,aj⟩:=hh7 hr hq hg hS ac af h0;have V:Hid (∀h,ay ks w h->S ps.length h->Calls prog 133 #[b,v] h (Td h ks (R ps.length) F)):=λh hk hs=>
  aeS (hr.keep hk hg) hq hn hg (λy hy=>by have :=ae y hy;have :=hk.size;omega) (λk wa U l hl=>hR k wa U l λy hy=>by have :=hl y hy;have :=hk.size;omega) (h1 h hs) Ov ag
 obtain⟨a,cap,rfl,ak,h2⟩:=hr.val;unfold maxLen at h2;clear hr hq hg hS ac hR h1 Ov ag af h0 ae;go_in;go_wp2_with fail;go_loopg [11] ps.length (λgh Qh h=>∃k:Nat,k+gh=ps.length/\Qh= .int .i64 (k:Int)/\Hid (S k h/\ay ks w h))
 case atStart=>exact⟨0,by omega,rfl,aj.out,ay.refl _ _⟩
 case round=>
  obtain⟨k,hk,rfl,HI⟩:=hrel;cases gk with
  |zero=>
   obtain rfl:k=ps.length:=by omega
   have ai:¬(ps.length:Int)<(ps.length:Int):=by omega
   obtain⟨HF,HK⟩:=hh2 (V.out _ HI.out.2 HI.out.1) HI.out.2;clear HI V T8 W;go_wp2_with fail;refine HF.out.mono ?_;rintro e w2 ⟨z,rfl,J,⟨rfl,G⟩|⟨hz,G⟩⟩
   ·have Ow:=ar (Np.out _ G)
    have fC:=ar (HK.out.trans' J);clear G J HF Np;go_wp2_with fail;refine Ow.out.mono ?_;rintro e w3 ⟨z,rfl,ah,h3⟩;have HE:Hid (Td w ks T F (.returned z) w3):=⟨z,rfl,fC.out.trans' ah,h3⟩;clear ah h3 Ow;go_wp2;go_ret;exact HE.out
   ·have HE:Hid (Td w ks T F (.returned z) w2):=⟨z,rfl,HK.out.trans' J,.inr ⟨hz,G⟩⟩
    have hb:(z != 0)=true:=by simpa using hz
    clear G J HF Np;go_wp2;go_ret;exact HE.out
  |succ gg=>
   have ai:(k:Int)<(ps.length:Int):=by omega
   obtain⟨hp,gD⟩:=HI.out;obtain⟨au,off,rfl,c0,c1⟩:=(HR.out.keep gD HG.out).get (j:=k) (by omega);obtain⟨x0,x1⟩:=yI HQ.out (k:=k) (by omega);have aa:Hid (∀h,ay [] wr h->Calls prog 105 #[b,(jo ps k:Int),.int .u64 (rA ps k)] h (Td h ks (S (k+1)) F)):=λh hk=>W.out k h (by omega) (T8.out _ _ _ hk hp)
   generalize jo ps k=x,rA ps k=y at *;have jD:=ar gD;clear hp gD HI W V T8 Np;go_wp2_with fail;refine(aa.out _ ((ay.refl [] _).alloc _)).mono ?_;rintro e w2 ⟨z,rfl,J,⟨rfl,G⟩|⟨hz,G⟩⟩
   ·have mP:=ar G
    have fC:=ar ((jD.out.alloc _).trans' J);clear G J aa;go_wp2;go_roundg gg;case measure=>omega
    case rel=>exact⟨k+1,by omega,by go_num,mP.out,fC.out⟩
   ·have HE:Hid (Td w ks T F (.returned z) w2):=⟨z,rfl,(jD.out.alloc _).trans' J,.inr ⟨hz,G⟩⟩
    have hb:(z != 0)=true:=by simpa using hz
    clear G J aa;go_wp2;go_ret;exact HE.out
theorem C5 (h:fM w b gn gl gf (calm xs d))(h0:0<=d)(hd:d<3000000000000000000){v:Value}{g:Nat}{ps:List (Int×Int)}(hr:ni w v g ps)
  (hq:Mn ps xs.length) (W:ps.length<=1000) (hx:xs.length=3128) (hg:ps.length≠0->g∉[b,gn,gl,gf]):
  Calls prog 80 #[b,v] w λe w'=>e=(0:Int)/\fM w' b gn gl gf (calm (az xs ps) (d+(mf ps:Nat)))/\ay [b,gn,gl,gf] w w':=by
 have ho:=h.old (by show xs.length≠0;omega);have ac:∀y∈[b,gn,gl,gf],y<w.heap.size:=λy hy=>by simp only[aM,aK,bC] at hy;omega
 have aa:=zV (iC ps);refine(acq (S:=λk J=>fM J b gn gl gf (ir xs (ps.take k) [] (d+(k:Nat)))) (R:=λk J=>fM J b gn gl gf (ir xs ps (ps.take k) (d+(ps.length:Nat)+(nE (iC ps) k:Nat)))) (T:=λJ=>fM J b gn gl gf (calm (az xs ps) (d+(mf ps:Nat)))) (F:=λ_ _=>False) hr (λp hp=>by have :=hq p hp;omega) W hg ac ?_ ?_ ?_ ?_ ?_ ?_ ?_ ?_).mono ?_
 ·intro k wa wb G z
  exact z.keep G
 ·rw[Tc] at h
  simpa using h
 ·intro k J G z
  obtain⟨x0,x1⟩:=yI hq (k:=k) G;refine Rr (I6 z (by omega) (by omega) _ (rA ps k) x0 x1) ?_;rintro w' ⟨U,h3⟩;refine⟨0,rfl,h3,.inl ⟨rfl,?_⟩⟩;rw[pY ps k G,show d+((k+1:Nat):Int)=d+(k:Nat)+1 by omega];exact U
 ·intro k wa wb l hl G z
  have W:∀y,y∈[b,gn,gl,gf]->y∉l:=λy hy V=>by have :=hl y V;have :=ac y hy;omega
  exact z.keep G (W _ (by simp)) (λ_=>⟨W _ (by simp),W _ (by simp),W _ (by simp)⟩)
 ·intro J z
  rw[aW (aI _)] at z;simpa[nE] using z
 ·intro k J G z V
  rw[pY ps k G,LA _ _ _ _ _ _ V,nE,Dw ps k G,o6,aB V];exact z
 ·intro k J G z V
  obtain⟨x0,x1⟩:=yI hq (k:=k) G;have :=aa k;refine Rr (I5 z (by omega) (by omega) _ (rA ps k) x0 x1) ?_;rintro w' ⟨U,h3⟩;refine⟨0,rfl,h3,.inl ⟨rfl,?_⟩⟩;rw[pY ps k G,nE,Dw ps k G,o6,aA V,show d+(ps.length:Nat)+((nE (iC ps) k+1:Nat):Int)=d+(ps.length:Nat)+(nE (iC ps) k:Nat)+1 by omega];exact U
 ·intro J z
  rw[aW (aI _)] at z;have :=aa ps.length;have ae:=Ms z (yt _ _ _ _ (by omega) (by omega));obtain⟨e1,e2⟩:=I4 xs ps (d+(ps.length:Nat)+(nE (iC ps) ps.length:Nat)) (λp hp=>(hq p hp).1);rw[e1,e2] at ae;refine Rr ae ?_;rintro w' ⟨U,h3⟩;refine⟨0,rfl,h3,.inl ⟨rfl,?_⟩⟩;rw[show d+((mf ps:Nat):Int)=d+(ps.length:Nat)+(nE (iC ps) ps.length:Nat)+1 by unfold mf KA;omega];exact U
 ·rintro e w' ⟨y,rfl,z,⟨rfl,U⟩|⟨-,U⟩⟩
  ·exact⟨rfl,U,z⟩
  ·exact U.elim
theorem Zq (w:World)(a x:Int)(T:Nat):ni (w.alloc (.cells #[a,.int .u64 x] T)) (.slice w.heap.size 1 1) w.heap.size [(a,x)]:=
 fw.preads (T:=T) ⟨rfl,_,1,rfl,aI _,by unfold maxLen;omega,λ_=>⟨rfl,_,bc.new _ _ _,rfl,rfl⟩⟩
theorem rK (h:fM w b gn gl gf (calm xs d))(h0:0<=d)(hd:d<3000000000000000000)(hx:xs.length=3128)(x:Int):
  Calls prog 82 #[b,.int .u64 x] w λe w'=>e=(0:Int)/\fM w' b gn gl gf (calm (az xs [(8,x)]) (d+3))/\ay [b,gn,gl,gf] w w':=by
 have ho:=h.old (by show xs.length≠0;omega);have J:=λ(U:World) (hk:ay [] w U) (he:U.heap.size=w.heap.size)=>C5 (h.keep (hk.alloc (.cells #[(8:Int),.int .u64 x] 82))) h0 hd (Zq U 8 x 82) (by intro p V;simp at V;subst V;simp;omega) (by simp) (by omega) (by intro _ hm;simp at hm;omega)
 rw[Mm] at J;have HS:=ar J;clear J ho h;go_in;go_wp2_with fail;refine Rr (HS.out w (ay.refl _ _) rfl) ?_;rintro w2 ⟨z,G⟩;obtain⟨W,fC⟩:=hh2 z (((ay.refl _ _).alloc _).trans' G);clear z G;go_wp2;go_ret;exact⟨rfl,W.out,fC.out⟩
theorem Ox (h:fM w b gn gl gf (calm xs d))(h0:0<=d)(hd:d<2000000000000000000)(U:xs.length=3128){v:Value}{g:Nat}{ps:List (Int×Int)}(V:ni w v g ps)
  (W:Mn ps 3128) (hn:ps.length<=1000) (hg:ps.length≠0->g∉[b,gn,gl,gf]):
  Calls prog 84 #[b,v] w λe w'=>e=(0:Int)/\fM w' b gn gl gf (calm (Xd xs ps) (d+(mf ps:Nat)+3))/\ay [b,gn,gl,gf] w w':=by
 have HS:=ar (C5 h h0 (by omega) V (by rw[U];exact W) hn (by omega) hg);have aa:=zW ps;have HX:=ar U;obtain⟨a,cap,rfl,-,-⟩:=V.val;clear h V W hg U;go_in;go_wp2_with fail;refine Rr HS.out ?_;rintro w2 ⟨G,z⟩;obtain⟨HC,fC⟩:=hh2 (rK G (by omega) (by omega) (by rw[cy];exact HX.out) 0) z;clear G z;go_wp2_with fail;refine Rr HC.out ?_;rintro w3 ⟨W8,J⟩;obtain⟨Cf,og⟩:=hh2 W8 (fC.out.trans' J);clear W8 J;go_wp2;go_ret;exact⟨rfl,Cf.out,og.out⟩
end
section
open Go.RowKit
variable{w w':World}{v:Value}{G J b g gf gl gn gp k z:Nat}{ps qs:List (Int×Int)}{B X Y f xs:List Int}{D:DataW Unit}{d:Int}{ex ks l:List Nat}{R:Nat->World->Prop}{F:Int->World->Prop}{T V:List (bS×Value)}{own:Nat->List Nat}
theorem Hd (h:fM w b gn gl gf (calm xs d))(z:xs.length=3128):
  Calls prog 45 #[b] w λe w'=>e=(3128:Int)/\w=w':=by
 have :=Xf h;rw[show((calm xs d).now.length:Int)=3128 by show(xs.length:Int)=3128;omega] at this;exact this
theorem Zr (h:AQ ps=true):Mn ps 3128:=λp z=>by have :=TE h z;omega
theorem acr (h:ps.length<=400):Mn (nD (fx ps)) 3128:=λp z=>by
 have :=Ml z;rw[ng] at this;omega
def VK (w:World) (b gn gl gf:Nat) (xs:List Int) (d:Int) (e:Ending) (w':World):Prop:=
 e=(0:Int)/\fM w' b gn gl gf (calm xs d)/\ay [b,gn,gl,gf] w w'
theorem VL (h:fM w b gn gl gf (calm xs d))(h0:0<=d)(hd:d<1000000000000000000)(hx:xs.length=3128){v:Value}{g:Nat}{ps:List (Int×Int)}(hr:ni w v g ps)
  (ac:okP ps) (aj:AQ ps=true) (hn:ps.length<=400) (hg:ps.length≠0->g∉[b,gn,gl,gf]):
  Calls prog 34 #[b,v] w (VK w b gn gl gf (nG xs ps) (d+(Cc ps:Nat))):=by
 obtain⟨H,HR,HX,HG,ah,qU,HL⟩:=hh7 h hr hx hg aj ac (Hd h hx);have HW:=ar (Rh hr ac hn);obtain⟨a,cap,rfl,h1,h2⟩:=hr.val;unfold maxLen at h2;have G:=ar (h.old (by show xs.length≠0;omega));have q4:¬(400:Int)<(ps.length:Int):=by omega
 clear h hr ac hg aj hx;go_in;go_wp2_with fail;refine C' HL.out ?_;go_wp2_with fail;refine HW.out.mono ?_;rintro e w1 ⟨vw,gw,rfl,z,Vr,J⟩;obtain⟨aw,cw,rfl,-,-,-⟩:=il z;obtain⟨MT,jv,HU⟩:=hh3 z J (Fp qU.out);have SA:=BH z HU.out ps.length (ng ps) (by omega);rw[Fs qU.out,ah.out] at SA;obtain⟨SA,aa⟩:=hh2 SA (H.out.keep J);clear z J;go_wp2_with fail;refine C' SA.out ?_;go_wp2_with fail;refine C' (C4 aa.out 8 (by omega) (by rw[HX.out];omega)) ?_;by_cases hz:ps.length=0
 ·obtain rfl:ps=[]:=bg hz
  clear hz;go_wp2;go_ret;refine⟨rfl,?_,jv.out.mono⟩;simpa[nG,Cc] using aa.out
 ·have ag:((ps.length:Int)==0)=false:=cg.2 (by omega)
  have aD:(ps.length==0)=false:=cg.2 hz;have W7:Hid (ps≠[]):=λe=>hz (by rw[e];rfl)
  have HZ:=ar hz;clear hz;go_wp2_with fail;refine(Zl MT.out (by rw[ng];omega)).mono ?_;rintro e w2 ⟨vl,aC,rfl,U,aF,V⟩;obtain⟨al,cl,rfl,-,-⟩:=U.val;have fC:=ar V;have ho:=G.out;have ag:=jv.out.size;have PC:=ar (C5 (aa.out.keep V) h0 (by omega) U (by rw[HX.out];exact acr hn) (by rw[nV,ng];omega) HX.out (by intro _ hm;simp only[aM,aK,bC] at hm;omega));clear U V ho ag;go_wp2_with fail;refine Rr PC.out ?_;rintro w3 ⟨W8,ae⟩;have Cf:=ar W8;have ho:=G.out;have af:=(MT.out.keep fC.out).keep ae (by intro hm;simp only[aM,aK,bC] at hm;omega);have av:=ar (zO af HU.out (by rw[ng];omega));have og:Hid (ay [b,gn,gl,gf] w w3):=((jv.out.trans fC.out).mono).trans' ae;clear W8 ae af ho;go_wp2_with fail;refine Rr av.out λw4 W=> ?_;have ax:=zW (nD (fx ps));rw[nV,ng] at ax;obtain⟨az,qB⟩:=hh2 (rK (Cf.out.keep W) (by omega) (by omega) (by rw[cy];exact HX.out) (rH (fx ps))) (og.out.trans W);clear W;go_wp2_with fail;refine Rr az.out ?_;rintro w5 ⟨ai,kr⟩;have pU:=ar (qB.out.trans' kr);have au:=ar (Ox ai (by omega) (by omega) (by rw[cy,cy];exact HX.out) (HR.out.keep pU.out HG.out) (Zr ah.out) (by omega) HG.out);clear ai kr;go_wp2_with fail;refine Rr au.out ?_;rintro w6 ⟨ak,jE⟩;obtain⟨aB,rX⟩:=hh2 ak (pU.out.trans' jE);clear ak jE;go_wp2;go_ret;refine⟨rfl,?_,rX.out⟩;rw[nG,aA W7.out,Cc,aA W7.out];have :=aB.out;rw[show d+((mf (nD (fx ps))+3+mf ps+3:Nat):Int)=d+(mf (nD (fx ps)):Nat)+3+(mf ps:Nat)+3 by omega];exact this
def I7 (xs:List Int):Nat:=(xs.getD 8 0/4294967296).toNat
def LG (xs:List Int):Option (List (Int×Int)):=
 if 1<=I7 xs/\I7 xs<=400/\xs.getD 8 0=rH (qV xs (2*I7 xs))/\mb (qV xs (2*I7 xs)) (I7 xs)=true then some (aeR (qV xs (2*I7 xs)) (I7 xs)) else none
def VM (w:World) (e:Ending) (w':World):Prop:=e= .returned (.tuple #[(),false,(0:Int)])/\ay [] w w'
theorem Rj (h:fM w b gn gl gf (calm xs d))(z:xs.length=3128):Ri w b xs:=λk _ J G=>by
 have :=C4 (h.keep G) (k:Int) (by omega) (by rw[z];omega);rw[aF] at this;exact this
theorem I8 (h:Calls prog 45 #[b] w λe w'=>e=(3128:Int)/\w=w')(pN:Ri w b xs)(hu:Fm xs)(W:LG xs=none):
  Calls prog 109 #[b] w (VM w):=by
 obtain⟨HL,JO⟩:=hh2 h (pN 8 w (by omega) (ay.refl _ _));obtain⟨c0,c1⟩:=Fq hu 8;obtain⟨n,hn⟩:∃n:Nat,I7 xs=n:=⟨_,rfl⟩;have hc:xs.getD 8 0/4294967296=(n:Int):=by unfold I7 at hn;omega
 obtain⟨SA,HU⟩:=hh2 (Zo pN (2*n)) hu;unfold LG at W;rw[hn] at W;have HS:Hid (¬(1<=n/\n<=400/\xs.getD 8 0=rH (qV xs (2*n))/\mb (qV xs (2*n)) n=true)):=λe=>by rw[aB e] at W;cases W
 generalize aa:xs.getD 8 0=c at *;clear h pN hu hn aa W;by_cases h1:n<1
 ·go_in
  go_wp2_with fail;refine C' HL.out ?_;go_wp2_with fail;refine C' JO.out ?_;go_wp2
  go_ret3
  exact⟨rfl,ay.refl _ _⟩
 ·by_cases h2:400<n
  ·go_in
   go_wp2_with fail;refine C' HL.out ?_;go_wp2_with fail;refine C' JO.out ?_;go_wp2
   go_ret3
   exact⟨rfl,ay.refl _ _⟩
  ·go_in
   go_wp2_with fail;refine C' HL.out ?_;go_wp2_with fail;refine C' JO.out ?_;go_wp2_with fail;refine(SA.out (by omega) _ (by omega)).mono ?_;rintro e w1 ⟨vw,gw,rfl,G,Vr,U⟩;obtain⟨aw,cw,rfl,-,-,-⟩:=il G;obtain⟨MT,jv⟩:=hh2 G U;clear G U;go_wp2_with fail;refine Rr (zO MT.out (Ou HU.out _) (by rw[qW];omega)) λw2 z=> ?_;obtain⟨fC,Xn⟩:=hh2 (jv.out.trans z) (BH (MT.out.keep z) (Ou HU.out _) n (qW _ _) (by omega));clear z;generalize J:rH (qV xs (2*n))=mk at *;by_cases V:c=mk
   ·have SN:(c != mk)=false:=by simpa using V
    have ac:Hid (mb (qV xs (2*n)) n=false):=by
     show mb (qV xs (2*n)) n=false;cases hp:mb (qV xs (2*n)) n
     ·rfl
     ·exact absurd ⟨by omega,by omega,V,hp⟩ HS.out
    rw[ac.out] at Xn;subst V;clear J;go_wp2_with(go_at_call 79;refine C' Xn.out ?_)
    go_ret3
    exact⟨rfl,fC.out⟩
   ·have SN:(c != mk)=true:=by simpa using V
    clear J V;go_wp2
    go_ret3
    exact⟨rfl,fC.out⟩
theorem Zu (V:X.length=3128):∀k,k<=3128->∀i,(az X (dm X Y k)).getD i 0=if i<k then Y.getD i 0 else X.getD i 0:=by
 intro k;induction k with
 |zero=>intro _ i;rw[aA];rfl
 |succ k ih=>
  intro U i;by_cases G:Y.getD k 0=X.getD k 0
  ·rw[Dz X Y k G,ih (by omega)]
   by_cases h:i<k
   ·rw[aB h,aB]
   ·rw[aA h]
    by_cases z:i=k
    ·rw[aB,z,G]
    ·rw[aA]
  ·have e:dm X Y (k+1)=dm X Y k++[((k:Int),Y.getD k 0)]:=by
    unfold dm;rw[dQ,dZ,ez]
    congr 1
    have J:(Y.getD k 0 != X.getD k 0)=true:=bne_iff_ne.2 G;simp only[fE,J,if_true,List.filter_nil];rfl
   rw[e,br,oh,aF,jg _ _ _ _ (by rw[cy];omega)];by_cases h:i=k
   ·rw[aB h.symm,aB,h]
   ·rw[aA (cV h),ih (by omega)]
    by_cases z:i<k
    ·rw[aB z,aB]
    ·rw[aA z,aA]
theorem Zv{p:Int×Int}(h:p∈dm X Y k):∃i:Nat,i<k/\p=((i:Int),Y.getD i 0)/\Y.getD i 0≠X.getD i 0:=by
 unfold dm at h;obtain⟨i,z,rfl⟩:=bH.1 h;rw[List.mem_filter,cu] at z;exact⟨i,z.1,rfl,by simpa using z.2⟩
theorem acs{L:List Nat}(h:∀i,i<3128->Y.getD i 0≠X.getD i 0->i∈L):(dm X Y 3128).length<=L.length:=by
 unfold dm;rw[b7];have J:∀(l m:List Nat),l.Nodup->(∀x∈l,x∈m)->l.length<=m.length:=by
  intro l;induction l with
  |nil=>intro m _ _;exact fD _
  |cons a l ih=>
   intro m hn h;have U:=List.nodup_cons.1 hn;have V:=h a (by simp);have W:=ih (m.erase a) U.2 λx z=>by
    have G:x≠a:=λe=>U.1 (e▸z)
    exact(List.mem_erase_of_ne G).2 (h x (by simp[z]))
   rw[List.length_erase_of_mem V] at W;have :0<m.length:=List.length_pos_of_mem V;simp only[cA];omega
 refine J _ L (List.Sublist.nodup List.filter_sublist List.nodup_range) λx z=> ?_
 rw[List.mem_filter,cu] at z;exact h x z.1 (by simpa using z.2)
theorem Oy (hX:X.length=3128)(ae:In64 X)(ac:In64 Y)(hj:∀k,8<=k->k<816->Y.getD k 0=X.getD k 0)(h8:X.getD 8 0=0)(hn:(dm X Y 3128).length<=400):
  okP (dm X Y 3128)/\AQ (dm X Y 3128)=true/\(nG X (dm X Y 3128)).length=3128/\In64 (nG X (dm X Y 3128))/\(nG X (dm X Y 3128)).getD 8 0=0/\
   ∀k,k<3128->(k<8\/816<=k)->(nG X (dm X Y 3128)).getD k 0=Y.getD k 0:=by
 have G:∀p∈dm X Y 3128,∃i:Nat,i<3128/\(i<8\/816<=i)/\p=((i:Int),Y.getD i 0):=λp z=>by
  obtain⟨i,h1,h2,h3⟩:=Zv z;refine⟨i,h1,?_,h2⟩;rcases dF i 8 with h4|h4
  ·exact .inl h4
  ·rcases dF i 816 with h5|h5
   ·exact absurd (hj i h4 h5) h3
   ·exact .inr h5
 have W:okP (dm X Y 3128):=λp z=>by
  obtain⟨i,h1,-,rfl⟩:=G p z;have :=ac i
  dsimp only
  omega
 have aa:AQ (dm X Y 3128)=true:=by
  unfold AQ;rw[iM];intro p z;obtain⟨i,h1,h2,rfl⟩:=G p z;exact nb.2 (by dsimp only;omega)
 have af:=ng (dm X Y 3128);have U:=Zu (Y:=Y) hX 3128 (aI _);by_cases J:dm X Y 3128=[]
 ·have e:nG X (dm X Y 3128)=X:=by unfold nG;rw[aB J]
  rw[e];refine⟨W,aa,hX,ae,h8,λk hk _=> ?_⟩;have :=U k;rw[J,aB hk] at this;exact this
 ·have e:nG X (dm X Y 3128)=az (az (az (az X (nD (fx (dm X Y 3128)))) [(8,rH (fx (dm X Y 3128)))]) (dm X Y 3128)) [(8,0)]:=by unfold nG;rw[aA J];rfl
  have aj:∀p∈nD (fx (dm X Y 3128)),9<=p.1/\p.1<809+1:=λp z=>by
   have :=Ml z;omega
  have ai:0<=rH (fx (dm X Y 3128))/\rH (fx (dm X Y 3128))<18446744073709551616:=by
   unfold rH;have h1:=Kz ((fx (dm X Y 3128)).map Int.toNat);rw[af,show 2*(dm X Y 3128).length/2=(dm X Y 3128).length by omega];omega
  have h1:In64 (az X (nD (fx (dm X Y 3128)))):=ae.put λp z=>by
   have hu:=Fp W;unfold nD at z;obtain⟨k,hk,rfl⟩:=List.mem_mapIdx.1 z;have :=hu _ (bM hk)
   dsimp only
   omega
  have h2:In64 (az (az X (nD (fx (dm X Y 3128)))) [(8,rH (fx (dm X Y 3128)))]):=h1.put λp z=>by rw[au] at z;subst z;exact ai
  have h3:In64 (az (az (az X (nD (fx (dm X Y 3128)))) [(8,rH (fx (dm X Y 3128)))]) (dm X Y 3128)):=h2.put λp z=>by
   obtain⟨i,-,-,rfl⟩:=G p z;exact ac i
  have h4:In64 (az (az (az (az X (nD (fx (dm X Y 3128)))) [(8,rH (fx (dm X Y 3128)))]) (dm X Y 3128)) [(8,0)]):=h3.put λp z=>by rw[au] at z;subst z;exact⟨Int.le_refl _,by decide⟩
  have Cj:(az (az X (nD (fx (dm X Y 3128)))) [(8,rH (fx (dm X Y 3128)))]).length=3128:=by rw[cy,cy,hX]
  -- the words under the journal are the same
  have V:∀k,(k<8\/816<=k)->(az (az X (nD (fx (dm X Y 3128)))) [(8,rH (fx (dm X Y 3128)))]).getD k 0=X.getD k 0:=λk hk=>by
   rw[dX _ _ _ λp z=>by rw[au] at z;subst z;show(8:Int).toNat≠k;rw[show(8:Int).toNat=8 from rfl];omega,dX _ _ _ λp z=>by have :=aj p z;omega]
  refine⟨W,aa,by rw[e,cy,cy,Cj],by rw[e];exact h4,?_,λk hk ah=> ?_⟩
  ·rw[e,oh,show(8:Int).toNat=8 from rfl,jg _ _ _ _ (by rw[cy,Cj];omega),aB rfl]
  ·rw[e,dX _ _ _ λp z=>by rw[au] at z;subst z;show(8:Int).toNat≠k;rw[show(8:Int).toNat=8 from rfl];omega]
   -- the same puts over words that are the same there
   have ag:∀(ps:List (Int×Int)) (A B:List Int),A.length=3128->B.length=3128->A.getD k 0=B.getD k 0->(az A ps).getD k 0=(az B ps).getD k 0:=by
    intro ps;induction ps with
    |nil=>intro A B _ _ h;exact h
    |cons p ps ih=>
     intro A B hA hB h;show(az (A.set p.1.toNat p.2) ps).getD k 0=(az (B.set p.1.toNat p.2) ps).getD k 0;refine ih _ _ (by rw[dg,hA]) (by rw[dg,hB]) ?_;rcases dF p.1.toNat 3128 with z|z
     ·rw[jg _ _ _ _ (by omega),jg _ _ _ _ (by omega)]
      split
      ·rfl
      ·exact h
     ·rw[kM (by omega),kM (by omega)]
      exact h
   rw[ag _ _ X Cj hX (V k ah),U,aB hk]
theorem ru.journal(h:ru X T V own ex)(hl:Y.length=3128)(J:In64 Y)(hs:∀k,k<3128->(k<8\/816<=k)->Y.getD k 0=X.getD k 0):ru Y T V own ex/\oU X Y []:=by
 have z:∀k,(k<8\/816<=k)->Y.getD k 0=X.getD k 0:=λk G=>by
  rcases dF k 3128 with U|U
  ·exact hs k U G
  ·rw[aj,aZ (by omega),aj,aZ (by rw[h.len];omega)]
 have hu:(∀c,c<256->dn Y c=dn X c):=λc hc=>by
  unfold dn bw;rw[z _ (by omega)]
 have oN:oU X Y []:=λc _ _ _ _ j _=>z _ (by omega)
 exact⟨h.bits hl J (vF h.sup (λk G=>z k (by omega)) λk G _=>z k (by omega)) (λk G _=>z k (by omega)) (λi _ c _ j _=>z _ (by omega)) (λb W=>by rw[hu b W];exact h.once b W) h.exr λj hj=>h.tailsKeep oN hj (by simp),oN⟩
theorem ru.nodes(h:ru X T V own ex)(hk:oU X Y l){j:Nat}(hl:∀c∈dv (nT V j),c∉l):sA Y (nT V j)=sA X (nT V j):=by
 rcases h.vir j with G|G
 ·rcases h.gots.form j with ⟨h0,W,J⟩|⟨-,J,-⟩
  ·rw[G] at hl ⊢
   refine BF J.len (λhK=>(tG J.right hK).2) λc z k rM=> ?_
   have U:=h.rng W (bW _ (by rw[G];exact z));exact hk c U.2 U.1 (h.used W (bW _ (by rw[G];exact z))) (hl c z) k rM
  ·rw[G,J];rfl
 ·rw[G];rfl
theorem ru.nodesUp{G:List Nat}{M:Nat->Nd}(h:StX X T own G)(J:∀i,M i=sA X (nT T i))(z:oU X Y l){i:Nat}(U:i<32)(V:∀j,j≠i->∀c∈dv (nT T j),c∉l)(n:bS):∀j,na M i (sA Y n) j=sA Y (nT (nM T i n) j):=by
 intro j;rw[pI h.gots.len U];by_cases e:i=j
 ·subst e
  rw[nz,aB rfl]
 ·rw[dH _ _ (cV e),aA e,J]
  exact(h.nodes z (V j (cV e))).symm
theorem ru.filesOwn{U:List Nat}(h:StX X T own U){i:Nat}(V:i<32):∀j,∀c∈dv (nT T j),c∉own i:=λj c z G=>by
 rcases dF j 32 with J|J
 ·by_cases e:j=i
  ·subst e;exact h.inner J G z
  ·exact h.apart J V e (bW _ z) (bT _ G)
 ·rw[h.gots.zero J] at z
  have :dv bY=[]:=by decide
  rw[this] at z;simp at z
theorem Oz (i:Nat)(h:i<3128):AV B ps (i:Int)=(az B ps).getD i 0:=by
 unfold AV;rw[aB,aF]
structure tH (w:World) (b gp:Nat) (B:List Int) (ps:List (Int×Int)) (T:List (bS×Value)) (own:Nat->List Nat):Prop where
 st:gK w b gp B ps T own
 sup:kX (az B ps)
theorem tH.keep0(h:tH w b z B ps T own)(G:ay [] w w'):tH w' b z B ps T own:=⟨h.st.keep0 G,h.sup⟩
theorem C7 (h:tH w b G B ps T own)(i:Nat)(z:i<3128):
  Calls prog 57 #[b,(i:Int)] w λe w'=>e= .returned (.int .u64 ((az B ps).getD i 0))/\w=w':=by
 have :=nW h.st.sh (i:Int);rwa[Oz i z] at this
theorem Te (h:tH w b J B ps T own):
  Calls prog 131 #[b] w λe w'=>e=(decide ((az B ps).getD 2 0=32))/\w=w':=by
 have G:=ar (C7 h 2 (by omega));clear h;generalize (az B ps).getD 2 0=c at *;by_cases z:c=32
 ·subst z
  go_in;go_wp2_with fail;refine C' G.out ?_;go_wp2;go_ret;exact⟨rfl,rfl⟩
 ·have U:(c==32)=false:=by simpa using z
  rw[aP z];clear z;go_in;go_wp2_with fail;refine C' G.out ?_;go_wp2;go_ret;exact⟨rfl,rfl⟩
theorem yZ (h:tH w b J B ps T own):
  Calls prog 99 #[b] w λe w'=>e=((az B ps).getD 1 0:Int)/\w=w':=by
 have z:=ar (C7 h 1 (by omega));have G:=h.sup.2.1;clear h;generalize (az B ps).getD 1 0=t at *;rcases G with rfl|rfl
 ·go_in
  go_wp2_with fail;refine C' z.out ?_;go_wp2;go_ret;exact⟨rfl,rfl⟩
 ·go_in
  go_wp2_with fail;refine C' z.out ?_;go_wp2;go_ret;exact⟨rfl,rfl⟩
def cQ (w:World) (b z:Nat) (B:List Int) (ps:List (Int×Int)) (m:Nat) (R:Int->List (Int×Int)->Prop) (e:Ending) (w':World):Prop:=
 ∃r qs h,e=(r:Int)/\(h=z\/(w.heap.size<=h/\h<w'.heap.size))/\eN w' b h B (ps++qs)/\ay [b,z] w w'/\qs.length<=m/\R r qs
def C8 (X:List Int) (f r:Int) (qs:List (Int×Int)):Prop:=
 (r=1/\¬(f=1\/f=2)/\qs=[])\/(r=0/\(f=1\/f=2)/\((X.getD 1 0=f/\qs=[])\/(X.getD 1 0≠f/\qs=[(1,f),(2,0)])))
theorem cQ.none{m:Nat}{R:Int->List (Int×Int)->Prop}{r:Int}(h:eN w b z B ps)(G:ay [] w w')(J:R r []):cQ w b z B ps m R (.returned r) w':=
 ⟨r,[],z,rfl,.inl rfl,by rw[bz];exact h.keep G,G.mono,by simp,J⟩
theorem Zw (h:eN w b z B ps)(J:b<w.heap.size/\z<w.heap.size)(ae:ps.length<=700000)(f:Int)
  (G:Calls prog 99 #[b] w λe w'=>e=((az B ps).getD 1 0:Int)/\w=w'):
  Calls prog 46 #[b,f] w (cQ w b z B ps 2 (C8 (az B ps) f)):=by
 by_cases hf:f=1\/f=2
 ·have HT:=ar G
  by_cases ht:(az B ps).getD 1 0=f
  ·have HF:Hid (cQ w b z B ps 2 (C8 (az B ps) f) (.returned (0:Int)) w):=cQ.none h (ay.refl _ _) (.inr ⟨rfl,hf,.inl ⟨ht,rfl⟩⟩)
   rw[ht] at HT;clear h J G ht;generalize C8 (az B ps) f=R at *;rcases hf with rfl|rfl
   ·go_in
    go_wp2_with fail;refine C' HT.out ?_;go_wp2;go_ret;exact HF.out
   ·go_in
    go_wp2_with fail;refine C' HT.out ?_;go_wp2;go_ret;exact HF.out
  ·have ai:=ar (o7 h (by omega) 1 f)
   have mi:Hid (∀w',(∃gG,(gG=z\/(w.heap.size<=gG/\gG<w'.heap.size))/\eN w' b gG B (ps++[(1,f),(2,0)])/\ay [b,z] w w')->cQ w b z B ps 2 (C8 (az B ps) f) (.returned (0:Int)) w'):=λw' ⟨gG,h1,h2,h3⟩=>
    ⟨0,_,gG,rfl,h1,h2,h3,by simp,.inr ⟨rfl,hf,.inr ⟨ht,rfl⟩⟩⟩
   have zB:=ar ae;have ah:=J;have aj:=ar ah;clear h J G ah ae;generalize C8 (az B ps) f=R,(az B ps).getD 1 0=t at *;have hw:IntKind.u64.wrap f=f:=by rcases hf with rfl|rfl<;>rfl
   have hb:(t==f)=false:=by simpa using ht
   have mP:Hid (∀V U,(U=z\/(w.heap.size<=U/\U<V.heap.size))->eN V b U B (z6 ps 1 f)->Calls prog 47 #[b,(2:Int),.int .u64 0] V (jN V b U B (ps++[(1,f),(2,0)]))):=λV U hg hs=>by
    have e1:z6 ps 1 f=ps++[(1,f)]:=rfl;have e2:z6 (ps++[(1,f)]) 2 0=ps++[(1,f),(2,0)]:=by show(ps++[(1,f)])++[(2,0)]=_;rw[aV];rfl
    rw[e1] at hs;have :=o7 hs (by rw[aC];have :=zB.out;simp;omega) 2 0;rwa[e2] at this
   rcases hf with rfl|rfl
   all_goals
    go_in;go_wp2_with fail;refine C' HT.out ?_;go_wp2_with fail;refine Rr ai.out ?_;rintro V ⟨U,W,ag,ac⟩;obtain⟨Cf,jv,W6⟩:=hh3 (mP.out V U W ag) ac W;clear W ag ac mP ai;go_wp2_with fail;refine Rr Cf.out ?_;rintro w2 ⟨lH,ak,af,aa⟩;have HF:Hid (cQ w b z B ps 2 R (.returned (0:Int)) w2):=mi.out w2 ⟨lH,by
     have h1:=W6.out;have h2:=jv.out.size;have h3:=aa.size;have h4:=aj.out;omega,af,by
     refine jv.out.trans aa (λx hx=> ?_);have h1:=W6.out;simp only[aM,aK,bC] at hx ⊢;omega⟩
    clear ak af aa Cf mi;go_wp2;go_ret;exact HF.out
 ·have HF:Hid (cQ w b z B ps 2 (C8 (az B ps) f) (.returned (1:Int)) w):=cQ.none h (ay.refl _ _) (.inl ⟨rfl,hf,rfl⟩)
  have b1:(f==1)=false:=by simp;omega
  have b2:(f==2)=false:=by simp;omega
  have b3:(f != 1)=true:=by simp;omega
  have b4:(f != 2)=true:=by simp;omega
  clear h J G hf;generalize C8 (az B ps) f=R at *;go_in;go_wp2;go_ret;exact HF.out
theorem aeV (h:tH w b G B ps T own)(z:ps.length<=700000)(f:Int):
  Calls prog 46 #[b,f] w (cQ w b G B ps 2 (C8 (az B ps) f)):=Zw h.st.sh h.st.lt z f (yZ h)
theorem OA (h:eN w b J B ps)(G:(az B ps).getD 1 0=0):
  Calls prog 99 #[b] w λe w'=>e=((az B ps).getD 1 0:Int)/\w=w':=by
 have z:=nW h 1;rw[show(1:Int)=((1:Nat):Int) from rfl,Oz 1 (by omega),G] at z;have z:=ar z;rw[G];clear h G;go_in;go_wp2_with fail;refine C' z.out ?_;go_wp2;go_ret;exact⟨rfl,rfl⟩
def Tf (w:World) (b:Nat) (t:Int) (e:Ending) (w':World):Prop:=
 ∃z h,e= .returned (.func (.func 202) #[] #[(z:Nat),(h:Nat)])/\w.heap.size<=z/\w.heap.size<=h/\bc w' z #[b] 49/\bc w' h #[t] 3/\ay [] w w'
theorem OB{W:Nat}(h:tH w b W B ps T own):
  Calls prog 166 #[b] w (Tf w b ((az B ps).getD 1 0)):=by
 have G:ay [] w (w.alloc (.cells #[b] 49)):=(ay.refl _ _).alloc _;have z:=bc.new w #[b] 49;have c0:(w.alloc (.cells #[b] 49)).cell? w.heap.size=some (.pointer (some ⟨b,0,none⟩)):=by rw[z.cell];rfl
 have HT:=ar (yZ (h.keep0 G));have U:Hid (∀t,Tf w b t (.returned (.func (.func 202) #[] #[w.heap.size,(w.heap.size+1:Nat)])) ((w.alloc (.cells #[b] 49)).alloc (.cells #[(t:Int)] 3))):=λt=>by
  have V:=aU w (.cells #[b] 49);have J:=bc.new (w.alloc (.cells #[b] 49)) #[(t:Int)] 3;rw[V] at J;refine⟨w.heap.size,w.heap.size+1,rfl,aI _,by omega,?_,J,?_⟩
  ·exact z.keep ((ay.refl [] _).alloc _)
  ·exact G.alloc _
 clear h z G;generalize (az B ps).getD 1 0=t at *;go_in;go_wp2_with fail;refine C' HT.out ?_;go_wp2;go_ret;exact U.out t
theorem LH (h:gK w b gp B ps T own){bs bt:Nat}{t:Int}(hs:bc w bs #[b] 49)(ht:bc w bt #[t] 3){i:Nat}(hi:i<32):
  Calls prog 202 #[(i:Int),bs,bt] w (dz w (¬dR (az B ps) (i:Int)/\(nT T i).F≠t)):=by
 have hG:=h.get hi;unfold yV at hG;have HG:=ar hG;have c0:w.cell? bs=some (.pointer (some ⟨b,0,none⟩)):=by rw[hs.cell];rfl
 have ae:Hid (∀w',ay [] w w'->w'.cell? bt=some (.int .i64 t)):=λw' hk=>by rw[(ht.keep hk).cell];rfl
 have HP:Hid (∀(r:Bool) w',(r=true↔¬dR (az B ps) (i:Int)/\(nT T i).F≠t)->ay [] w w'->dz w (¬dR (az B ps) (i:Int)/\(nT T i).F≠t) (.returned (.bool r)) w'):=λr w' G V=>⟨r,rfl,G,V⟩
 have J:Hid ((nT T i).F≠0->¬dR (az B ps) (i:Int)):=λG V=>by
  rcases h.gots.form i with ⟨-,-,h3⟩|⟨h3,-⟩
  ·exact h3.notFree V
  ·exact G h3
 have rq:=dC;clear h hs ht hG;generalize dR (az B ps) (i:Int)=fP,nT T i=n,af:aL bY (.slice none 0 0)=Z0 at *;have Fb:Hid (Z0.size=18):=by show _=_;rw[<-af];rfl
 clear af;go_in;go_wp2_with fail;refine HG.out.mono ?_;rintro e w1 ⟨v,g,va,ga,r,rfl,hB,hE,hg,-,-,W,hr⟩;obtain⟨U,p1,p2,p3⟩:=cr (n:=n) (v:=v) (bc.new w1 Z0 75) Fb.out hB hE.one;have aa:ay [] w U:=(W.alloc _).trans p3 (by intro x hx;rw[au] at hx;have :=W.size;omega);have jh:=ar p1;have c1:U.cell? w1.heap.size=some (.int .i64 n.F):=by rw[p2.cell];exact(fT v hB).f0
 have c2:=ae.out U aa;have fC:=ar aa;clear p1 p2 p3 aa hE hg W HG ae hB;generalize aL n v=ZN at *;by_cases V:r=2
 ·subst V
  have HF:Hid (dz w (¬fP/\n.F≠t) (.returned false) U):=HP.out false U ⟨(λh=>by cases h),λh=>by
   rcases hr with ⟨G,-⟩|⟨-,-,G⟩|⟨G,-⟩
   ·omega
   ·exact absurd G h.1
   ·omega⟩ fC.out
  clear hr HP J;generalize n.F=f at *;go_wp2_with(first|(with_reducible refine gS 75 jh.out ?_));go_ret;exact HF.out
 ·have ac:¬fP:=by
   rcases hr with ⟨-,G⟩|⟨G,-⟩|⟨-,-,G⟩
   ·exact J.out G
   ·exact absurd G V
   ·exact G
  have b2:(r != 2)=true:=by simpa using V
  clear hr V;by_cases z:n.F=t
  ·have HF:Hid (dz w (¬fP/\n.F≠t) (.returned false) U):=HP.out false U ⟨(λh=>by cases h),λh=>absurd z h.2⟩ fC.out
   have bf:(n.F != t)=false:=by simpa using z
   clear HP J z ac;generalize n.F=f at *;go_wp2_with(first|(with_reducible refine gS 75 jh.out ?_));go_ret;exact HF.out
  ·have HF:Hid (dz w (¬fP/\n.F≠t) (.returned true) U):=HP.out true U ⟨λ_=>⟨ac,z⟩,λ_=>rfl⟩ fC.out
   have bf:(n.F != t)=true:=by simpa using z
   clear HP J z ac;generalize n.F=f at *;go_wp2_with(first|(with_reducible refine gS 75 jh.out ?_));go_ret;exact HF.out
theorem acu (h:tH w b gp B ps T own)(hT:∀z,ay [b,gp] w z->ku z)(ag:ps.length<=700000){i:Nat}(hi:i<32)(hF:(nT T i).F≠0):
  Calls prog 167 #[b,(i:Int)] w (cQ w b gp B ps 700 (nK (az B ps) (i:Int) { nT T i with F:=(az B ps).getD 1 0 })):=by
 have hG:=h.st.get hi;unfold yV at hG;obtain⟨HG,UN⟩:=hh2 hG (λz (V:ay [] w z)=>yZ (h.keep0 V));have LI:Hid (∀z v g,ay [] w z->bD z v g (nT T i).E->w.heap.size<=g->Calls prog 48 #[b,(i:Int),.agg (aL { nT T i with F:=(az B ps).getD 1 0 } v)] z (mC z b gp B ps (i:Int) { nT T i with F:=(az B ps).getD 1 0 })):=λz v g V hE hg=>by
  have af:eJ (az B ps) (i:Int) (nT T i) (own i):=by
   rcases h.st.gots.form i with ⟨-,-,h1⟩|⟨h1,-⟩
   ·exact h1
   ·exact absurd h1 hF
  have aj:=h.st.lt;exact sy (h.st.sh.keep V) h.st.w64 (λwy hy=>hT wy ((V.mono).trans' hy)) (by have :=V.size;omega) ag (i:Int) { nT T i with F:=(az B ps).getD 1 0 } v g af.len hE (show ∀k,k<(nT T i).E.length->(eY (nT T i).E k).size<=9223372036854775807 from yb af.right) (λ_=>by omega)
 have mi:Hid (∀z,ay [] w z->∀e w',mC z b gp B ps (i:Int) { nT T i with F:=(az B ps).getD 1 0 } e w'->∃r,e=(r:Int)/\cQ w b gp B ps 700 (nK (az B ps) (i:Int) { nT T i with F:=(az B ps).getD 1 0 }) e w'):=λz V e w' ⟨r,qs,gG,h1,h2,h3,h4,h5,h6⟩=>
  ⟨r,h1,r,qs,gG,h1,by have :=V.size;omega,h3,(V.mono).trans' h4,h5,h6⟩
 have Qv:=ar hF;have rq:=dC;clear h hF hT ag hG;generalize mC=PI,nK (az B ps) (i:Int) { nT T i with F:=(az B ps).getD 1 0 }=R at *;generalize (az B ps).getD 1 0=t,nT T i=n,ai:aL bY (.slice none 0 0)=Z0 at *;have Fb:Hid (Z0.size=18):=by show _=_;rw[<-ai];rfl
 clear ai;go_in;go_wp2_with fail;refine HG.out.mono ?_;rintro e G ⟨v,g,va,ga,r,rfl,hB,hE,hg,-,-,J,hr⟩;have Ii:r=0:=by
  have :=Qv.out;omega
 subst Ii;clear hr;obtain⟨U,p1,p2,p3⟩:=cr (n:=n) (v:=v) (bc.new G Z0 75) Fb.out hB hE.one;have aa:ay [] w U:=(J.alloc _).trans p3 (by intro x W;rw[au] at W;have :=J.size;omega);have jh:=ar p1;have Md:bD U v g n.E:=hE.keep ((((ay.refl [] G).alloc _).mono).trans' p3) (λh0=>hE.apart (l:=[G.heap.size]) (λx W=>by rw[au] at W;omega) h0);have ah:=acf p2 t;have ac:ay [G.heap.size] U (U.setCell ⟨G.heap.size,0,none⟩ (.int .i64 t)):=(ay.refl _ _).setCell (.inl (by simp)) _;have ny:ay [] w (U.setCell ⟨G.heap.size,0,none⟩ (.int .i64 t)):=aa.trans ac (by intro x W;rw[au] at W;have :=J.size;omega);have uk:=ar (bZ ah (by exact hB));have Vr:n.E.length≠0->g∉[G.heap.size]:=λh0=>hE.apart (l:=[G.heap.size]) (λx W=>by rw[au] at W;omega) h0
 obtain⟨Bv,Ij,W9⟩:=hh3 (LI.out _ v g ny (Md.keep ac Vr) hg) (mi.out _ ny) (UN.out U aa);have oD:Hid (∃c,U.heap[G.heap.size]? =c):=⟨_,rfl⟩;have ak:U.cell? G.heap.size=some (.int .i64 n.F):=by rw[p2.cell];exact(fT v hB).f0
 have mP:=ar p2;clear p1 p3 aa Md hE hg J HG LI mi UN ah ac ny Vr p2;generalize aL n v=ZN,aL { n with F:=t } v=ZT at *;go_wp2_with(first|(with_reducible refine gS 75 jh.out ?_));refine C' W9.out ?_;have oZ:=mP.out.frozen;go_wp2_with(first|(with_reducible refine gL 75 uk.out ?_));refine Bv.out.mono ?_;intro e w4 ae;obtain⟨r,rfl,hf⟩:=Ij.out e w4 ae;have HF:=ar hf;clear hf ae Bv Ij;go_wp2;go_ret;exact HF.out
end
end Go.Proofs.YtimcfdnbpkiniaaGreatDoor
