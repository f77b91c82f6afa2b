/- Lemmas. -/
import Derived.Test.YtcecbdeamjigiaaGreatDoorH29
set_option maxHeartbeats 1000000
set_option maxRecDepth 100000
namespace Go.Proofs.YtcecbdeamjigiaaGreatDoor
open Go.RowKit
variable{W w:World}{T b g gf gl gn n y:Nat}{B X Y:List Int}{own:Nat->List Nat}{M:Nat->Nd}{o:qR}{vd vq:Value}
theorem GI:QU nG (.slice none 0 0) (.slice none 0 0)= #[.int .i64 0,.int .i64 0,.int .i64 0,.int .i64 0,.int .i64 0,.slice none 0 0,.slice none 0 0]:=rfl
theorem xE{G:World}{l:List Nat}{y:Array Value}(J:bm W g y T)(V:y.size=7)(U:ay l W G)(Z:g∉l)(h:Int):
  ∃z,(storeVar 34 ⟨g,0,none⟩ (.agg #[.int .i64 h,.int .i64 0,.int .i64 0,.int .i64 0,.int .i64 0,.slice none 0 0,.slice none 0 0])).run Tryz.prog G= .ok () z/\(loadVar 34 ⟨g,0,none⟩).run Tryz.prog z= .ok (.agg #[.int .i64 h,.int .i64 0,.int .i64 0,.int .i64 0,.int .i64 0,.slice none 0 0,.slice none 0 0]) z/\Yp z (fH h) #[.int .i64 h,.int .i64 0,.int .i64 0,.int .i64 0,.int .i64 0,.slice none 0 0,.slice none 0 0]/\ay [g] G z:=
 Ub J V U Z (r:=fH h) rfl rfl rfl
theorem lQ.journal{T:List (bM×Value)}(h:lQ X T own [] M)(J:Y.length=3128)(U:dD Y)(y:∀k,k<3128->(k<8\/816<=k)->Y.getD k 0=X.getD k 0):
  lQ Y T own [] M/\bb Y=bb X:=by
 obtain⟨G,z⟩:=h.st.journal J U y;refine⟨⟨G,λj=>by rw[h.abs,h.st.nodes z (by simp)],h.tree⟩,uQ λc V _=> ?_⟩;unfold cT bw;rw[y _ (by omega) (by omega)]
def Mb (X:List Int) (M:Nat->Nd):Prop:=X.getD 8 0=0/\∃T own,lQ X T own [] M
theorem Mb.len(h:Mb X M):X.length=3128:=by obtain⟨-,T,own,h⟩:=h;exact h.st.len
theorem Mb.w64(h:Mb X M):dD X:=by obtain⟨-,T,own,h⟩:=h;exact h.st.w64
theorem Mb.tree(h:Mb X M):eb M:=by obtain⟨-,T,own,h⟩:=h;exact h.tree
theorem Mb.few(h:Mb X M):kS M:=by obtain⟨-,T,own,h⟩:=h;exact h.few
theorem Mb.lands{M':Nat->Nd}(h:Mb X M){qs:List (Int×Int)}(hl:JQ X qs M')(hT:eb M'):
  Xn (cA X (az X qs) 3128)/\wC (cA X (az X qs) 3128)=true/\(cA X (az X qs) 3128).length<=400/\Mb (kz X (cA X (az X qs) 3128)) M'/\
   ∀Z:List Int,Z.length=3128->dD Z->(∀k,k<3128->(k<8\/816<=k)->Z.getD k 0=(az X qs).getD k 0)->∃T own,lQ Z T own [] M':=by
 obtain⟨h8,T,own,J⟩:=h;obtain⟨U,V,hn,hj,L,hL,z⟩:=hl;have y:(cA X (az X qs) 3128).length<=400:=cu (WS z) hL;have G:=hn.snd hT;obtain⟨W,c2,c3,c4,c5,c6⟩:=JF J.st.len J.st.w64 G.st.w64 hj h8 y;exact⟨W,c2,y,⟨c5,U,V,(G.journal c3 c4 c6).1⟩,λZ z1 z2 z3=>⟨U,V,(G.journal z1 z2 z3).1⟩⟩
theorem Uc{h:Value}(y:bm w g (Qa o h vq vd) T):(loadVar 37 ⟨g,0,none⟩).run Tryz.prog w= .ok (.agg #[.int .i64 o.K,h,vq,.int .i64 o.O,.int .i64 o.N,vd]) w:=
 bT g 0 [.int .i64 o.K,h,vq,.int .i64 o.O,.int .i64 o.N,vd] Tryz.underlying37 rfl (by kernel_rfl) λj _=>by
  rw[y.cell,aX,<-aC];rfl
def DoP (w:World) (X:List Int) (M:Nat->Nd) (o:qR) (ks:List Nat) (C:List (Int×Int)->Int->World->Prop) (e:Ending) (w':World):Prop:=
 ∃r Z,e= .returned (.agg Z)/\vX w.heap.size w' r Z/\
  ((ay [] w w'/\r.E≠0/\∃h qs,AY X M o h qs/\r=fH h.E)\/
  (ay ks w w'/\∃h qs x,AY X M o h qs/\h.E=0/\C (cA X (az X qs) 3128) x w'/\((x=0/\r=h)\/(x≠0/\r=fH x))))
theorem AY.E_zero{r:kX}{qs:List (Int×Int)}(h:AY X M o r qs)(z:r.E=0):(xM M o).2.E=0/\aaE o r (xM M o).2/\JQ X qs (xM M o).1:=by
 rcases h with ⟨y,-⟩|⟨y,-⟩|⟨-,G,U,J⟩
 ·omega
 ·exact absurd z y
 ·exact⟨G,U,J⟩
theorem W9{f:Nat}{s:ic}{vp:Value}{ks:List Nat}{C:List (Int×Int)->Int->World->Prop}
  (Dt:GH M o) (hf:W8 w f b) (h:dO w b gn gl gf s) (hX:s.now=X) (hp:∀k:Nat,k<s.now.length->s.refusal (k:Int)=0/\s.load (k:Int)=s.now.getD k 0) (hs:Mb X M) (hT:kI w) (hI:L9 w o vp vq vd) (Kd:∀y∈ks,y<w.heap.size)
  (hC:∀ps x wa wb l,(∀y∈l,w.heap.size<=y)->ay l wa wb->C ps x wa->C ps x wb)
  (aH:∀w1 v g qs V,ay [] w w1->AY X M o V qs->V.E=0->kN w1 v g (cA X (az X qs) 3128)->w.heap.size<=g->Calls Tryz.prog 30 #[.pointer (some ⟨b,0,none⟩),v] w1 λe w2=>∃x,e= .returned (.int .i64 x)/\ay ks w1 w2/\C (cA X (az X qs) 3128) x w2):
  Calls Tryz.prog 12 #[.pointer (some ⟨f,0,none⟩),.agg (Qa o vp vq vd)] w (DoP w X M o ks C):=by
 have xS:=hf.lt;obtain⟨W,hW⟩:∃W,(w.alloc (.cells (Qa o vp vq vd) 37)).alloc (.cells (QU nG (.slice none 0 0) (.slice none 0 0)) 34)=W:=⟨_,rfl⟩;have ez:ay [] w W:=by rw[<-hW];exact((ay.refl _ _).alloc _).alloc _
 have aN:bm W w.heap.size (Qa o vp vq vd) 37 :=by rw[<-hW];exact(bm.new w _ _).alloc _
 have rW:bm W (w.heap.size+1) (QU nG (.slice none 0 0) (.slice none 0 0)) 34 :=by rw[<-hW];exact bm.new2 w _ _ _ _
 have aL:W.heap.size=w.heap.size+2:=by rw[<-hW,cm,cm]
 have HW:=ar hW
 -- what the calls leave
 have Yb:Hid (∀wx l,(∀y∈l,w.heap.size<=y)->ay l W wx->wx.cell? ⟨f,0,none⟩=some (.pointer (some ⟨b,0,none⟩))):=λwx l hl hk=>by
  have h1:bm W f _ _:=hf.keep ez (by simp);have h2:=h1.keep hk (λhm=>by have :=hl f hm;omega);rw[h2.cell];rfl
 have c0:=Yb.out W [] (by simp) (ay.refl _ _);have nJ:=ar (JT (h.keep ez (by simp) (by simp)) hp);rw[hX] at nJ;have Mc:iQ X=X:=by
  apply cr (by rw[fc,hs.len]);intro k h1 h2;have :=pU X k;rw[fc] at h1;rw[aj,aD (by rw[fc];exact h1),eG] at this;rw[this,aB h1,aj,aD h2];rfl
 have aG:=ar Mc;have xI:Hid (∀w2 bs,ay [] W w2->w.heap.size+2<=bs->eF w2 bs bs X []->Calls Tryz.prog 29 #[.agg (ix bs o vp vq vd)] w2 λe w'=>∃fn,e= .returned (.func (.func fn) #[.agg (ix bs o vp vq vd)] #[])/\ay [] w2 w'/\(∀wx,(callFunc fn #[.agg (ix bs o vp vq vd)]).run Tryz.prog wx= .ok (.enter fn #[.agg (ix bs o vp vq vd)]) wx)/\Calls Tryz.prog fn #[.agg (ix bs o vp vq vd)] w' (pL w' bs bs X (AY X M o))):=λw2 bs hk hb sH=>by
  obtain⟨-,T,own,CV⟩:=id hs;have aQ:Da w2 bs bs X [] T own [] M:=⟨sH,by rw[uX];exact CV.nd,⟨sH.raw.lt,sH.raw.lt⟩,λwx hx=>hT.keep ((ez.trans' hk).trans hx λy hy=> .inr (by simp only[aS,aV,bL,or_self] at hy;omega))⟩;refine(Dt w2 bs bs X T own vp vq vd aQ hs.tree ((hI.keep ez).keep hk)).mono ?_;rintro e w' ⟨fn,rfl,h1,ac,h2⟩;exact⟨fn,rfl,h1,ac,h2 w' h1⟩
 have FP:Hid (∀G (bs gp:Nat) qs V,ay [] W G->eF G bs gp X qs->AY X M o V qs->V.E=0->∀wx,ay [] G wx->Calls Tryz.prog 31 #[.pointer (some ⟨bs,0,none⟩)] wx λe w6=>∃a n cap,e= .returned (.slice a n cap)/\w6.cell? ⟨f,0,none⟩=some (.pointer (some ⟨b,0,none⟩))/\
   Hid (Calls Tryz.prog 30 #[.pointer (some ⟨b,0,none⟩),.slice a n cap] w6 λe U=>∃x,e= .returned (.int .i64 x)/\Hid (ay ks G U/\C (cA X (az X qs) 3128) x U))):=λG bs gp qs V hk sH hO h0 wx K3=>by
  refine(Ma (sH.keep K3 (by simp) (by simp))).mono ?_;rintro e w6 ⟨v,g,rfl,hr,hg,jz⟩;obtain⟨a,cap,rfl,-,-⟩:=hr.val;have aw:=K3.trans' jz;refine⟨a,_,cap,rfl,Yb.out w6 [] (by simp) (hk.trans' aw),?_⟩;have h1:=aH w6 _ g qs V (ez.trans' (hk.trans' aw)) hO h0 hr (by have :=K3.size;have :=hk.size;omega);show Calls _ _ _ _ _;refine h1.mono ?_;rintro e U ⟨x,rfl,h2,h3⟩;exact⟨x,rfl,(aw.mono (by simp)).trans' h2,h3⟩
 -- an error, and what is told
 have Ag:Hid (∀G l V qs,ay l W G->(∀y∈l,w.heap.size+2<=y)->AY X M o V qs->V.E≠0->∃z,(storeVar 34 ⟨w.heap.size+1,0,none⟩ (.agg #[.int .i64 V.E,.int .i64 0,.int .i64 0,.int .i64 0,.int .i64 0,.slice none 0 0,.slice none 0 0])).run Tryz.prog G= .ok () z/\(loadVar 34 ⟨w.heap.size+1,0,none⟩).run Tryz.prog z= .ok (.agg #[.int .i64 V.E,.int .i64 0,.int .i64 0,.int .i64 0,.int .i64 0,.slice none 0 0,.slice none 0 0]) z/\
   DoP w X M o ks C (.returned (.agg #[.int .i64 V.E,.int .i64 0,.int .i64 0,.int .i64 0,.int .i64 0,.slice none 0 0,.slice none 0 0])) z):=λG l V qs hk hl hO h0=>by
  obtain⟨z,s1,s2,s3,s4⟩:=xE rW rfl hk (λhm=>by have :=hl _ hm;omega) V.E;refine⟨z,s1,s2,fH V.E,_,rfl,s3 _,.inl ⟨?_,h0,V,qs,hO,rfl⟩⟩;have :=(ez.trans hk (λy hy=> .inr (by have :=hl y hy;omega))).trans s4 (l':=[w.heap.size+1]) (λy hy=> .inr (by rw[au] at hy;omega));exact this
 have aq:Hid (∀G U l V qs x,ay l W G->(∀y∈l,w.heap.size+2<=y)->ay ks G U->AY X M o V qs->V.E=0->C (cA X (az X qs) 3128) x U->x≠0->∃z,(storeVar 34 ⟨w.heap.size+1,0,none⟩ (.agg #[.int .i64 x,.int .i64 0,.int .i64 0,.int .i64 0,.int .i64 0,.slice none 0 0,.slice none 0 0])).run Tryz.prog U= .ok () z/\(loadVar 34 ⟨w.heap.size+1,0,none⟩).run Tryz.prog z= .ok (.agg #[.int .i64 x,.int .i64 0,.int .i64 0,.int .i64 0,.int .i64 0,.slice none 0 0,.slice none 0 0]) z/\
   DoP w X M o ks C (.returned (.agg #[.int .i64 x,.int .i64 0,.int .i64 0,.int .i64 0,.int .i64 0,.slice none 0 0,.slice none 0 0])) z):=λG U l V qs x hk hl Av hO h0 hc hx=>by
  have GM:=(rW.keep hk (λhm=>by have :=hl _ hm;omega)).keep Av (λhm=>by have :=Kd _ hm;omega);obtain⟨z,s1,s2,s3,s4⟩:=xE GM rfl (ay.refl [] U) (by simp) x;refine⟨z,s1,s2,fH x,_,rfl,s3 _,.inr ⟨?_,V,qs,x,hO,h0,hC _ _ U z _ (by intro y hy;rw[au] at hy;omega) s4 hc,.inr ⟨hx,rfl⟩⟩⟩;have h1:ay [] w G:=ez.trans hk (λy hy=> .inr (by have :=hl y hy;omega));exact((h1.mono (by simp)).trans' Av).trans s4 (λy hy=> .inr (by rw[au] at hy;omega))
 have GW:Hid (∀w4 G U l V Z qs,ay l W w4->(∀y∈l,w.heap.size+2<=y)->vX (w.heap.size+2) w4 V Z->ay [w4.heap.size] w4 G->bm G w4.heap.size Z 34->ay ks G U->AY X M o V qs->V.E=0->C (cA X (az X qs) 3128) 0 U->
   (loadVar 34 ⟨w4.heap.size,0,none⟩).run Tryz.prog U= .ok (.agg Z) U/\∃z,(storeVar 34 ⟨w.heap.size+1,0,none⟩ (.agg Z)).run Tryz.prog U= .ok () z/\(loadVar 34 ⟨w.heap.size+1,0,none⟩).run Tryz.prog z= .ok (.agg Z) z/\DoP w X M o ks C (.returned (.agg Z)) z):=λw4 G U l V Z qs hk hl hr sw pE Av hO h0 hc=>by
  have XL:=hk.size;have aT:vX (w.heap.size+2) G V Z:=by
   obtain⟨ad,ae,e,⟨g1,a1,a2⟩,g2,b1,b2⟩:=hr;refine⟨ad,ae,e,⟨g1,?_,a2⟩,g2,?_,b2⟩
   ·by_cases hD:V.D=[]
    ·rw[hD] at a1 ⊢
     obtain⟨x1,x2,x3,x4,x5,-⟩:=a1;exact⟨x1,x2,x3,x4,x5,λh=>absurd rfl h⟩
    ·exact a1.keep sw (λhm=>by
      rw[au] at hm;obtain⟨_,_,_,_,_,x6⟩:=a1;have :=(x6 (by intro e;apply hD;simpa[d8s] using e)).1;omega)
   ·refine b1.keep sw (λhn hm=> ?_)
    rw[au] at hm;obtain⟨_,_,_,_,_,x6⟩:=b1;have :=(x6 hn).1;omega
  have GM:=pE.keep Av (λhm=>by have :=Kd _ hm;omega);have ax:=aT.keep Av (λx hx=>by have :=Kd x hx;omega);have aR:=((rW.keep hk (λhm=>by have :=hl _ hm;omega)).keep sw (by rw[au];omega)).keep Av (λhm=>by have :=Kd _ hm;omega);obtain⟨z,s1,s2,s3⟩:=CW aR rfl ax.at;have aI:=ax.keep s3 (λx hx=>by rw[au] at hx;omega);refine⟨AX GM ax.at,z,s1,AX s2 aI.at,V,Z,rfl,aI.mono (by omega),.inr ⟨?_,V,qs,0,hO,h0,hC _ _ U z _ (by intro y hy;rw[au] at hy;omega) s3 hc,.inl ⟨rfl,rfl⟩⟩⟩;have h1:ay [] w G:=(ez.trans hk (λy hy=> .inr (by have :=hl y hy;omega))).trans sw (λy hy=> .inr (by rw[au] at hy;omega));exact((h1.mono (by simp)).trans' Av).trans s3 (λy hy=> .inr (by rw[au] at hy;omega))
 have GS:Hid (∀wx,ay [] W wx->(loadVar 37 ⟨w.heap.size,0,none⟩).run Tryz.prog wx= .ok (.agg #[.int .i64 o.K,vp,vq,.int .i64 o.O,.int .i64 o.N,vd]) wx):=λwx hk=>Uc (aN.keep hk (by simp))
 have vC:=ar aL;have UB:=GA;clear Dt h hX hp hs hT hI Kd hC aH hf xS ez aN rW aL Mc;rw[GI] at hW UB;generalize DoP w X M o ks C=Q at *;unfold Qa at hW;show Calls _ _ #[.pointer (some ⟨f,0,none⟩),.agg #[.int .i64 o.K,vp,vq,.int .i64 o.O,.int .i64 o.N,vd]] w Q;go_enter Tryz.func12,Tryz.ntmps12;go_wp2_with fail;refine nJ.out.mono ?_;rintro e w1 ⟨v,g,rfl,hr,hg,dc⟩;have HN:=pW hr;rw[aG.out] at HN;have HN:=ar HN;have iH:=ar dc;clear hr hg dc nJ aG hW c0;go_wp2_with fail;refine HN.out.mono ?_;rintro e w2 ⟨bs,rfl,tV,sH,aJ⟩;have mY:=iH.out.trans' aJ;have ah:w.heap.size+2<=bs:=by have :=iH.out.size;have :=vC.out;omega
 have HD:=ar (xI.out w2 bs mY ah sH);have aA:=ar (GS.out w2 mY);have fj:=ar mY;have nY:Hid (w.heap.size+2<=bs/\bs<w2.heap.size):=⟨ah,sH.raw.lt⟩;clear tV sH aJ mY ah HN iH GS xI;obtain⟨J,hJ⟩:∃J,ix bs o vp vq vd=J:=⟨_,rfl⟩;have aM:=ar hJ;unfold ix at hJ;rw[aM.out] at HD;go_wp2_with(with_reducible refine gL 37 aA.out ?_);refine HD.out.mono ?_;rintro e w3 ⟨fn,rfl,ag,ac,aF⟩;have aO:=ar (ac w3);have av:=ar aF;have lS:=ar (fj.out.trans' ag);have qb:Hid (bs<w3.heap.size/\W.heap.size<=bs):=by have :=nY.out;have :=vC.out;have :=ag.size;exact⟨by omega,by omega⟩
 clear ag aF ac HD fj aA nY hJ aM;go_wp2_with fail;rw[aO.out,Oper.upon_enter];refine av.out.mono ?_;rintro e w4 ⟨r,Z,qs,gp,rfl,aa,aC,Ud,ak,Vw,M0⟩;have DY:ay [] W w4:=lS.out.trans ak λy hy=> .inr (by simp only[aS,aV,bL,or_self] at hy;have :=qb.out;omega)
 obtain⟨G,p1,p2,p3⟩:=CW (bm.new w4 #[.int .i64 0,.int .i64 0,.int .i64 0,.int .i64 0,.int .i64 0,.slice none 0 0,.slice none 0 0] 34) rfl aa.at;have sw:ay [w4.heap.size] w4 G:=((ay.refl _ _).alloc _).trans' p3;have Qk:ay [] W G:=DY.trans sw λy hy=> .inr (by rw[au] at hy;have :=DY.size;omega)
 have ap:eF G bs gp X qs:=Ud.keep sw (by rw[au];have :=Ud.raw.lt;omega) (by rw[au];have :=Ud.raw.lt;omega);have c5:G.cell? ⟨w4.heap.size,0,none⟩=some (.int .i64 r.E):=by
  obtain⟨_,_,rfl,-⟩:=aa;rw[p2.cell];rfl
 have zz:=ar p1;have af:vX (w.heap.size+2) w4 r Z:=aa.mono (by have :=lS.out.size;have :=vC.out;omega);by_cases hE:r.E=0
 ·have Wz:=ar (FP.out G bs gp qs r Qk ap M0 hE)
  have HX:Hid (∀U x,ay ks G U->C (cA X (az X qs) 3128) x U->x≠0->∃z,(storeVar 34 ⟨w.heap.size+1,0,none⟩ (.agg #[.int .i64 x,.int .i64 0,.int .i64 0,.int .i64 0,.int .i64 0,.slice none 0 0,.slice none 0 0])).run Tryz.prog U= .ok () z/\(loadVar 34 ⟨w.heap.size+1,0,none⟩).run Tryz.prog z= .ok (.agg #[.int .i64 x,.int .i64 0,.int .i64 0,.int .i64 0,.int .i64 0,.slice none 0 0,.slice none 0 0]) z/\
   Q (.returned (.agg #[.int .i64 x,.int .i64 0,.int .i64 0,.int .i64 0,.int .i64 0,.slice none 0 0,.slice none 0 0])) z):=λU x h1 h2 h3=>aq.out G U [] r qs x Qk (by simp) h1 M0 hE h2 h3
  have ai:Hid (∀U,ay ks G U->C (cA X (az X qs) 3128) 0 U->(loadVar 34 ⟨w4.heap.size,0,none⟩).run Tryz.prog U= .ok (.agg Z) U/\∃z,(storeVar 34 ⟨w.heap.size+1,0,none⟩ (.agg Z)).run Tryz.prog U= .ok () z/\(loadVar 34 ⟨w.heap.size+1,0,none⟩).run Tryz.prog z= .ok (.agg Z) z/\Q (.returned (.agg Z)) z):=λU h1 h2=>GW.out w4 G U [] r Z qs DY (by simp) af sw p2 h1 M0 hE h2
  have c0:=Yb.out G [] (by simp) Qk;rw[hE] at c5;generalize C (cA X (az X qs) 3128)=CC at *;clear FP Ag aq GW aa af aC Ud ak Vw M0 DY p1 p2 p3 sw Qk ap av lS qb hE;go_wp2_with(with_reducible refine gS 34 zz.out ?_)
  go_upto_region 9 with fail
  go_cut [10] (λVa wx=>∃x:Int,Va= .int .i64 x/\Hid (ay ks G wx/\CC x wx))
  case first=>
   go_region_with (first|(go_at_call 31;refine(Wz.out _ (by first|exact ay.refl _ _|exact(ay.refl _ _).drew)).mono ?_;rintro e w6 ⟨a,n,cap,rfl,c6,XK⟩)|(go_at_call 30;refine XK.out.mono ?_;rintro e U ⟨x,rfl,aP⟩))
   all_goals go_wp2_with fail
   all_goals go_meet
   all_goals exact⟨_,rfl,aP⟩
  case rest=>
   obtain⟨x,rfl,HC⟩:=hcut;obtain⟨Av,KJ⟩:=HC.out;by_cases hx:x=0
   ·subst hx
    obtain⟨l1,z,s1,s2,s3⟩:=ai.out wc Av KJ;have qQ:=ar l1;have HS:=ar s1;have HL:=ar s2;have HF:=ar s3;clear Wz HX ai HC Av KJ l1 s1 s2 s3 zz c0 c5;go_wp2_with(first|(with_reducible refine gL 34 qQ.out ?_)|(with_reducible refine gS 34 HS.out ?_));exact aK (dP Tryz.results12 rfl HL.out) rfl HF.out
   ·obtain⟨z,s1,s2,s3⟩:=HX.out wc x Av KJ hx
    have b1:(x != 0)=true:=by simpa using hx
    have HS:=ar s1;have HL:=ar s2;have HF:=ar s3;clear Wz HX ai HC Av KJ s1 s2 s3 zz c0 c5 hx;go_wp2_with(with_reducible refine gS 34 HS.out ?_);exact aK (dP Tryz.results12 rfl HL.out) rfl HF.out
 ·obtain⟨z,s1,s2,s3⟩:=Ag.out G [] r qs Qk (by simp) M0 hE
  have b1:(r.E != 0)=true:=by simpa using hE
  have HS:=ar s1;have HL:=ar s2;have HF:=ar s3;clear FP Ag aq GW aa af aC Ud ak Vw M0 DY p1 p2 p3 sw Qk ap av lS qb hE s1 s2 s3;go_wp2_with(first|(with_reducible refine gS 34 zz.out ?_)|(with_reducible refine gS 34 HS.out ?_));exact aK (dP Tryz.results12 rfl HL.out) rfl HF.out
def nF (n:Nat):List Bool:=List.replicate n false
def mF (n q:Nat):List Bool:=(List.range n).map λj=>decide (j<8*q)
theorem aaK (n k:Nat):(nF n).set k false=nF n:=by
 unfold nF;apply cr (by simp);intro j h y;rw[List.getElem_set];split<;>simp
theorem Xa (n:Nat):mF n 0=nF n:=by
 unfold nF mF;apply cr (by simp);intro j h y;simp
theorem aaL (n q:Nat):(mF n q).length=n:=by simp[mF]
theorem Xb (n q:Nat):vg (mF n q) q 8=mF n (q+1):=by
 unfold vg mF;apply cr (by simp);intro j y z;simp only[List.getElem_mapIdx,fx,List.getElem_range];by_cases h:q*8<=j/\j<q*8+8
 ·rw[aB h]
  exact(bj (by omega)).symm
 ·rw[aA h]
  exact decide_eq_decide.2 (by omega)
theorem aaM{q j:Nat}(h:j<n)(y:j<8*q):(mF n q).getD j false=true:=by
 unfold mF;rw[aj,bD,b7 h];exact bj y
def sF (N:Nat) (xs ws:List Int) (d:Int) (k:Nat):ic:={ now:=mix ws xs k,last:=xs,fl:=nF N,deeds:=d+(k:Int),fused:=false,left:=0 }
def AZ (N:Nat) (xs ws:List Int) (d:Int) (q:Nat):ic:={ now:=ws,last:=xs,fl:=mF N q,deeds:=d+(N:Int)+(q:Int),fused:=false,left:=0 }
section
variable {N:Nat} {xs ws:List Int} {d:Int} {k q:Nat}
theorem Ql (y:N=3128)(z:xs.length=N):sF N xs ws d 0=calm xs d:=by
 have h:nF N=List.replicate ((xs.length+7)/8*8) false:=by
  unfold nF
  congr 1
  omega
 unfold sF calm;rw[Q4,h]
 congr 1
 exact Int.add_zero d
theorem zR (z:xs.length=N)(G:ws.length=N)(J:k<N):(sF N xs ws d k).refusal (k:Int)=0:=by
 unfold ic.refusal;have y:¬(sF N xs ws d k).gone=true:=Bool.false_ne_true;have h:(sF N xs ws d k).now.length=N:=by
  show(mix ws xs k).length=N;rw[UU _ _ _ (by omega),z]
 rw[aA y,h,aA (by omega)]
theorem Qm (J:xs.length=N)(y:ws.length=N)(G:k<N):(sF N xs ws d k).store (k:Int) (ws.getD k 0)=sF N xs ws d (k+1):=by
 unfold ic.store;rw[aB (zR J y G),aH];have z:(sF N xs ws d k).now.set k (ws.getD k 0)=mix ws xs (k+1):=(Q5 ws xs k (by omega) (by omega)).symm;have h:(sF N xs ws d k).fl.set k false=nF N:=aaK N k;rw[z,h];show({ now:=mix ws xs (k+1),last:=xs,fl:=nF N,deeds:=d+(k:Int)+1,fused:=false,left:=0 }:ic)={ now:=mix ws xs (k+1),last:=xs,fl:=nF N,deeds:=d+((k+1:Nat):Int),fused:=false,left:=0 }
 congr 1
 omega
theorem Ue (y:xs.length=N)(h:ws.length=N):sF N xs ws d N=AZ N xs ws d 0:=by
 unfold sF AZ;rw[UT _ _ _ (by omega) (by omega),Xa]
 congr 1
 omega
theorem CY (h:ws.length=N)(G:8*q<N):(AZ N xs ws d q).refusal ((8*q:Nat):Int)=0:=by
 unfold ic.refusal;have y:¬(AZ N xs ws d q).gone=true:=Bool.false_ne_true;have z:(AZ N xs ws d q).now.length=N:=h;rw[aA y,z,aA (by omega)]
theorem Uf (z:ws.length=N)(h:8*q<N):(AZ N xs ws d q).flush ((8*q:Nat):Int)=AZ N xs ws d (q+1):=by
 unfold ic.flush;have y:vg (AZ N xs ws d q).fl (((8*q:Nat):Int).toNat/8) 8=mF N (q+1):=by
  rw[aH,show 8*q/8=q by omega];exact Xb N q
 rw[aB (CY z h),y];show({ now:=ws,last:=xs,fl:=mF N (q+1),deeds:=d+(N:Int)+(q:Int)+1,fused:=false,left:=0 }:ic)={ now:=ws,last:=xs,fl:=mF N (q+1),deeds:=d+(N:Int)+((q+1:Nat):Int),fused:=false,left:=0 }
 congr 1
 omega
theorem Qn (hN:N=3128)(hq:q=391)(Z:xs.length=N)(y:ws.length=N):(AZ N xs ws d q).fence=calm ws (d+3520):=by
 unfold ic.fence;have J:¬(AZ N xs ws d q).gone=true:=Bool.false_ne_true;have U:fV (AZ N xs ws d q) (AZ N xs ws d q).now.length=ws:=by
  have z:=za (AZ N xs ws d q) (AZ N xs ws d q).now.length;have h:(AZ N xs ws d q).last.length=N:=Z;apply cr (by rw[z,h,y]);intro j G W;rw[z,h] at G;have hn:(AZ N xs ws d q).now.length=N:=y;simp only[fV,List.getElem_mapIdx];rw[aB ⟨by omega,aaM G (by omega)⟩];show ws.getD j 0=ws[j];rw[aj,aD W];rfl
 have V:(AZ N xs ws d q).fl.length=(ws.length+7)/8*8:=by
  show(mF N q).length=_;rw[aaL];omega
 rw[aA J,U,V];show({ now:=ws,last:=ws,fl:=List.replicate ((ws.length+7)/8*8) false,deeds:=d+(N:Int)+(q:Int)+1,fused:=false,left:=0 }:ic)={ now:=ws,last:=ws,fl:=List.replicate ((ws.length+7)/8*8) false,deeds:=d+3520,fused:=false,left:=0 }
 congr 1
 omega
theorem Ug (h:0<=d)(z:d<1000000000000000000)(y:k<=3128):(sF N xs ws d k).fit:=by
 unfold ic.fit sF
 dsimp only
 omega
theorem Nt (y:N=3128)(h:0<=d)(G:d<1000000000000000000)(z:q<=3128):(AZ N xs ws d q).fit:=by
 unfold ic.fit AZ
 dsimp only
 omega
end
theorem Md{xs ws:List Int}{d:Int}(h:dO w b gn gl gf (calm xs d))(h0:0<=d)(hd:d<100000000000000000)(ai:xs.length=3128)(ae:ws.length=3128){v:Value}{g:Nat}(hr:Reads w v g (aR ws))(hg:g∉[b,gn,gl,gf]):
  Calls Tryz.prog 50 #[.pointer (some ⟨b,0,none⟩),v] w λe w'=>e= .returned (.int .i64 0)/\dO w' b gn gl gf (calm ws (d+3520))/\ay [b,gn,gl,gf] w w':=by
 obtain⟨N,hN⟩:∃N:Nat,N=3128:=⟨_,rfl⟩;have hx:xs.length=N:=by omega
 have hw:ws.length=N:=by omega
 obtain⟨a,cap,rfl,aj,ah,HC⟩:=fM hr;obtain⟨se,off,rfl,-⟩:=HC.out 0 (by omega);have SC:Hid (∀y,ay [b,gn,gl,gf] w y->∀k,k<3128->y.cell? ⟨g,off+k,none⟩=some (.int .u64 (ws.getD k 0))):=λy hk k ac=>by
  obtain⟨-,RO,e1,e2⟩:=HC.out k (by omega);cases e1;rw[aL (w:=w) (a:=⟨g,off+k,none⟩) (hk.block g se hg)];exact e2
 rw[ae] at aj ⊢;unfold maxLen at ah;have H0:Hid (dO w b gn gl gf (sF N xs ws d 0)):=by
  show dO _ _ _ _ _ _;rw[Ql hN hx];exact h
 have aa:Hid (∀y (k:Nat),k<3128->dO y b gn gl gf (sF N xs ws d k)->Calls Tryz.prog 21 #[.pointer (some ⟨b,0,none⟩),.int .i64 (k:Int),.int .u64 (ws.getD k 0)] y λe w'=>e= .returned (.int .i64 0)/\dO w' b gn gl gf (sF N xs ws d (k+1))/\ay [b,gn,gl,gf] y w'):=λy k hk U=>by
  have :=G7 U (Ug h0 (by omega) (by omega)) (k:Int) (ws.getD k 0);rw[zR hx hw (by omega),Qm hx hw (by omega)] at this;exact this
 have J:Hid (∀y (q:Nat),q<391->dO y b gn gl gf (AZ N xs ws d q)->Calls Tryz.prog 100 #[.pointer (some ⟨b,0,none⟩),.int .i64 ((8*q:Nat):Int)] y λe w'=>e= .returned (.int .i64 0)/\dO w' b gn gl gf (AZ N xs ws d (q+1))/\ay [b,gn,gl,gf] y w'):=λy q hq U=>by
  have :=G8 U (Nt hN h0 (by omega) (by omega)) ((8*q:Nat):Int);rw[CY hw (by omega),Uf hw (by omega)] at this;exact this
 have V6:Hid (∀y,dO y b gn gl gf (AZ N xs ws d 391)->Calls Tryz.prog 101 #[.pointer (some ⟨b,0,none⟩)] y λe w'=>e= .returned (.int .i64 0)/\dO w' b gn gl gf (calm ws (d+3520))/\ay [b,gn,gl,gf] y w'):=λy U=>by
  have :=Ha U (Nt hN h0 (by omega) (by omega));rw[Qn hN rfl hx hw] at this;exact this
 have mC:Hid (∀y,dO y b gn gl gf (sF N xs ws d 3128)->dO y b gn gl gf (AZ N xs ws d 0)):=λy U=>by
  have :=Ue (d:=d) hx hw;rw[hN] at this U ⊢;rw[this] at U;exact U
 clear h hx hw ai ae hr HC se hg h0 hd hN;go_enter Tryz.func50,Tryz.ntmps50;go_wp2_with fail;go_loopg [5,6,7,12] 3128 (λgh s5 s6 s7 s12 y=>∃k:Nat,k+gh=3128/\s12= .int .i64 (k:Int)/\
  Hid (dO y b gn gl gf (sF N xs ws d k)/\ay [b,gn,gl,gf] w y))
 case atStart=>exact⟨0,by omega,rfl,H0.out,ay.refl _ _⟩
 case round=>
  obtain⟨k,hk,rfl,Z⟩:=hrel;cases gk with
  |zero=>
   obtain rfl:k=3128:=by omega
   clear aa SC H0;go_wp2_with fail;go_loopg [8,9] 391 (λgh s8 s9 y=>∃q:Nat,q+gh=391/\s8= .int .i64 ((8*q:Nat):Int)/\
    Hid (dO y b gn gl gf (AZ N xs ws d q)/\ay [b,gn,gl,gf] w y))
   case atStart=>exact⟨0,by omega,rfl,mC.out _ Z.out.1,Z.out.2⟩
   case round=>
    obtain⟨q,hq,rfl,HJ⟩:=hrel;cases gk with
    |zero=>
     obtain rfl:q=391:=by omega
     have VS:=ar (V6.out _ HJ.out.1);have G:=ar HJ.out.2;clear J V6 mC Z HJ;go_wp2_with fail;refine VS.out.mono ?_;rintro e w3 ⟨rfl,W,V⟩;have HF:Hid (dO w3 b gn gl gf (calm ws (d+3520))/\ay [b,gn,gl,gf] w w3):=⟨W,G.out.trans' V⟩;clear W V VS G;go_wp2_with fail;go_ret;exact⟨rfl,HF.out⟩
    |succ gg=>
     have ag:((8*q:Nat):Int)<3128:=by omega
     have af:=ar (J.out _ q (by omega) HJ.out.1);have G:=ar HJ.out.2;have ak:q<391:=by omega
     have RV:((8*q:Nat):Int)+8=((8*(q+1):Nat):Int):=by omega
     have Vp:(0:Int)<=((8*q:Nat):Int):=by omega
     generalize hz:((8*q:Nat):Int)=z at *;clear J Z HJ V6 mC;go_wp2_with fail;refine af.out.mono ?_;rintro e w3 ⟨rfl,W,V⟩;have zV:=ar W;have lS:=ar (G.out.trans' V);clear W V af G;go_wp2_with fail;go_roundg gg;case measure=>omega
     case rel=>exact⟨q+1,by omega,by rw[<-RV];go_num,zV.out,lS.out⟩
  |succ gg=>
   have ag:(k:Int)<3128:=by omega
   have ac:k<3128:=by omega
   have hc:=SC.out _ Z.out.2 k ac;have HS:=ar (aa.out _ k ac Z.out.1);have XR:=ar Z.out.2;generalize ws.getD k 0=x at *;clear aa J V6 mC SC Z;go_wp2_with fail;refine HS.out.mono ?_;rintro e w3 ⟨rfl,W,V⟩;have zV:=ar W;have lS:=ar (XR.out.trans' V);clear W V HS XR;go_wp2_with fail;go_roundg gg;case measure=>omega
   case rel=>exact⟨k+1,by omega,by go_num,zV.out,lS.out⟩
theorem Me (w:World):(zeroValue 93).run Tryz.prog w= .ok (.agg (aR (iQ [])).toArray) w:=by kernel_rfl
theorem JW (h:bm w g (aR X).toArray 93)(lx:X.length=3128)(Y:List Int)(y:Y.length=3128):
  ∃w',(storeVar 93 ⟨g,0,none⟩ (.agg (aR Y).toArray)).run Tryz.prog w= .ok () w'/\bm w' g (aR Y).toArray 93/\ay [g] w w':=by
 refine⟨_,ig g 0 (aR Y) _ (by rw[bc,y];exact qY) h (by rw[bU,bc,bc];omega) (eu Y),?_,(ay.refl _ _).setRow (by simp) _⟩;have e:((aR X).toArray.toList.take 0++aR Y++(aR X).toArray.toList.drop (0+(aR Y).length)).toArray=(aR Y).toArray:=by
  rw[eX,bW,dm (by rw[bc,bc];omega),bq]
 rw[e];exact jK h
theorem Qo (h:bm w g (aR Y).toArray T)(y:Y.length=n)(z:n<=maxLen):Reads w (.slice (some ⟨g,0,none⟩) n n) g (aR Y):=by
 refine⟨some ⟨g,0,none⟩,n,by rw[bc,y],by rw[bc,y];exact aG _,z,λ_=>⟨h.lt,0,rfl,λj G=> ?_⟩⟩;rw[h.cell,aX];simp
theorem JX{U:Nat}{us:List (Int×Int)}(h:iW w b U B X us):
  Calls Tryz.prog 51 #[.pointer (some ⟨b,0,none⟩)] w (gC w X):=by
 obtain⟨lb,lx,vp,J,V,h3⟩:=h;have W:=ar (Bg J lb lx);have hz:=Me;obtain⟨w2,z,G,y⟩:=JW (bm.new w (aR (iQ [])).toArray 93) (fc []) X lx;have Uv:=ar z;have HM:Hid (gC w X (.returned (.slice (some ⟨w.heap.size,0,none⟩) 3128 3128)) w2):=
  ⟨_,w.heap.size,rfl,Qo G lx (by simp[maxLen]),aG _,((ay.refl [] w).alloc _).trans y (by simp)⟩
 clear J V h3 z G y lb lx;generalize (aR (iQ [])).toArray=Z at *;generalize (aR X).toArray=Y at *;go_enter Tryz.func51,Tryz.ntmps51;go_wp2_with(first|(with_reducible refine gL 93 W.out ?_)|(with_reducible refine gS 93 Uv.out ?_));go_ret;exact HM.out
theorem Mf{ps:List (Int×Int)}(h:eF w b y B ps):
  Calls Tryz.prog 51 #[.pointer (some ⟨b,0,none⟩)] w (gC w (az B ps)):=JX h.raw
theorem Uh (F K:Int):aU (QV F K) (.slice none 0 0)= #[.int .i64 F,.int .i64 K,.int .i64 1,.int .i64 0,.int .i64 0,.int .i64 0,.int .i64 0,.int .i64 0,.int .i64 0,.int .i64 0,.int .i64 0,.int .i64 0,.int .i64 0,.int .i64 0,.int .i64 0,.int .i64 0,.int .i64 0,.slice none 0 0]:=rfl
theorem CZ:aU cB (.slice none 0 0)= #[.int .i64 0,.int .i64 0,.int .i64 0,.int .i64 0,.int .i64 0,.int .i64 0,.int .i64 0,.int .i64 0,.int .i64 0,.int .i64 0,.int .i64 0,.int .i64 0,.int .i64 0,.int .i64 0,.int .i64 0,.int .i64 0,.int .i64 0,.slice none 0 0]:=rfl
theorem Ui{U:World}{J:Nat}{R:kX->List (Int×Int)->Prop}{z:Array Value}{e:Ending}(G:b<w.heap.size/\J<w.heap.size)(ez:ay [] w W)(aa:W.heap.size=w.heap.size+2)(rW:bm W (w.heap.size+1) z 34)(hc:z.size=7)(hp:pL W b J B R e U):
  ∃Z h,e= .returned (.agg Z)/\(storeVar 34 ⟨w.heap.size+1,0,none⟩ (.agg Z)).run Tryz.prog U= .ok () h/\(loadVar 34 ⟨w.heap.size+1,0,none⟩).run Tryz.prog h= .ok (.agg Z) h/\pL w b J B R (.returned (.agg Z)) h:=by
 obtain⟨r,Z,qs,lv,rfl,h1,h2,h3,V,h5,h6⟩:=hp;obtain⟨h,s1,s2,s3⟩:=CW (rW.keep V (qL G (by omega))) hc h1.at;have hr:=h1.keep s3 (λx hx=>by rw[au] at hx;omega);have hs:=s3.size;refine⟨Z,h,rfl,s1,AX s2 hr.at,r,Z,qs,lv,rfl,hr.mono (by omega),by omega,h3.keep s3 (by rw[au];omega) (by rw[au];omega),((ez.mono (by simp)).trans' V).trans s3 (λy hy=>by rw[au] at hy;omega),h5,h6⟩
theorem Qp{gp:Nat}{T:List (bM×Value)}(h:Da w b gp B [] T own [] M)(hT:eb M){o:qR}{vp vq vd:Value}{g:Nat}(hP:jQ w vp g o.P)(hs:∀s∈o.P,s.size<=9223372036854775807)(hK:o.K=0\/o.K=1):
  Calls Tryz.prog 102 #[.agg (ix b o vp vq vd),.int .i64 (1+o.K)] w (pL w b gp B (AY B M o)):=by
 obtain⟨W,hW,ez,Ke,rW,aD⟩:=Ns w (ix b o vp vq vd) (QU nG (.slice none 0 0) (.slice none 0 0));have aa:=ar (Qi (h.keep0 ez) hT o vp vq vd (hP.keep ez (by simp)) hs);have Z:=h.lt;have Rt:=ar Z;have fS:=ar ez;have vC:=ar aD;have L6:Hid (∀z,ay [b,gp] W z->(loadVar 79 ⟨w.heap.size,0,none⟩).run Tryz.prog z= .ok (.agg (ix b o vp vq vd)) z):=λz hk=>xC (Ke.keep hk (qL Z (by omega)))
 have ae:Hid (∀z,ay [b,gp] W z->z.cell? ⟨w.heap.size,0,none⟩=some (.pointer (some ⟨b,0,none⟩))/\z.cell? ⟨w.heap.size,2,none⟩=some vp):=λz hk=>by
  have h1:=Ke.keep hk (qL Z (by omega));exact⟨by rw[h1.cell];rfl,by rw[h1.cell];rfl⟩
 -- an error
 have Ag:Hid (∀r,r≠0->(xM M o).2=fH r->∀w1,ay [] W w1->∃G,(storeVar 34 ⟨w.heap.size+1,0,none⟩ (.agg #[.int .i64 r,.int .i64 0,.int .i64 0,.int .i64 0,.int .i64 0,.slice none 0 0,.slice none 0 0])).run Tryz.prog w1= .ok () G/\(loadVar 34 ⟨w.heap.size+1,0,none⟩).run Tryz.prog G= .ok (.agg #[.int .i64 r,.int .i64 0,.int .i64 0,.int .i64 0,.int .i64 0,.slice none 0 0,.slice none 0 0]) G/\pL w b gp B (AY B M o) (.returned (.agg #[.int .i64 r,.int .i64 0,.int .i64 0,.int .i64 0,.int .i64 0,.slice none 0 0,.slice none 0 0])) G):=λr U hd w1 hk=>by
  obtain⟨G,s1,s2,s3,s4⟩:=xE rW rfl hk (by simp) r;exact⟨G,s1,s2,pL.none h ((ez.trans' hk).trans s4 (by intro y hy;rw[au] at hy;omega)) s3 (.inr (.inl ⟨U,hd⟩))⟩
 have ak:Hid (sD M o.P≠0->(xM M o).2=fH (sD M o.P)):=Qg hK;have UE:Hid (∀z,ay [] W z->Calls Tryz.prog 92 #[.pointer (some ⟨b,0,none⟩)] z λe w'=>e= .returned (.int .i64 ((az B []).getD 1 0))/\z=w'):=λz hk=>PR ((h.keep0 (ez.trans' hk)).shS)
 -- New: nothing is free, or it is made
 have Mg:Hid (sD M o.P=0->∀z,ay [] W z->Calls Tryz.prog 144 #[.pointer (some ⟨b,0,none⟩),.agg (aU (QV ((az B []).getD 1 0) (1+o.K)) (.slice none 0 0))] z λe V=>∃i r,e= .returned (.tuple #[.int .i64 i,.int .i64 r])/\ay [b,gp] W V/\ay [b,gp] z V/\
   ((r≠0/\∃G,(storeVar 34 ⟨w.heap.size+1,0,none⟩ (.agg #[.int .i64 r,.int .i64 0,.int .i64 0,.int .i64 0,.int .i64 0,.slice none 0 0,.slice none 0 0])).run Tryz.prog V= .ok () G/\(loadVar 34 ⟨w.heap.size+1,0,none⟩).run Tryz.prog G= .ok (.agg #[.int .i64 r,.int .i64 0,.int .i64 0,.int .i64 0,.int .i64 0,.slice none 0 0,.slice none 0 0]) G/\pL w b gp B (AY B M o) (.returned (.agg #[.int .i64 r,.int .i64 0,.int .i64 0,.int .i64 0,.int .i64 0,.slice none 0 0,.slice none 0 0])) G)\/
   (r=0/\Calls Tryz.prog 116 #[.agg (ix b o vp vq vd),.agg (fZ (dh M o.P).1 (ct o.P) false 0),.int .i64 i] V λe w3=>∃x G,e= .returned (.int .i64 x)/\(storeVar 34 ⟨w.heap.size+1,0,none⟩ (.agg #[.int .i64 x,.int .i64 i,.int .i64 0,.int .i64 0,.int .i64 0,.slice none 0 0,.slice none 0 0])).run Tryz.prog w3= .ok () G/\(loadVar 34 ⟨w.heap.size+1,0,none⟩).run Tryz.prog G= .ok (.agg #[.int .i64 x,.int .i64 i,.int .i64 0,.int .i64 0,.int .i64 0,.slice none 0 0,.slice none 0 0]) G/\pL w b gp B (AY B M o) (.returned (.agg #[.int .i64 x,.int .i64 i,.int .i64 0,.int .i64 0,.int .i64 0,.slice none 0 0,.slice none 0 0])) G))):=λhv z hk=>by
  have ac:=(h.keep0 (ez.trans' hk));have aH:=h.nd.st.sup.2.1;refine(Pf ac.sh ac.nd.st.w64 ac.tab ac.lt.2 (by simp) (QV ((az B []).getD 1 0) (1+o.K)) (.slice none 0 0) 0 rfl (bz.nil _ _) (λk hk=>by simp[QV] at hk) (λh=>absurd rfl h)).mono ?_;rintro e V ⟨i,r,qs,lv,rfl,h1,h2,h3,h4,h5⟩;have uD:ay [b,gp] W V:=(hk.mono (by simp)).trans' h3;have aw:lv=gp\/(W.heap.size<=lv/\lv<V.heap.size):=by have :=hk.size;omega
  refine⟨i,r,rfl,uD,h3,?_⟩;rcases h.nd.made (F:=(az B []).getD 1 0) (K:=1+o.K) aH (by omega) h5 with ⟨rfl,hq,uP⟩|⟨rfl,j,rfl,hj,WK,zi,aC,uP⟩
  ·left
   obtain⟨G,s1,s2,s3,s4⟩:=xE rW rfl uD (qL Z (by omega)) 7;refine⟨by omega,G,s1,s2,pL.some Z ez (by omega) (Rq:=λr qs=>AY B M o (fH 7) qs) (m:=700) ⟨7,qs,lv,rfl,aw,h2,uD,h4,.inr (.inl ⟨by show(7:Int)≠0;omega,?_⟩)⟩ (by omega) s4 s3 λqs hq=>hq⟩;rw[Nq hK hv,uP];rfl
  ·right
   refine⟨rfl,?_⟩;obtain⟨T',cD,g1,g2,g3⟩:=id aC;have aI:=(h.keep0 ez).go h2 uD aw g1;obtain⟨v1,v2,v3⟩:=GF hv;have hp:=qD (M:=M) v2;have aG:(dh M o.P).1≠j:=λe=>by
    have :=hp.1;rw[e] at this;omega
   refine(TZ aI (by rw[bW];omega) o vp vq vd (d:=(dh M o.P).1) (by rw[cV _ _ aG];exact hp.1) hp.2.1 false 0 (i:=(j:Int)) (by omega)).mono ?_;rintro e w3 ⟨x,q2,wM,rfl,e1,e2,e3,e4,e5⟩;have aB:ay [b,gp] W w3:=uD.trans e3 λy hy=>by
    simp only[aS,aV,bL] at hy ⊢;omega
   obtain⟨G,s1,s2,s3,s4⟩:=Ub (r:={ nG with N:=(j:Int),E:=x }) rW rfl aB (qL Z (by omega)) rfl rfl rfl;have aL:=h3.size;have aM:=e3.size;refine⟨x,G,rfl,s1,s2,pL.some Z ez (by omega) (Rq:=λ_ q=>AY B M o { nG with N:=(j:Int),E:=x } q) (m:=1400) ⟨x,qs++q2,wM,rfl,by have :=hk.size;omega,by rw[<-bf];exact e2,aB,by rw[aF];omega,?_⟩ (by omega) s4 s3 λ_ hq=>hq⟩;refine Qh hT hK hv hj zi aC uP ?_;have ax:=e5;rw[bo] at ax;exact ax
 have UB:=GA;have aN:=yY;have xf:=eV;clear h hT hP hs ez Ke rW aD Z;unfold Ua at aa;rw[GI] at *;generalize pL w b gp B (AY B M o)=Q at *;generalize sD M o.P=ve at *;generalize (xM M o).2=D2 at *;generalize ap:fZ (dh M o.P).1 (ct o.P) false 0=Zs at *;have GP:=ar ap;generalize (az B []).getD 1 0=tg at *;have e0:fZ 0 ⟨#[]⟩ false 0= #[.int .i64 0,.string ⟨#[]⟩,.bool false,.int .i64 0]:=rfl;rw[e0] at aa;rw[Uh] at Mg;rw[CZ] at xf;generalize hJ:ix b o vp vq vd=J at *;clear hJ e0 ap;generalize 1+o.K=kk at *;have c2:=(ae.out W (ay.refl _ _)).2;have JY:=ar (L6.out W (ay.refl _ _));go_enter Tryz.func102,Tryz.ntmps102;go_wp2_with(with_reducible refine gL 79 JY.out ?_);refine aa.out.mono ?_;rintro e w1 ⟨dc,⟨U,rfl⟩|⟨rfl,rfl⟩⟩
 ·obtain⟨V,p1,p2,p3⟩:=lp (d:=0) (nm:=⟨#[]⟩) (th:=false) (i:=0) (bm.new w1 #[.int .i64 0,.string ⟨#[]⟩,.bool false,.int .i64 0] 159) rfl
  have oF:ay [] w1 V:=((ay.refl [] w1).alloc _).trans p3 (by intro x hx;rw[au] at hx;omega);obtain⟨G,s1,s2,s3⟩:=Ag.out ve U (ak.out U) V (dc.trans' oF);have b1:(ve != 0)=true:=by simpa using U
  have wk:=ar p1;have HS:=ar s1;have HL:=ar s2;have HF:=ar s3;clear hW p1 p2 p3 dc oF s1 s2 s3 U aa Rt fS vC L6 JY ae Ag ak UE Mg c2 GP;unfold fZ at wk;go_wp2_with(first|(with_reducible refine gS 159 wk.out ?_)|(with_reducible refine gS 34 HS.out ?_));exact aK (dP Tryz.results102 rfl HL.out) rfl HF.out
 ·have lO:=ar (Mg.out rfl)
  have aA:bm (w1.alloc (.cells #[.int .i64 0,.string ⟨#[]⟩,.bool false,.int .i64 0] 159)) w1.heap.size #[.int .i64 0,.string ⟨#[]⟩,.bool false,.int .i64 0] 159 :=bm.new w1 _ _;obtain⟨V,p1,p2,p3⟩:=lp (d:=(dh M o.P).1) (nm:=ct o.P) (th:=false) (i:=0) aA rfl;rw[GP.out] at p1 p2;have oF:ay [] w1 V:=((ay.refl [] w1).alloc _).trans p3 (by intro x hx;rw[au] at hx;omega);have uD:=dc.trans' oF;have wk:=ar p1;have Xz:Hid (∀z,ay [b,gp] V z->(loadVar 159 ⟨w1.heap.size,0,none⟩).run Tryz.prog z= .ok (.agg Zs) z):=λz hk=>by
   have h1:=dc.size;have h2:=vC.out;have h3:=Rt.out;have :=qM (d:=(dh M o.P).1) (nm:=ct o.P) (th:=false) (i:=0) (by rw[GP.out];exact p2.keep hk (by simp;omega));rwa[GP.out] at this
  have aq:=ar (UE.out V.drew uD.drew);have R5:=ar (lO.out V.drew uD.drew);have Uj:=(ae.out V.drew (uD.drew.mono (by simp)));obtain⟨c3,-⟩:=Uj;have pM:=ar uD;clear hW p1 p2 p3 aA dc oF uD aa fS Ag ak UE Mg lO c2 GP JY;go_wp2_with(with_reducible refine gS 159 wk.out ?_);refine DZ (l:=[_,_,_,_,_,_,_]) (o:=_) (l2:=[_,_,_,_,_]) (S:=λz=>z=V.drew) (by kernel_rfl) rfl (by kernel_rfl) (by kernel_rfl) (λd _ _ _ _ h=>by cases d<;>exact h) rfl (by kernel_rfl) (by kernel_rfl) ?_;repeat (first
   |((with_reducible show aJ _ _ _ _ (⟨some 25,_,_,_,_,_⟩::_) _);refine aJ.cons (.int .i64 tg) (ba.call rfl 92 #[.pointer (some ⟨b,0,none⟩)] ?he ?h) ?_;(case he=>(intro wz;go_simp));(case h=>(intro wz hz;subst hz;refine aq.out.mono ?_;rintro e w' ⟨rfl,rfl⟩;exact⟨rfl,rfl⟩));simp only[Act.put,ag,ah,ai])
   |(refine aJ.cons ?_ (ba.val rfl ?h) ?_;(case h=>(intro wz hz;subst hz;go_simp;rfl));simp only[Act.put,ag,ah,ai]))
  refine aJ.done λwz hz=> ?_
  subst hz;go_wp2_with fail;refine R5.out.mono ?_;rintro e w3 ⟨i,r,rfl,av,pF,hh⟩;have Yq:ay [b,gp] V w3:=((ay.refl [] V).drew.mono (by simp)).trans' pF;have aj:=ar (Xz.out w3 Yq);have af:=ar (L6.out w3 av);clear av pF Yq Xz L6 R5 aq wk ae Rt vC pM c3;go_wp2_with fail;refine⟨trivial,λz=>z=w3,rfl,?_⟩;repeat (first
   |(refine aJ.cons ?_ (ba.val rfl ?h) ?_;(case h=>(intro wz hz;subst hz;go_simp;rfl));simp only[Act.put,ag,ah,ai]))
  refine aJ.done λwz hz=> ?_
  subst hz;rcases hh with ⟨U,G,s1,s2,s3⟩|⟨rfl,SR⟩
  ·have b1:(r != 0)=true:=by simpa using U
   have HS:=ar s1;have HL:=ar s2;have HF:=ar s3;clear s1 s2 s3 U aj af;go_wp2_with(with_reducible refine gS 34 HS.out ?_);exact aK (dP Tryz.results102 rfl HL.out) rfl HF.out
  ·have HE:=ar SR
   clear SR;go_wp2_with(first|(with_reducible refine gL 79 af.out ?_)|(with_reducible refine gL 159 aj.out ?_));refine HE.out.mono ?_;rintro e w4 ⟨x,G,rfl,s1,s2,s3⟩;have HS:=ar s1;have HL:=ar s2;have HF:=ar s3;clear s1 s2 s3 HE aj af;go_wp2_with(with_reducible refine gS 34 HS.out ?_);exact aK (dP Tryz.results102 rfl HL.out) rfl HF.out
theorem JZ{T:List (bM×Value)}(h:Da w b y B [] T own [] M)(hT:eb M){o:qR}{vp vq vd:Value}{g:Nat}(hP:jQ w vp g o.P)(hs:∀s∈o.P,s.size<=9223372036854775807)(hK:o.K=0):
  Calls Tryz.prog 54 #[.agg (ix b o vp vq vd)] w (pL w b y B (AY B M o)):=by
 obtain⟨W,hW,ez,Ke,rW,U⟩:=Ns w (ix b o vp vq vd) (QU nG (.slice none 0 0) (.slice none 0 0));have hc:=Qp (vq:=vq) (vd:=vd) (h.keep0 ez) hT (hP.keep ez (by simp)) hs (.inl hK);rw[hK] at hc;have HC:=ar hc;have JY:=ar (xC Ke);have Ye:Hid (∀e z,pL W b y B (AY B M o) e z->∃Z G,e= .returned (.agg Z)/\(storeVar 34 ⟨w.heap.size+1,0,none⟩ (.agg Z)).run Tryz.prog z= .ok () G/\(loadVar 34 ⟨w.heap.size+1,0,none⟩).run Tryz.prog G= .ok (.agg Z) G/\pL w b y B (AY B M o) (.returned (.agg Z)) G):=λe z V=>Ui h.lt ez U rW rfl V
 have UB:=GA;clear h hT hP hs ez Ke rW U hc;rw[GI] at *;generalize pL w b y B (AY B M o)=Q at *;generalize pL W b y B (AY B M o)=Q1 at *;generalize ix b o vp vq vd=J at *;go_enter Tryz.func54,Tryz.ntmps54;go_wp2_with(with_reducible refine gL 79 JY.out ?_);refine HC.out.mono ?_;intro e z V;obtain⟨Z,G,rfl,s1,s2,s3⟩:=Ye.out e z V;have HS:=ar s1;have HL:=ar s2;have HF:=ar s3;clear s1 s2 s3 V Ye HC hW JY;go_wp2_with(with_reducible refine gS 34 HS.out ?_);exact aK (dP Tryz.results54 rfl HL.out) rfl HF.out
end Go.Proofs.YtcecbdeamjigiaaGreatDoor
