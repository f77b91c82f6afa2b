/- Lemmas. -/
import Derived.Test.YtepbpdipenedhaaGreatDoorS29
set_option maxHeartbeats 1000000
set_option maxRecDepth 100000
namespace Go.Proofs.YtepbpdipenedhaaGreatDoor
open Go.Proofs.Tryz
open Go.RowKit
variable{W w:World}{T b g gf gl gn gp n y:Nat}{B X Y:List Int}{own:Nat->List Nat}{M:Nat->Nd}{o:pX}{vd vq:Value}
theorem Bc:GM mB (.slice none 0 0) (.slice none 0 0)= #[.int .i64 0,.int .i64 0,.int .i64 0,.int .i64 0,.int .i64 0,.slice none 0 0,.slice none 0 0]:=rfl
theorem x8{G:World}{l:List Nat}{h:Array Value}(J:bf W g h T)(U:h.size=7)(V:ay l W G)(Z:g∉l)(z:Int):
  ∃y,(storeVar 34 ⟨g,0,none⟩ (.agg #[.int .i64 z,.int .i64 0,.int .i64 0,.int .i64 0,.int .i64 0,.slice none 0 0,.slice none 0 0])).run prog G= .ok () y/\(loadVar 34 ⟨g,0,none⟩).run prog y= .ok (.agg #[.int .i64 z,.int .i64 0,.int .i64 0,.int .i64 0,.int .i64 0,.slice none 0 0,.slice none 0 0]) y/\XT y (fY z) #[.int .i64 z,.int .i64 0,.int .i64 0,.int .i64 0,.int .i64 0,.slice none 0 0,.slice none 0 0]/\ay [g] G y:=
 TK J U V Z (r:=fY z) rfl rfl rfl
theorem nS.journal{T:List (bN×Value)}(h:nS X T own [] M)(U:Y.length=3128)(y:In64 Y)(z:∀k,k<3128->(k<8\/816<=k)->Y.getD k 0=X.getD k 0):
  nS Y T own [] M/\bp Y=bp X:=by
 obtain⟨J,G⟩:=h.st.journal U y z;refine⟨⟨J,λj=>by rw[h.abs,h.st.nodes G (by simp)],h.tree⟩,vB λc V _=> ?_⟩;unfold dx bw;rw[z _ (by omega) (by omega)]
def Kh (X:List Int) (M:Nat->Nd):Prop:=X.getD 8 0=0/\∃T own,nS X T own [] M
theorem Kh.len(h:Kh X M):X.length=3128:=by obtain⟨-,T,own,h⟩:=h;exact h.st.len
theorem Kh.w64(h:Kh X M):In64 X:=by obtain⟨-,T,own,h⟩:=h;exact h.st.w64
theorem Kh.tree(h:Kh X M):dY M:=by obtain⟨-,T,own,h⟩:=h;exact h.tree
theorem Kh.few(h:Kh X M):lL M:=by obtain⟨-,T,own,h⟩:=h;exact h.few
theorem Kh.lands{M':Nat->Nd}(h:Kh X M){qs:List (Int×Int)}(hl:Nn X qs M')(hT:dY M'):
  WU (cu X (az X qs) 3128)/\wV (cu X (az X qs) 3128)=true/\(cu X (az X qs) 3128).length<=400/\Kh (kZ X (cu X (az X qs) 3128)) M'/\
   ∀Z:List Int,Z.length=3128->In64 Z->(∀k,k<3128->(k<8\/816<=k)->Z.getD k 0=(az X qs).getD k 0)->∃T own,nS Z T own [] M':=by
 obtain⟨h8,T,own,V⟩:=h;obtain⟨U,J,hn,hj,L,W,z⟩:=hl;have y:(cu X (az X qs) 3128).length<=400:=cJ (Wt z) W;have G:=hn.snd hT;obtain⟨c1,c2,c3,c4,c5,c6⟩:=JQ V.st.len V.st.w64 G.st.w64 hj h8 y;exact⟨c1,c2,y,⟨c5,U,J,(G.journal c3 c4 c6).1⟩,λZ z1 z2 z3=>⟨U,J,(G.journal z1 z2 z3).1⟩⟩
theorem TL{h:Value}(y:bf w g (GQ o h vq vd) T):(loadVar 37 ⟨g,0,none⟩).run prog w= .ok (.agg #[.int .i64 o.K,h,vq,.int .i64 o.O,.int .i64 o.N,vd]) w:=
 bE g 0 [.int .i64 o.K,h,vq,.int .i64 o.O,.int .i64 o.N,vd] underlying37 rfl (by kernel_rfl) λj _=>by
  rw[y.cell,aV,<-aC];rfl
def DoP (w:World) (X:List Int) (M:Nat->Nd) (o:pX) (ks:List Nat) (C:List (Int×Int)->Int->World->Prop) (e:Ending) (w':World):Prop:=
 ∃r Z,e= .returned (.agg Z)/\wM w.heap.size w' r Z/\
  ((ay [] w w'/\r.E≠0/\∃h qs,Bb X M o h qs/\r=fY h.E)\/
  (ay ks w w'/\∃h qs x,Bb X M o h qs/\h.E=0/\C (cu X (az X qs) 3128) x w'/\((x=0/\r=h)\/(x≠0/\r=fY x))))
theorem Bb.E_zero{r:lS}{qs:List (Int×Int)}(h:Bb X M o r qs)(J:r.E=0):(yf M o).2.E=0/\aag o r (yf M o).2/\Nn X qs (yf M o).1:=by
 rcases h with ⟨y,-⟩|⟨y,-⟩|⟨-,z,G,U⟩
 ·omega
 ·exact absurd J y
 ·exact⟨z,G,U⟩
theorem WC{f:Nat}{s:iN}{vp:Value}{ks:List Nat}{C:List (Int×Int)->Int->World->Prop}
  (aJ:GY M o) (hf:WB w f b) (h:dQ w b gn gl gf s) (hX:s.now=X) (hp:∀k:Nat,k<s.now.length->s.refusal (k:Int)=0/\s.load (k:Int)=s.now.getD k 0) (hs:Kh X M) (hT:lC w) (hI:Me w o vp vq vd) (af:∀y∈ks,y<w.heap.size)
  (hC:∀ps x wa wb l,(∀y∈l,w.heap.size<=y)->ay l wa wb->C ps x wa->C ps x wb)
  (aR:∀w1 v g qs V,ay [] w w1->Bb X M o V qs->V.E=0->lF w1 v g (cu X (az X qs) 3128)->w.heap.size<=g->Calls prog 28 #[.pointer (some ⟨b,0,none⟩),v] w1 λe w2=>∃x,e= .returned (.int .i64 x)/\ay ks w1 w2/\C (cu X (az X qs) 3128) x w2):
  Calls prog 10 #[.pointer (some ⟨f,0,none⟩),.agg (GQ o vp vq vd)] w (DoP w X M o ks C):=by
 have aX:=hf.lt;obtain⟨W,hW⟩:∃W,(w.alloc (.cells (GQ o vp vq vd) 37)).alloc (.cells (GM mB (.slice none 0 0) (.slice none 0 0)) 34)=W:=⟨_,rfl⟩;have eo:ay [] w W:=by rw[<-hW];exact((ay.refl _ _).alloc _).alloc _
 have aW:bf W w.heap.size (GQ o vp vq vd) 37 :=by rw[<-hW];exact(bf.new w _ _).alloc _
 have sB:bf W (w.heap.size+1) (GM mB (.slice none 0 0) (.slice none 0 0)) 34 :=by rw[<-hW];exact bf.new2 w _ _ _ _
 have aT:W.heap.size=w.heap.size+2:=by rw[<-hW,bO,bO]
 have HW:=ar hW
 -- what the calls leave
 have XJ:Hid (∀wx l,(∀y∈l,w.heap.size<=y)->ay l W wx->wx.cell? ⟨f,0,none⟩=some (.pointer (some ⟨b,0,none⟩))):=λwx l hl hk=>by
  have h1:bf W f _ _:=hf.keep eo (by simp);have h2:=h1.keep hk (λhm=>by have :=hl f hm;omega);rw[h2.cell];rfl
 have c0:=XJ.out W [] (by simp) (ay.refl _ _);have nC:=ar (JY (h.keep eo (by simp) (by simp)) hp);rw[hX] at nC;have TM:jy X=X:=by
  apply dB (by rw[gT,hs.len]);intro k h1 h2;have :=sY X k;rw[gT] at h1;rw[aj,aF (by rw[gT];exact h1),gZ] at this;rw[this,aB h1,aj,aF h2];rfl
 have aI:=ar TM;have yc:Hid (∀w2 bs,ay [] W w2->w.heap.size+2<=bs->eT w2 bs bs X []->Calls prog 27 #[.agg (iR bs o vp vq vd)] w2 λe w'=>∃fn,e= .returned (.func (.func fn) #[.agg (iR bs o vp vq vd)] #[])/\ay [] w2 w'/\(∀wx,(callFunc fn #[.agg (iR bs o vp vq vd)]).run prog wx= .ok (.enter fn #[.agg (iR bs o vp vq vd)]) wx)/\Calls prog fn #[.agg (iR bs o vp vq vd)] w' (qo w' bs bs X (Bb X M o))):=λw2 bs hk hb aa=>by
  obtain⟨-,T,own,Hd⟩:=id hs;have bb:Di w2 bs bs X [] T own [] M:=⟨aa,by rw[vI];exact Hd.nd,⟨aa.raw.lt,aa.raw.lt⟩,λwx hx=>hT.keep ((eo.trans' hk).trans hx λy hy=> .inr (by simp only[aQ,aS,bD,or_self] at hy;omega))⟩;refine(aJ w2 bs bs X T own vp vq vd bb hs.tree ((hI.keep eo).keep hk)).mono ?_;rintro e w' ⟨fn,rfl,h1,ag,h2⟩;exact⟨fn,rfl,h1,ag,h2 w' h1⟩
 have F4:Hid (∀G (bs gp:Nat) qs V,ay [] W G->eT G bs gp X qs->Bb X M o V qs->V.E=0->∀wx,ay [] G wx->Calls prog 29 #[.pointer (some ⟨bs,0,none⟩)] wx λe w6=>∃a n cap,e= .returned (.slice a n cap)/\w6.cell? ⟨f,0,none⟩=some (.pointer (some ⟨b,0,none⟩))/\
   Hid (Calls prog 28 #[.pointer (some ⟨b,0,none⟩),.slice a n cap] w6 λe U=>∃x,e= .returned (.int .i64 x)/\Hid (ay ks G U/\C (cu X (az X qs) 3128) x U))):=λG bs gp qs V hk aa hO h0 wx AU=>by
  refine(Mf (aa.keep AU (by simp) (by simp))).mono ?_;rintro e w6 ⟨v,g,rfl,hr,hg,jZ⟩;obtain⟨a,cap,rfl,-,-⟩:=hr.val;have aA:=AU.trans' jZ;refine⟨a,_,cap,rfl,XJ.out w6 [] (by simp) (hk.trans' aA),?_⟩;have h1:=aR w6 _ g qs V (eo.trans' (hk.trans' aA)) hO h0 hr (by have :=AU.size;have :=hk.size;omega);show Calls _ _ _ _ _;refine h1.mono ?_;rintro e U ⟨x,rfl,h2,h3⟩;exact⟨x,rfl,(aA.mono (by simp)).trans' h2,h3⟩
 -- an error, and what is told
 have Ao:Hid (∀G l V qs,ay l W G->(∀y∈l,w.heap.size+2<=y)->Bb X M o V qs->V.E≠0->∃z,(storeVar 34 ⟨w.heap.size+1,0,none⟩ (.agg #[.int .i64 V.E,.int .i64 0,.int .i64 0,.int .i64 0,.int .i64 0,.slice none 0 0,.slice none 0 0])).run prog G= .ok () z/\(loadVar 34 ⟨w.heap.size+1,0,none⟩).run prog z= .ok (.agg #[.int .i64 V.E,.int .i64 0,.int .i64 0,.int .i64 0,.int .i64 0,.slice none 0 0,.slice none 0 0]) z/\
   DoP w X M o ks C (.returned (.agg #[.int .i64 V.E,.int .i64 0,.int .i64 0,.int .i64 0,.int .i64 0,.slice none 0 0,.slice none 0 0])) z):=λG l V qs hk hl hO h0=>by
  obtain⟨z,s1,s2,s3,s4⟩:=x8 sB rfl hk (λhm=>by have :=hl _ hm;omega) V.E;refine⟨z,s1,s2,fY V.E,_,rfl,s3 _,.inl ⟨?_,h0,V,qs,hO,rfl⟩⟩;have :=(eo.trans hk (λy hy=> .inr (by have :=hl y hy;omega))).trans s4 (l':=[w.heap.size+1]) (λy hy=> .inr (by rw[au] at hy;omega));exact this
 have aG:Hid (∀G U l V qs x,ay l W G->(∀y∈l,w.heap.size+2<=y)->ay ks G U->Bb X M o V qs->V.E=0->C (cu X (az X qs) 3128) x U->x≠0->∃z,(storeVar 34 ⟨w.heap.size+1,0,none⟩ (.agg #[.int .i64 x,.int .i64 0,.int .i64 0,.int .i64 0,.int .i64 0,.slice none 0 0,.slice none 0 0])).run prog U= .ok () z/\(loadVar 34 ⟨w.heap.size+1,0,none⟩).run prog z= .ok (.agg #[.int .i64 x,.int .i64 0,.int .i64 0,.int .i64 0,.int .i64 0,.slice none 0 0,.slice none 0 0]) z/\
   DoP w X M o ks C (.returned (.agg #[.int .i64 x,.int .i64 0,.int .i64 0,.int .i64 0,.int .i64 0,.slice none 0 0,.slice none 0 0])) z):=λG U l V qs x hk hl AE hO h0 hc hx=>by
  have G5:=(sB.keep hk (λhm=>by have :=hl _ hm;omega)).keep AE (λhm=>by have :=af _ hm;omega);obtain⟨z,s1,s2,s3,s4⟩:=x8 G5 rfl (ay.refl [] U) (by simp) x;refine⟨z,s1,s2,fY x,_,rfl,s3 _,.inr ⟨?_,V,qs,x,hO,h0,hC _ _ U z _ (by intro y hy;rw[au] at hy;omega) s4 hc,.inr ⟨hx,rfl⟩⟩⟩;have h1:ay [] w G:=eo.trans hk (λy hy=> .inr (by have :=hl y hy;omega));exact((h1.mono (by simp)).trans' AE).trans s4 (λy hy=> .inr (by rw[au] at hy;omega))
 have Hc:Hid (∀w4 G U l V Z qs,ay l W w4->(∀y∈l,w.heap.size+2<=y)->wM (w.heap.size+2) w4 V Z->ay [w4.heap.size] w4 G->bf G w4.heap.size Z 34->ay ks G U->Bb X M o V qs->V.E=0->C (cu X (az X qs) 3128) 0 U->
   (loadVar 34 ⟨w4.heap.size,0,none⟩).run prog U= .ok (.agg Z) U/\∃z,(storeVar 34 ⟨w.heap.size+1,0,none⟩ (.agg Z)).run prog U= .ok () z/\(loadVar 34 ⟨w.heap.size+1,0,none⟩).run prog z= .ok (.agg Z) z/\DoP w X M o ks C (.returned (.agg Z)) z):=λw4 G U l V Z qs hk hl hr pB qg AE hO h0 hc=>by
  have bh:=hk.size;have aZ:wM (w.heap.size+2) G V Z:=by
   obtain⟨ad,ae,e,⟨g1,a1,a2⟩,g2,b1,b2⟩:=hr;refine⟨ad,ae,e,⟨g1,?_,a2⟩,g2,?_,b2⟩
   ·by_cases hD:V.D=[]
    ·rw[hD] at a1 ⊢
     obtain⟨x1,x2,x3,x4,x5,-⟩:=a1;exact⟨x1,x2,x3,x4,x5,λh=>absurd rfl h⟩
    ·exact a1.keep pB (λhm=>by
      rw[au] at hm;obtain⟨_,_,_,_,_,x6⟩:=a1;have :=(x6 (by intro e;apply hD;simpa[QS] using e)).1;omega)
   ·refine b1.keep pB (λhn hm=> ?_)
    rw[au] at hm;obtain⟨_,_,_,_,_,x6⟩:=b1;have :=(x6 hn).1;omega
  have G5:=qg.keep AE (λhm=>by have :=af _ hm;omega);have ai:=aZ.keep AE (λx hx=>by have :=af x hx;omega);have ba:=((sB.keep hk (λhm=>by have :=hl _ hm;omega)).keep pB (by rw[au];omega)).keep AE (λhm=>by have :=af _ hm;omega);obtain⟨z,s1,s2,s3⟩:=C3 ba rfl ai.at;have aV:=ai.keep s3 (λx hx=>by rw[au] at hx;omega);refine⟨A9 G5 ai.at,z,s1,A9 s2 aV.at,V,Z,rfl,aV.mono (by omega),.inr ⟨?_,V,qs,0,hO,h0,hC _ _ U z _ (by intro y hy;rw[au] at hy;omega) s3 hc,.inl ⟨rfl,rfl⟩⟩⟩;have h1:ay [] w G:=(eo.trans hk (λy hy=> .inr (by have :=hl y hy;omega))).trans pB (λy hy=> .inr (by rw[au] at hy;omega));exact((h1.mono (by simp)).trans' AE).trans s3 (λy hy=> .inr (by rw[au] at hy;omega))
 have DJ:Hid (∀wx,ay [] W wx->(loadVar 37 ⟨w.heap.size,0,none⟩).run prog wx= .ok (.agg #[.int .i64 o.K,vp,vq,.int .i64 o.O,.int .i64 o.N,vd]) wx):=λwx hk=>TL (aW.keep hk (by simp))
 have uo:=ar aT;have Qz:=Ba;clear aJ h hX hp hs hT hI af hC aR hf aX eo aW sB aT TM;rw[Bc] at hW Qz;generalize DoP w X M o ks C=Q at *;unfold GQ at hW;show Calls _ _ #[.pointer (some ⟨f,0,none⟩),.agg #[.int .i64 o.K,vp,vq,.int .i64 o.O,.int .i64 o.N,vd]] w Q;go_enter func10,ntmps10;go_wp2_with fail;refine nC.out.mono ?_;rintro e w1 ⟨v,g,rfl,hr,hg,aN⟩;have HN:=Bq hr;rw[aI.out] at HN;have HN:=ar HN;have jl:=ar aN;clear hr hg aN nC aI hW c0;go_wp2_with fail;refine HN.out.mono ?_;rintro e w2 ⟨bs,rfl,aY,aa,aU⟩;have po:=jl.out.trans' aU;have ak:w.heap.size+2<=bs:=by have :=jl.out.size;have :=uo.out;omega
 have HD:=ar (yc.out w2 bs po ak aa);have aO:=ar (DJ.out w2 po);have fF:=ar po;have oL:Hid (w.heap.size+2<=bs/\bs<w2.heap.size):=⟨ak,aa.raw.lt⟩;clear aY aa aU po ak HN jl DJ yc;obtain⟨J,hJ⟩:∃J,iR bs o vp vq vd=J:=⟨_,rfl⟩;have aM:=ar hJ;unfold iR at hJ;rw[aM.out] at HD;go_wp2_with(with_reducible refine gL 37 aO.out ?_);refine HD.out.mono ?_;rintro e w3 ⟨fn,rfl,av,ag,aP⟩;have bg:=ar (ag w3);have aC:=ar aP;have lV:=ar (fF.out.trans' av);have p9:Hid (bs<w3.heap.size/\W.heap.size<=bs):=by have :=oL.out;have :=uo.out;have :=av.size;exact⟨by omega,by omega⟩
 clear av aP ag HD fF aO oL hJ aM;go_wp2_with fail;rw[bg.out,Oper.upon_enter];refine aC.out.mono ?_;rintro e w4 ⟨r,Z,qs,gp,rfl,ac,aK,TN,ah,Vc,MZ⟩;have zj:ay [] W w4:=lV.out.trans ah λy hy=> .inr (by simp only[aQ,aS,bD,or_self] at hy;have :=p9.out;omega)
 obtain⟨G,p1,p2,p3⟩:=C3 (bf.new w4 #[.int .i64 0,.int .i64 0,.int .i64 0,.int .i64 0,.int .i64 0,.slice none 0 0,.slice none 0 0] 34) rfl ac.at;have pB:ay [w4.heap.size] w4 G:=((ay.refl _ _).alloc _).trans' p3;have Qe:ay [] W G:=zj.trans pB λy hy=> .inr (by rw[au] at hy;have :=zj.size;omega)
 have aH:eT G bs gp X qs:=TN.keep pB (by rw[au];have :=TN.raw.lt;omega) (by rw[au];have :=TN.raw.lt;omega);have c5:G.cell? ⟨w4.heap.size,0,none⟩=some (.int .i64 r.E):=by
  obtain⟨_,_,rfl,-⟩:=ac;rw[p2.cell];rfl
 have zL:=ar p1;have aD:wM (w.heap.size+2) w4 r Z:=ac.mono (by have :=lV.out.size;have :=uo.out;omega);by_cases hE:r.E=0
 ·have ET:=ar (F4.out G bs gp qs r Qe aH MZ hE)
  have HX:Hid (∀U x,ay ks G U->C (cu X (az X qs) 3128) x U->x≠0->∃z,(storeVar 34 ⟨w.heap.size+1,0,none⟩ (.agg #[.int .i64 x,.int .i64 0,.int .i64 0,.int .i64 0,.int .i64 0,.slice none 0 0,.slice none 0 0])).run prog U= .ok () z/\(loadVar 34 ⟨w.heap.size+1,0,none⟩).run prog z= .ok (.agg #[.int .i64 x,.int .i64 0,.int .i64 0,.int .i64 0,.int .i64 0,.slice none 0 0,.slice none 0 0]) z/\
   Q (.returned (.agg #[.int .i64 x,.int .i64 0,.int .i64 0,.int .i64 0,.int .i64 0,.slice none 0 0,.slice none 0 0])) z):=λU x h1 h2 h3=>aG.out G U [] r qs x Qe (by simp) h1 MZ hE h2 h3
  have ax:Hid (∀U,ay ks G U->C (cu X (az X qs) 3128) 0 U->(loadVar 34 ⟨w4.heap.size,0,none⟩).run prog U= .ok (.agg Z) U/\∃z,(storeVar 34 ⟨w.heap.size+1,0,none⟩ (.agg Z)).run prog U= .ok () z/\(loadVar 34 ⟨w.heap.size+1,0,none⟩).run prog z= .ok (.agg Z) z/\Q (.returned (.agg Z)) z):=λU h1 h2=>Hc.out w4 G U [] r Z qs zj (by simp) aD pB p2 h1 MZ hE h2
  have c0:=XJ.out G [] (by simp) Qe;rw[hE] at c5;generalize C (cu X (az X qs) 3128)=CC at *;clear F4 Ao aG Hc ac aD aK TN ah Vc MZ zj p1 p2 p3 pB Qe aH aC lV p9 hE;go_wp2_with(with_reducible refine gS 34 zL.out ?_)
  go_upto_region 9 with fail
  go_cut [10] (λUT wx=>∃x:Int,UT= .int .i64 x/\Hid (ay ks G wx/\CC x wx))
  case first=>
   go_region_with (first|(go_at_call 29;refine(ET.out _ (by first|exact ay.refl _ _|exact(ay.refl _ _).drew)).mono ?_;rintro e w6 ⟨a,n,cap,rfl,c6,Xk⟩)|(go_at_call 28;refine Xk.out.mono ?_;rintro e U ⟨x,rfl,bc⟩))
   all_goals go_wp2_with fail
   all_goals go_meet
   all_goals exact⟨_,rfl,bc⟩
  case rest=>
   obtain⟨x,rfl,HC⟩:=hcut;obtain⟨AE,KN⟩:=HC.out;by_cases hx:x=0
   ·subst hx
    obtain⟨l1,z,s1,s2,s3⟩:=ax.out wc AE KN;have uI:=ar l1;have HS:=ar s1;have HL:=ar s2;have HF:=ar s3;clear ET HX ax HC AE KN l1 s1 s2 s3 zL c0 c5;go_wp2_with(first|(with_reducible refine gL 34 uI.out ?_)|(with_reducible refine gS 34 HS.out ?_));exact aL (dJ results10 rfl HL.out) rfl HF.out
   ·obtain⟨z,s1,s2,s3⟩:=HX.out wc x AE KN hx
    have b1:(x != 0)=true:=by simpa using hx
    have HS:=ar s1;have HL:=ar s2;have HF:=ar s3;clear ET HX ax HC AE KN s1 s2 s3 zL c0 c5 hx;go_wp2_with(with_reducible refine gS 34 HS.out ?_);exact aL (dJ results10 rfl HL.out) rfl HF.out
 ·obtain⟨z,s1,s2,s3⟩:=Ao.out G [] r qs Qe (by simp) MZ hE
  have b1:(r.E != 0)=true:=by simpa using hE
  have HS:=ar s1;have HL:=ar s2;have HF:=ar s3;clear F4 Ao aG Hc ac aD aK TN ah Vc MZ zj p1 p2 p3 pB Qe aH aC lV p9 hE s1 s2 s3;go_wp2_with(first|(with_reducible refine gS 34 zL.out ?_)|(with_reducible refine gS 34 HS.out ?_));exact aL (dJ results10 rfl HL.out) rfl HF.out
def nF (n:Nat):List Bool:=List.replicate n false
def mF (n q:Nat):List Bool:=(List.range n).map λj=>decide (j<8*q)
theorem aal (n k:Nat):(nF n).set k false=nF n:=by
 unfold nF;apply dB (by simp);intro j y h;rw[List.getElem_set];split<;>simp
theorem WG (n:Nat):mF n 0=nF n:=by
 unfold nF mF;apply dB (by simp);intro j y h;simp
theorem aam (n q:Nat):(mF n q).length=n:=by simp[mF]
theorem WH (n q:Nat):vL (mF n q) q 8=mF n (q+1):=by
 unfold vL mF;apply dB (by simp);intro j z y;simp only[List.getElem_mapIdx,fQ,iQ];by_cases h:q*8<=j/\j<q*8+8
 ·rw[aB h]
  exact(bh (by omega)).symm
 ·rw[aA h]
  exact decide_eq_decide.2 (by omega)
theorem aan{q j:Nat}(h:j<n)(y:j<8*q):(mF n q).getD j false=true:=by
 unfold mF;rw[aj,bC,bV h];exact bh y
def sO (N:Nat) (xs ws:List Int) (d:Int) (k:Nat):iN:={ now:=mix ws xs k,last:=xs,fl:=nF N,deeds:=d+(k:Int),fused:=false,left:=0 }
def Bd (N:Nat) (xs ws:List Int) (d:Int) (q:Nat):iN:={ now:=ws,last:=xs,fl:=mF N q,deeds:=d+(N:Int)+(q:Int),fused:=false,left:=0 }
section
variable {N:Nat} {xs ws:List Int} {d:Int} {k q:Nat}
theorem Qf (y:N=3128)(z:xs.length=N):sO N xs ws d 0=calm xs d:=by
 have h:nF N=List.replicate ((xs.length+7)/8*8) false:=by
  unfold nF
  congr 1
  omega
 unfold sO calm;rw[QT,h]
 congr 1
 exact Int.add_zero d
theorem z6 (y:xs.length=N)(G:ws.length=N)(J:k<N):(sO N xs ws d k).refusal (k:Int)=0:=by
 unfold iN.refusal;have z:¬(sO N xs ws d k).gone=true:=Bool.false_ne_true;have h:(sO N xs ws d k).now.length=N:=by
  show(mix ws xs k).length=N;rw[UC _ _ _ (by omega),y]
 rw[aA z,h,aA (by omega)]
theorem Qg (y:xs.length=N)(z:ws.length=N)(G:k<N):(sO N xs ws d k).store (k:Int) (ws.getD k 0)=sO N xs ws d (k+1):=by
 unfold iN.store;rw[aB (z6 y z G),aJ];have J:(sO N xs ws d k).now.set k (ws.getD k 0)=mix ws xs (k+1):=(QU ws xs k (by omega) (by omega)).symm;have h:(sO N xs ws d k).fl.set k false=nF N:=aal N k;rw[J,h];show({ now:=mix ws xs (k+1),last:=xs,fl:=nF N,deeds:=d+(k:Int)+1,fused:=false,left:=0 }:iN)={ now:=mix ws xs (k+1),last:=xs,fl:=nF N,deeds:=d+((k+1:Nat):Int),fused:=false,left:=0 }
 congr 1
 omega
theorem TP (y:xs.length=N)(h:ws.length=N):sO N xs ws d N=Bd N xs ws d 0:=by
 unfold sO Bd;rw[UB _ _ _ (by omega) (by omega),WG]
 congr 1
 omega
theorem C5 (h:ws.length=N)(G:8*q<N):(Bd N xs ws d q).refusal ((8*q:Nat):Int)=0:=by
 unfold iN.refusal;have z:¬(Bd N xs ws d q).gone=true:=Bool.false_ne_true;have y:(Bd N xs ws d q).now.length=N:=h;rw[aA z,y,aA (by omega)]
theorem TQ (h:ws.length=N)(z:8*q<N):(Bd N xs ws d q).flush ((8*q:Nat):Int)=Bd N xs ws d (q+1):=by
 unfold iN.flush;have y:vL (Bd N xs ws d q).fl (((8*q:Nat):Int).toNat/8) 8=mF N (q+1):=by
  rw[aJ,show 8*q/8=q by omega];exact WH N q
 rw[aB (C5 h z),y];show({ now:=ws,last:=xs,fl:=mF N (q+1),deeds:=d+(N:Int)+(q:Int)+1,fused:=false,left:=0 }:iN)={ now:=ws,last:=xs,fl:=mF N (q+1),deeds:=d+(N:Int)+((q+1:Nat):Int),fused:=false,left:=0 }
 congr 1
 omega
theorem Qh (hN:N=3128)(hq:q=391)(U:xs.length=N)(z:ws.length=N):(Bd N xs ws d q).fence=calm ws (d+3520):=by
 unfold iN.fence;have V:¬(Bd N xs ws d q).gone=true:=Bool.false_ne_true;have W:gK (Bd N xs ws d q) (Bd N xs ws d q).now.length=ws:=by
  have G:=zr (Bd N xs ws d q) (Bd N xs ws d q).now.length;have h:(Bd N xs ws d q).last.length=N:=U;apply dB (by rw[G,h,z]);intro j y Z;rw[G,h] at y;have hn:(Bd N xs ws d q).now.length=N:=z;simp only[gK,List.getElem_mapIdx];rw[aB ⟨by omega,aan y (by omega)⟩];show ws.getD j 0=ws[j];rw[aj,aF Z];rfl
 have J:(Bd N xs ws d q).fl.length=(ws.length+7)/8*8:=by
  show(mF N q).length=_;rw[aam];omega
 rw[aA V,W,J];show({ now:=ws,last:=ws,fl:=List.replicate ((ws.length+7)/8*8) false,deeds:=d+(N:Int)+(q:Int)+1,fused:=false,left:=0 }:iN)={ now:=ws,last:=ws,fl:=List.replicate ((ws.length+7)/8*8) false,deeds:=d+3520,fused:=false,left:=0 }
 congr 1
 omega
theorem TR (y:0<=d)(h:d<1000000000000000000)(z:k<=3128):(sO N xs ws d k).fit:=by
 unfold iN.fit sO
 dsimp only
 omega
theorem Nr (G:N=3128)(y:0<=d)(h:d<1000000000000000000)(z:q<=3128):(Bd N xs ws d q).fit:=by
 unfold iN.fit Bd
 dsimp only
 omega
end
theorem Mg{xs ws:List Int}{d:Int}(h:dQ w b gn gl gf (calm xs d))(h0:0<=d)(hd:d<100000000000000000)(ai:xs.length=3128)(af:ws.length=3128){v:Value}{g:Nat}(hr:Reads w v g (aO ws))(hg:g∉[b,gn,gl,gf]):
  Calls prog 50 #[.pointer (some ⟨b,0,none⟩),v] w λe w'=>e= .returned (.int .i64 0)/\dQ w' b gn gl gf (calm ws (d+3520))/\ay [b,gn,gl,gf] w w':=by
 obtain⟨N,hN⟩:∃N:Nat,N=3128:=⟨_,rfl⟩;have hx:xs.length=N:=by omega
 have hw:ws.length=N:=by omega
 obtain⟨a,cap,rfl,aj,ah,HC⟩:=gy hr;obtain⟨ae,off,rfl,-⟩:=HC.out 0 (by omega);have Sm:Hid (∀y,ay [b,gn,gl,gf] w y->∀k,k<3128->y.cell? ⟨g,off+k,none⟩=some (.int .u64 (ws.getD k 0))):=λy hk k aa=>by
  obtain⟨-,au,e1,e2⟩:=HC.out k (by omega);cases e1;rw[aK (w:=w) (a:=⟨g,off+k,none⟩) (hk.block g ae hg)];exact e2
 rw[af] at aj ⊢;unfold maxLen at ah;have H0:Hid (dQ w b gn gl gf (sO N xs ws d 0)):=by
  show dQ _ _ _ _ _ _;rw[Qf hN hx];exact h
 have ac:Hid (∀y (k:Nat),k<3128->dQ y b gn gl gf (sO N xs ws d k)->Calls prog 18 #[.pointer (some ⟨b,0,none⟩),.int .i64 (k:Int),.int .u64 (ws.getD k 0)] y λe w'=>e= .returned (.int .i64 0)/\dQ w' b gn gl gf (sO N xs ws d (k+1))/\ay [b,gn,gl,gf] y w'):=λy k hk U=>by
  have :=Hn U (TR h0 (by omega) (by omega)) (k:Int) (ws.getD k 0);rw[z6 hx hw (by omega),Qg hx hw (by omega)] at this;exact this
 have J:Hid (∀y (q:Nat),q<391->dQ y b gn gl gf (Bd N xs ws d q)->Calls prog 102 #[.pointer (some ⟨b,0,none⟩),.int .i64 ((8*q:Nat):Int)] y λe w'=>e= .returned (.int .i64 0)/\dQ w' b gn gl gf (Bd N xs ws d (q+1))/\ay [b,gn,gl,gf] y w'):=λy q hq U=>by
  have :=Ho U (Nr hN h0 (by omega) (by omega)) ((8*q:Nat):Int);rw[C5 hw (by omega),TQ hw (by omega)] at this;exact this
 have QH:Hid (∀y,dQ y b gn gl gf (Bd N xs ws d 391)->Calls prog 103 #[.pointer (some ⟨b,0,none⟩)] y λe w'=>e= .returned (.int .i64 0)/\dQ w' b gn gl gf (calm ws (d+3520))/\ay [b,gn,gl,gf] y w'):=λy U=>by
  have :=Hq U (Nr hN h0 (by omega) (by omega));rw[Qh hN rfl hx hw] at this;exact this
 have nt:Hid (∀y,dQ y b gn gl gf (sO N xs ws d 3128)->dQ y b gn gl gf (Bd N xs ws d 0)):=λy U=>by
  have :=TP (d:=d) hx hw;rw[hN] at this U ⊢;rw[this] at U;exact U
 clear h hx hw ai af hr HC ae hg h0 hd hN;go_enter func50,ntmps50;go_wp2_with fail;go_loopg [5,6,7,12] 3128 (λgh s5 s6 s7 s12 y=>∃k:Nat,k+gh=3128/\s12= .int .i64 (k:Int)/\
  Hid (dQ y b gn gl gf (sO N xs ws d k)/\ay [b,gn,gl,gf] w y))
 case atStart=>exact⟨0,by omega,rfl,H0.out,ay.refl _ _⟩
 case round=>
  obtain⟨k,hk,rfl,W⟩:=hrel;cases gk with
  |zero=>
   obtain rfl:k=3128:=by omega
   clear ac Sm H0;go_wp2_with fail;go_loopg [8,9] 391 (λgh s8 s9 y=>∃q:Nat,q+gh=391/\s8= .int .i64 ((8*q:Nat):Int)/\
    Hid (dQ y b gn gl gf (Bd N xs ws d q)/\ay [b,gn,gl,gf] w y))
   case atStart=>exact⟨0,by omega,rfl,nt.out _ W.out.1,W.out.2⟩
   case round=>
    obtain⟨q,hq,rfl,HJ⟩:=hrel;cases gk with
    |zero=>
     obtain rfl:q=391:=by omega
     have Vx:=ar (QH.out _ HJ.out.1);have G:=ar HJ.out.2;clear J QH nt W HJ;go_wp2_with fail;refine Vx.out.mono ?_;rintro e w3 ⟨rfl,V,Z⟩;have HF:Hid (dQ w3 b gn gl gf (calm ws (d+3520))/\ay [b,gn,gl,gf] w w3):=⟨V,G.out.trans' Z⟩;clear V Z Vx G;go_wp2_with fail;go_ret;exact⟨rfl,HF.out⟩
    |succ gg=>
     have ak:((8*q:Nat):Int)<3128:=by omega
     have ag:=ar (J.out _ q (by omega) HJ.out.1);have G:=ar HJ.out.2;have av:q<391:=by omega
     have RG:((8*q:Nat):Int)+8=((8*(q+1):Nat):Int):=by omega
     have ax:(0:Int)<=((8*q:Nat):Int):=by omega
     generalize hz:((8*q:Nat):Int)=z at *;clear J W HJ QH nt;go_wp2_with fail;refine ag.out.mono ?_;rintro e w3 ⟨rfl,V,Z⟩;have Ac:=ar V;have lV:=ar (G.out.trans' Z);clear V Z ag G;go_wp2_with fail;go_roundg gg;case measure=>omega
     case rel=>exact⟨q+1,by omega,by rw[<-RG];go_num,Ac.out,lV.out⟩
  |succ gg=>
   have ak:(k:Int)<3128:=by omega
   have aa:k<3128:=by omega
   have hc:=Sm.out _ W.out.2 k aa;have HS:=ar (ac.out _ k aa W.out.1);have Xo:=ar W.out.2;generalize ws.getD k 0=x at *;clear ac J QH nt Sm W;go_wp2_with fail;refine HS.out.mono ?_;rintro e w3 ⟨rfl,V,Z⟩;have Ac:=ar V;have lV:=ar (Xo.out.trans' Z);clear V Z HS Xo;go_wp2_with fail;go_roundg gg;case measure=>omega
   case rel=>exact⟨k+1,by omega,by go_num,Ac.out,lV.out⟩
theorem Mh (w:World):(zeroValue 116).run prog w= .ok (.agg (aO (jy [])).toArray) w:=by kernel_rfl
theorem J1 (h:bf w g (aO X).toArray 116)(lx:X.length=3128)(Y:List Int)(y:Y.length=3128):
  ∃w',(storeVar 116 ⟨g,0,none⟩ (.agg (aO Y).toArray)).run prog w= .ok () w'/\bf w' g (aO Y).toArray 116/\ay [g] w w':=by
 refine⟨_,iL g 0 (aO Y) _ (by rw[aZ,y];exact ry) h (by rw[bH,aZ,aZ];omega) (eF Y),?_,(ay.refl _ _).setRow (by simp) _⟩;have e:((aO X).toArray.toList.take 0++aO Y++(aO X).toArray.toList.drop (0+(aO Y).length)).toArray=(aO Y).toArray:=by
  rw[eI,bT,cZ (by rw[aZ,aZ];omega),bq]
 rw[e];exact j6 h
theorem Qi (h:bf w g (aO Y).toArray T)(y:Y.length=n)(z:n<=maxLen):Reads w (.slice (some ⟨g,0,none⟩) n n) g (aO Y):=by
 refine⟨some ⟨g,0,none⟩,n,by rw[aZ,y],by rw[aZ,y];exact aG _,z,λ_=>⟨h.lt,0,rfl,λj G=> ?_⟩⟩;rw[h.cell,aV];simp
theorem J2{us:List (Int×Int)}(h:jo w b gp B X us):
  Calls prog 51 #[.pointer (some ⟨b,0,none⟩)] w (iK w X):=by
 obtain⟨lb,lx,vp,J,U,V⟩:=h;have HL:=ar (Bp J lb lx);have hz:=Mh;obtain⟨w2,z,y,G⟩:=J1 (bf.new w (aO (jy [])).toArray 116) (gT []) X lx;have Ue:=ar z;have W:Hid (iK w X (.returned (.slice (some ⟨w.heap.size,0,none⟩) 3128 3128)) w2):=
  ⟨_,w.heap.size,rfl,Qi y lx (by simp[maxLen]),aG _,((ay.refl [] w).alloc _).trans G (by simp)⟩
 clear J U V z y G lb lx;generalize (aO (jy [])).toArray=Z at *;generalize (aO X).toArray=Y at *;go_enter func51,ntmps51;go_wp2_with(first|(with_reducible refine gL 116 HL.out ?_)|(with_reducible refine gS 116 Ue.out ?_));go_ret;exact W.out
theorem Mi{ps:List (Int×Int)}(h:eT w b y B ps):
  Calls prog 51 #[.pointer (some ⟨b,0,none⟩)] w (iK w (az B ps)):=J2 h.raw
theorem TS (F K:Int):aU (QO F K) (.slice none 0 0)= #[.int .i64 F,.int .i64 K,.int .i64 1,.int .i64 0,.int .i64 0,.int .i64 0,.int .i64 0,.int .i64 0,.int .i64 0,.int .i64 0,.int .i64 0,.int .i64 0,.int .i64 0,.int .i64 0,.int .i64 0,.int .i64 0,.int .i64 0,.slice none 0 0]:=rfl
theorem C7:aU cX (.slice none 0 0)= #[.int .i64 0,.int .i64 0,.int .i64 0,.int .i64 0,.int .i64 0,.int .i64 0,.int .i64 0,.int .i64 0,.int .i64 0,.int .i64 0,.int .i64 0,.int .i64 0,.int .i64 0,.int .i64 0,.int .i64 0,.int .i64 0,.int .i64 0,.slice none 0 0]:=rfl
theorem TT{U:World}{G:Nat}{R:lS->List (Int×Int)->Prop}{z:Array Value}{e:Ending}(J:b<w.heap.size/\G<w.heap.size)(eo:ay [] w W)(aa:W.heap.size=w.heap.size+2)(sB:bf W (w.heap.size+1) z 34)(hc:z.size=7)(hp:qo W b G B R e U):
  ∃Z h,e= .returned (.agg Z)/\(storeVar 34 ⟨w.heap.size+1,0,none⟩ (.agg Z)).run prog U= .ok () h/\(loadVar 34 ⟨w.heap.size+1,0,none⟩).run prog h= .ok (.agg Z) h/\qo w b G B R (.returned (.agg Z)) h:=by
 obtain⟨r,Z,qs,mf,rfl,h1,h2,h3,h4,h5,h6⟩:=hp;obtain⟨h,s1,s2,s3⟩:=C3 (sB.keep h4 (qZ J (by omega))) hc h1.at;have V:=h1.keep s3 (λx hx=>by rw[au] at hx;omega);have hs:=s3.size;refine⟨Z,h,rfl,s1,A9 s2 V.at,r,Z,qs,mf,rfl,V.mono (by omega),by omega,h3.keep s3 (by rw[au];omega) (by rw[au];omega),((eo.mono (by simp)).trans' h4).trans s3 (λy hy=>by rw[au] at hy;omega),h5,h6⟩
theorem Qj{T:List (bN×Value)}(h:Di w b gp B [] T own [] M)(hT:dY M){o:pX}{vp vq vd:Value}{g:Nat}(hP:jh w vp g o.P)(hs:∀s∈o.P,s.size<=9223372036854775807)(hK:o.K=0\/o.K=1):
  Calls prog 104 #[.agg (iR b o vp vq vd),.int .i64 (1+o.K)] w (qo w b gp B (Bb B M o)):=by
 obtain⟨W,hW,eo,Kg,sB,aG⟩:=Nq w (iR b o vp vq vd) (GM mB (.slice none 0 0) (.slice none 0 0));have aa:=ar (Qd (h.keep0 eo) hT o vp vq vd (hP.keep eo (by simp)) hs);have Z:=h.lt;have Rg:=ar Z;have gH:=ar eo;have uo:=ar aG;have Md:Hid (∀z,ay [b,gp] W z->(loadVar 79 ⟨w.heap.size,0,none⟩).run prog z= .ok (.agg (iR b o vp vq vd)) z):=λz hk=>xX (Kg.keep hk (qZ Z (by omega)))
 have af:Hid (∀z,ay [b,gp] W z->z.cell? ⟨w.heap.size,0,none⟩=some (.pointer (some ⟨b,0,none⟩))/\z.cell? ⟨w.heap.size,2,none⟩=some vp):=λz hk=>by
  have h1:=Kg.keep hk (qZ Z (by omega));exact⟨by rw[h1.cell];rfl,by rw[h1.cell];rfl⟩
 -- an error
 have Ao:Hid (∀r,r≠0->(yf M o).2=fY r->∀w1,ay [] W w1->∃G,(storeVar 34 ⟨w.heap.size+1,0,none⟩ (.agg #[.int .i64 r,.int .i64 0,.int .i64 0,.int .i64 0,.int .i64 0,.slice none 0 0,.slice none 0 0])).run prog w1= .ok () G/\(loadVar 34 ⟨w.heap.size+1,0,none⟩).run prog G= .ok (.agg #[.int .i64 r,.int .i64 0,.int .i64 0,.int .i64 0,.int .i64 0,.slice none 0 0,.slice none 0 0]) G/\qo w b gp B (Bb B M o) (.returned (.agg #[.int .i64 r,.int .i64 0,.int .i64 0,.int .i64 0,.int .i64 0,.slice none 0 0,.slice none 0 0])) G):=λr U hd w1 hk=>by
  obtain⟨G,s1,s2,s3,s4⟩:=x8 sB rfl hk (by simp) r;exact⟨G,s1,s2,qo.none h ((eo.trans' hk).trans s4 (by intro y hy;rw[au] at hy;omega)) s3 (.inr (.inl ⟨U,hd⟩))⟩
 have av:Hid (sM M o.P≠0->(yf M o).2=fY (sM M o.P)):=Qb hK;have Ul:Hid (∀z,ay [] W z->Calls prog 93 #[.pointer (some ⟨b,0,none⟩)] z λe w'=>e= .returned (.int .i64 ((az B []).getD 1 0))/\z=w'):=λz hk=>PV ((h.keep0 (eo.trans' hk)).shS)
 -- New: nothing is free, or it is made
 have XU:Hid (sM M o.P=0->∀z,ay [] W z->Calls prog 147 #[.pointer (some ⟨b,0,none⟩),.agg (aU (QO ((az B []).getD 1 0) (1+o.K)) (.slice none 0 0))] z λe V=>∃i r,e= .returned (.tuple #[.int .i64 i,.int .i64 r])/\ay [b,gp] W V/\ay [b,gp] z V/\
   ((r≠0/\∃G,(storeVar 34 ⟨w.heap.size+1,0,none⟩ (.agg #[.int .i64 r,.int .i64 0,.int .i64 0,.int .i64 0,.int .i64 0,.slice none 0 0,.slice none 0 0])).run prog V= .ok () G/\(loadVar 34 ⟨w.heap.size+1,0,none⟩).run prog G= .ok (.agg #[.int .i64 r,.int .i64 0,.int .i64 0,.int .i64 0,.int .i64 0,.slice none 0 0,.slice none 0 0]) G/\qo w b gp B (Bb B M o) (.returned (.agg #[.int .i64 r,.int .i64 0,.int .i64 0,.int .i64 0,.int .i64 0,.slice none 0 0,.slice none 0 0])) G)\/
   (r=0/\Calls prog 118 #[.agg (iR b o vp vq vd),.agg (gU (cY M o.P).1 (cm o.P) false 0),.int .i64 i] V λe w3=>∃x G,e= .returned (.int .i64 x)/\(storeVar 34 ⟨w.heap.size+1,0,none⟩ (.agg #[.int .i64 x,.int .i64 i,.int .i64 0,.int .i64 0,.int .i64 0,.slice none 0 0,.slice none 0 0])).run prog w3= .ok () G/\(loadVar 34 ⟨w.heap.size+1,0,none⟩).run prog G= .ok (.agg #[.int .i64 x,.int .i64 i,.int .i64 0,.int .i64 0,.int .i64 0,.slice none 0 0,.slice none 0 0]) G/\qo w b gp B (Bb B M o) (.returned (.agg #[.int .i64 x,.int .i64 i,.int .i64 0,.int .i64 0,.int .i64 0,.slice none 0 0,.slice none 0 0])) G))):=λhv z hk=>by
  have ae:=(h.keep0 (eo.trans' hk));have aP:=h.nd.st.sup.2.1;refine(Pf ae.sh ae.nd.st.w64 ae.tab ae.lt.2 (by simp) (QO ((az B []).getD 1 0) (1+o.K)) (.slice none 0 0) 0 rfl (br.nil _ _) (λk hk=>by simp[QO] at hk) (λh=>absurd rfl h)).mono ?_;rintro e V ⟨i,r,qs,mf,rfl,h1,h2,h3,h4,h5⟩;have uT:ay [b,gp] W V:=(hk.mono (by simp)).trans' h3;have aJ:mf=gp\/(W.heap.size<=mf/\mf<V.heap.size):=by have :=hk.size;omega
  refine⟨i,r,rfl,uT,h3,?_⟩;rcases h.nd.made (F:=(az B []).getD 1 0) (K:=1+o.K) aP (by omega) h5 with ⟨rfl,hq,ye⟩|⟨rfl,j,rfl,hj,Wk,zz,aM,ye⟩
  ·left
   obtain⟨G,s1,s2,s3,s4⟩:=x8 sB rfl uT (qZ Z (by omega)) 7;refine⟨by omega,G,s1,s2,qo.some Z eo (by omega) (Rq:=λr qs=>Bb B M o (fY 7) qs) (m:=700) ⟨7,qs,mf,rfl,aJ,h2,uT,h4,.inr (.inl ⟨by show(7:Int)≠0;omega,?_⟩)⟩ (by omega) s4 s3 λqs hq=>hq⟩;rw[Np hK hv,ye];rfl
  ·right
   refine⟨rfl,?_⟩;obtain⟨T',cH,g1,g2,g3⟩:=id aM;have aN:=(h.keep0 eo).go h2 uT aJ g1;obtain⟨v1,v2,v3⟩:=GV hv;have hp:=qW (M:=M) v2;have aO:(cY M o.P).1≠j:=λe=>by
    have :=hp.1;rw[e] at this;omega
   refine(TE aN (by rw[bT];omega) o vp vq vd (d:=(cY M o.P).1) (by rw[cT _ _ aO];exact hp.1) hp.2.1 false 0 (i:=(j:Int)) (by omega)).mono ?_;rintro e w3 ⟨x,q2,xe,rfl,e1,e2,e3,e4,e5⟩;have aB:ay [b,gp] W w3:=uT.trans e3 λy hy=>by
    simp only[aQ,aS,bD] at hy ⊢;omega
   obtain⟨G,s1,s2,s3,s4⟩:=TK (r:={ mB with N:=(j:Int),E:=x }) sB rfl aB (qZ Z (by omega)) rfl rfl rfl;have aV:=h3.size;have aT:=e3.size;refine⟨x,G,rfl,s1,s2,qo.some Z eo (by omega) (Rq:=λ_ q=>Bb B M o { mB with N:=(j:Int),E:=x } q) (m:=1400) ⟨x,qs++q2,xe,rfl,by have :=hk.size;omega,by rw[<-ba];exact e2,aB,by rw[aD];omega,?_⟩ (by omega) s4 s3 λ_ hq=>hq⟩;refine Qc hT hK hv hj zz aM ye ?_;have aA:=e5;rw[bJ] at aA;exact aA
 have Qz:=Ba;have aR:=zk;have xB:=fu;clear h hT hP hs eo Kg sB aG Z;unfold TJ at aa;rw[Bc] at *;generalize qo w b gp B (Bb B M o)=Q at *;generalize sM M o.P=ve at *;generalize (yf M o).2=D2 at *;generalize aI:gU (cY M o.P).1 (cm o.P) false 0=Zs at *;have G7:=ar aI;generalize (az B []).getD 1 0=tg at *;have e0:gU 0 ⟨#[]⟩ false 0= #[.int .i64 0,.string ⟨#[]⟩,.bool false,.int .i64 0]:=rfl;rw[e0] at aa;rw[TS] at XU;rw[C7] at xB;generalize hJ:iR b o vp vq vd=J at *;clear hJ e0 aI;generalize 1+o.K=kk at *;have c2:=(af.out W (ay.refl _ _)).2;have J3:=ar (Md.out W (ay.refl _ _));go_enter func104,ntmps104;go_wp2_with(with_reducible refine gL 79 J3.out ?_);refine aa.out.mono ?_;rintro e w1 ⟨ac,⟨U,rfl⟩|⟨rfl,rfl⟩⟩
 ·obtain⟨V,p1,p2,p3⟩:=l8 (d:=0) (nm:=⟨#[]⟩) (th:=false) (i:=0) (bf.new w1 #[.int .i64 0,.string ⟨#[]⟩,.bool false,.int .i64 0] 165) rfl
  have ng:ay [] w1 V:=((ay.refl [] w1).alloc _).trans p3 (by intro x hx;rw[au] at hx;omega);obtain⟨G,s1,s2,s3⟩:=Ao.out ve U (av.out U) V (ac.trans' ng);have b1:(ve != 0)=true:=by simpa using U
  have sS:=ar p1;have HS:=ar s1;have HL:=ar s2;have HF:=ar s3;clear hW p1 p2 p3 ac ng s1 s2 s3 U aa Rg gH uo Md J3 af Ao av Ul XU c2 G7;unfold gU at sS;go_wp2_with(first|(with_reducible refine gS 165 sS.out ?_)|(with_reducible refine gS 34 HS.out ?_));exact aL (dJ results104 rfl HL.out) rfl HF.out
 ·have kR:=ar (XU.out rfl)
  have aC:bf (w1.alloc (.cells #[.int .i64 0,.string ⟨#[]⟩,.bool false,.int .i64 0] 165)) w1.heap.size #[.int .i64 0,.string ⟨#[]⟩,.bool false,.int .i64 0] 165 :=bf.new w1 _ _;obtain⟨V,p1,p2,p3⟩:=l8 (d:=(cY M o.P).1) (nm:=cm o.P) (th:=false) (i:=0) aC rfl;rw[G7.out] at p1 p2;have ng:ay [] w1 V:=((ay.refl [] w1).alloc _).trans p3 (by intro x hx;rw[au] at hx;omega);have uT:=ac.trans' ng;have sS:=ar p1;have Xa:Hid (∀z,ay [b,gp] V z->(loadVar 165 ⟨w1.heap.size,0,none⟩).run prog z= .ok (.agg Zs) z):=λz hk=>by
   have h1:=ac.size;have h2:=uo.out;have h3:=Rg.out;have :=ra (d:=(cY M o.P).1) (nm:=cm o.P) (th:=false) (i:=0) (by rw[G7.out];exact p2.keep hk (by simp;omega));rwa[G7.out] at this
  have aK:=ar (Ul.out V.drew uT.drew);have RO:=ar (kR.out V.drew uT.drew);have TU:=(af.out V.drew (uT.drew.mono (by simp)));obtain⟨c3,-⟩:=TU;have qp:=ar uT;clear hW p1 p2 p3 aC ac ng uT aa gH Ao av Ul XU kR c2 G7 J3;go_wp2_with(with_reducible refine gS 165 sS.out ?_);refine Ea (l:=[_,_,_,_,_,_,_]) (o:=_) (l2:=[_,_,_,_,_]) (S:=λz=>z=V.drew) (by kernel_rfl) rfl (by kernel_rfl) (by kernel_rfl) (λd _ _ _ _ h=>by cases d<;>exact h) rfl (by kernel_rfl) (by kernel_rfl) ?_;repeat (first
   |((with_reducible show aH _ _ _ _ (⟨some 25,_,_,_,_,_⟩::_) _);refine aH.cons (.int .i64 tg) (aX.call rfl 93 #[.pointer (some ⟨b,0,none⟩)] ?he ?h) ?_;(case he=>(intro wz;go_simp));(case h=>(intro wz hz;subst hz;refine aK.out.mono ?_;rintro e w' ⟨rfl,rfl⟩;exact⟨rfl,rfl⟩));simp only[Act.put,ag,ah,ai])
   |(refine aH.cons ?_ (aX.val rfl ?h) ?_;(case h=>(intro wz hz;subst hz;go_simp;rfl));simp only[Act.put,ag,ah,ai]))
  refine aH.done λwz hz=> ?_
  subst hz;go_wp2_with fail;refine RO.out.mono ?_;rintro e w3 ⟨i,r,rfl,aF,mO,hh⟩;have XV:ay [b,gp] V w3:=((ay.refl [] V).drew.mono (by simp)).trans' mO;have ak:=ar (Xa.out w3 XV);have ax:=ar (Md.out w3 aF);clear aF mO XV Xa Md RO aK sS af Rg uo qp c3;go_wp2_with fail;refine⟨trivial,λz=>z=w3,rfl,?_⟩;repeat (first
   |(refine aH.cons ?_ (aX.val rfl ?h) ?_;(case h=>(intro wz hz;subst hz;go_simp;rfl));simp only[Act.put,ag,ah,ai]))
  refine aH.done λwz hz=> ?_
  subst hz;rcases hh with ⟨U,G,s1,s2,s3⟩|⟨rfl,aj⟩
  ·have b1:(r != 0)=true:=by simpa using U
   have HS:=ar s1;have HL:=ar s2;have HF:=ar s3;clear s1 s2 s3 U ak ax;go_wp2_with(with_reducible refine gS 34 HS.out ?_);exact aL (dJ results104 rfl HL.out) rfl HF.out
  ·have HE:=ar aj
   clear aj;go_wp2_with(first|(with_reducible refine gL 79 ax.out ?_)|(with_reducible refine gL 165 ak.out ?_));refine HE.out.mono ?_;rintro e w4 ⟨x,G,rfl,s1,s2,s3⟩;have HS:=ar s1;have HL:=ar s2;have HF:=ar s3;clear s1 s2 s3 HE ak ax;go_wp2_with(with_reducible refine gS 34 HS.out ?_);exact aL (dJ results104 rfl HL.out) rfl HF.out
theorem J4{T:List (bN×Value)}(h:Di w b y B [] T own [] M)(hT:dY M){o:pX}{V vq vd:Value}{g:Nat}(hP:jh w V g o.P)(hs:∀s∈o.P,s.size<=9223372036854775807)(hK:o.K=0):
  Calls prog 53 #[.agg (iR b o V vq vd)] w (qo w b y B (Bb B M o)):=by
 obtain⟨W,hW,eo,Kg,sB,U⟩:=Nq w (iR b o V vq vd) (GM mB (.slice none 0 0) (.slice none 0 0));have hc:=Qj (vq:=vq) (vd:=vd) (h.keep0 eo) hT (hP.keep eo (by simp)) hs (.inl hK);rw[hK] at hc;have HC:=ar hc;have J3:=ar (xX Kg);have XL:Hid (∀e z,qo W b y B (Bb B M o) e z->∃Z G,e= .returned (.agg Z)/\(storeVar 34 ⟨w.heap.size+1,0,none⟩ (.agg Z)).run prog z= .ok () G/\(loadVar 34 ⟨w.heap.size+1,0,none⟩).run prog G= .ok (.agg Z) G/\qo w b y B (Bb B M o) (.returned (.agg Z)) G):=λe z hp=>TT h.lt eo U sB rfl hp
 have Qz:=Ba;clear h hT hP hs eo Kg sB U hc;rw[Bc] at *;generalize qo w b y B (Bb B M o)=Q at *;generalize qo W b y B (Bb B M o)=Q1 at *;generalize iR b o V vq vd=J at *;go_enter func53,ntmps53;go_wp2_with(with_reducible refine gL 79 J3.out ?_);refine HC.out.mono ?_;intro e z hp;obtain⟨Z,G,rfl,s1,s2,s3⟩:=XL.out e z hp;have HS:=ar s1;have HL:=ar s2;have HF:=ar s3;clear s1 s2 s3 hp XL HC hW J3;go_wp2_with(with_reducible refine gS 34 HS.out ?_);exact aL (dJ results53 rfl HL.out) rfl HF.out
end Go.Proofs.YtepbpdipenedhaaGreatDoor
