/- Lemmas. -/
import Derived.Test.YtimcfdnbpkiniaaGreatDoorM26
set_option maxHeartbeats 1000000
set_option maxRecDepth 100000
namespace Go.Proofs.YtimcfdnbpkiniaaGreatDoor
open Go.Proofs.Tryz
open Go.RowKit
variable{w:World}{b gp:Nat}{B:List Int}{T:List (bS×Value)}{own:Nat->List Nat}{M:Nat->Nd}
theorem Wq (h:rz w b gp B [] T own [] M)(hT:dB M)(o:iP)(z vq vd:Value){d:Nat}{nm:ByteArray}{f:Int}(hf:ba (M d).E nm=f)(ax:0<=f)(th:Bool):
  Calls prog 122 #[cC b o z vq vd,cH d nm th f] w (cQ w b gp B [] 1400 (λr qs=>r=0/\zQ B qs (BX M d nm))):=by
 obtain⟨W,hW,cM,jK,rZ,au⟩:∃W,(w.alloc (.cells (cC b o z vq vd) 91)).alloc (.cells (cH d nm th f) 174)=W/\ay [] w W/\bc W w.heap.size (cC b o z vq vd) 91/\bc W (w.heap.size+1) (cH d nm th f) 174/\W.heap.size=w.heap.size+2:=
  ⟨_,rfl,((ay.refl _ _).alloc _).alloc _,(bc.new w _ _).alloc _,bc.new2 w _ _ _ _,by rw[aU,aU]⟩
 have aa:=h.lt;obtain⟨j,rfl⟩:∃j:Nat,f=(j:Int):=⟨f.toNat,by omega⟩;have BK:=iY hT (d:=d) (nm:=nm) (by omega);rw[hf,aF] at BK;have ac:=hT.notSelf BK.1;have ah:=(hT.dir BK.1).1;have U:ou M d (iX (M d).E nm) j=M j:=by rw[pL,aA (cV ac)]
 have hL:=(OL hT (h.nd.snd hT).few BK.2.1).1;have af:Hid (Calls prog 159 #[cC b o z vq vd,.agg (cH d nm th (j:Int))] W λe w1=>e=(0:Int)/\ay [b,gp] W w1/\
   Calls prog 160 #[cC b o z vq vd,(j:Int)] w1 λe w2=>e=(0:Int)/\cQ w b gp B [] 1400 (λr qs=>r=0/\zQ B qs (BX M d nm)) (.returned (0:Int)) w2):=by
  refine(OJ (h.keep0 cM) (by simp) o z vq vd ah nm th (j:Int)).mono ?_;rintro e w1 ⟨r,q1,kQ,rfl,h1,h2,h3,h4,rfl,ae,oZ⟩;refine⟨rfl,h3,?_⟩;obtain⟨T1,aB,g1,-⟩:=id ae;have av:=(h.keep0 cM).go h2 h3 h1 g1;refine(Kk av (by rw[bN];omega) o z vq vd (i:=j) (by rw[U];exact BK.2.1) (by rw[U];exact hL)).mono ?_;rintro e w2 ⟨r,q2,lH,rfl,e1,e2,e3,e4,e5⟩;have ak:=e5;rw[br] at ak;obtain⟨rfl,hl⟩:=LN (by rw[hf,aF]) (cV ac) ae ak;have hs:=h3.size;have az:=e3.size;refine⟨rfl,0,q1++q2,lH,rfl,by omega,by rw[<-aV];exact e2,((cM.mono).trans' h3).trans e3 (λy hy=> ?_),by rw[aC];omega,rfl,hl⟩;simp only[aM,aK,bC] at hy ⊢;omega
 have lN:Hid (∀G,ay [b,gp] W G->(loadVar 91 w.heap.size).run prog G= .ok (.agg (cC b o z vq vd)) G):=λG hk=>jC (jK.keep hk (eF aa (by omega)))
 have ai:=ar (jk rZ);have ag:Hid (∀G,ay [b,gp] W G->G.cell? ⟨w.heap.size+1,3,none⟩=some (.int .i64 (j:Int))):=λG hk=>by
  rw[(rZ.keep hk (eF aa (by omega))).cell];rfl
 have jl:=ar (lN.out W (ay.refl _ _));clear h hT cM jK rZ au aa BK ac ah U hL hf ax;generalize cQ w b gp B [] 1400 (λr qs=>r=0/\zQ B qs (BX M d nm))=Q,cC b o z vq vd=J,cH d nm th (j:Int)=Zs at *;generalize (j:Int)=ji at *;go_in;go_wp2_with(with_reducible first|refine gL 91 jl.out ?_|refine gL 174 ai.out ?_);refine Rr af.out ?_;rintro w1 ⟨V,aj⟩;obtain⟨HU,Ws⟩:=hh2 aj (lN.out w1 V);have c1:=ag.out w1 V;clear V aj lN ag af jl ai hW;go_wp2_with(with_reducible refine gL 91 Ws.out ?_);refine Rr HU.out λw2 hq=> ?_;have HF:=ar hq;clear hq HU;go_wp2
 first|exact HF.out|(go_ret;exact HF.out)
theorem aaz{o:iP}(G:o.K=5\/o.K=6)(J:¬(o.P=[]/\o.K=5))(V:kA M o.P=0)(U:o.K=5->(M (ba (M (bo M o.P).1).E (aQ o.P)).toNat).K≠2)
  (z:o.K=6->(M (ba (M (bo M o.P).1).E (aQ o.P)).toNat).K=2/\(M (ba (M (bo M o.P).1).E (aQ o.P)).toNat).E=[]):iJ M o=(BX M (bo M o.P).1 (aQ o.P),fh):=by
 rw[BM G J V,aA (λh=>U h.1 h.2),aA (λh=>h.2 (z h.1).1),aA (λh=>h.2 (z h.1).2)]
theorem sG (h:World){S0 Z0:Array Value}(V:S0.size=4)(hZ:Z0.size=18)(d:Nat)(nm:ByteArray)(th:Bool)(i:Int){n:bS}{v:Value}(hB:n.B.length=13)(hv:v.oneCell'=true):
  ∃G z,(storeVar 174 h.heap.size (.agg (cH d nm th i))).run prog ((h.alloc (.cells S0 174)).alloc (.cells Z0 75))= .ok () G/\(storeVar 75 (h.heap.size+1:Nat) (.agg (aL n v))).run prog G= .ok () z/\
   bc z h.heap.size (cH d nm th i) 174/\bc z (h.heap.size+1) (aL n v) 75/\ay [] h z/\z.heap.size≥h.heap.size+2:=by
 obtain⟨G,p1,p2,J⟩:=iQ (d:=d) (nm:=nm) (th:=th) (i:=i) ((bc.new h S0 174).alloc (.cells Z0 75)) V;obtain⟨z,q1,q2,q3⟩:=cr (n:=n) (v:=v) ((bc.new2 h S0 174 Z0 75).keep J) hZ hB hv;have W:=J.size;have h2:=q3.size;rw[aU,aU] at W;exact⟨G,z,p1,q1,p2.keep q3,q2,((((ay.refl [] h).alloc _).alloc _).trans J (by intro y U;rw[au] at U;omega)).trans q3 (by intro y U;rw[au] at U;omega),by omega⟩
structure aff (w:World) (b gp:Nat) (B:List Int) (M:Nat->Nd) (o:iP) (J:Array Value) (W:World):Prop where
 err:∀r,r≠0->(iJ M o).2=cW r->∀w1,ay [] W w1->vI (w.heap.size+1) #[(r:Int),(0:Int),(0:Int),(0:Int),(0:Int),(),()] (fH w b gp B (kY B M o)) w1
 run:iJ M o=(BX M (bo M o.P).1 (aQ o.P),fh)->kA M o.P=0->∀w1,ay [] W w1->Calls prog 122 #[J,cH (bo M o.P).1 (aQ o.P) true (ba (M (bo M o.P).1).E (aQ o.P))] w1 λe w2=>∃wy,e=(0:Int)/\
  (storeVar 38 (w.heap.size+1:Nat) (.agg #[(0:Int),(0:Int),(0:Int),(0:Int),(0:Int),(),()])).run prog w2= .ok () wy/\(loadVar 38 (w.heap.size+1:Nat)).run prog wy= .ok (.agg #[(0:Int),(0:Int),(0:Int),(0:Int),(0:Int),(),()]) wy/\fH w b gp B (kY B M o) (.returned (.agg #[(0:Int),(0:Int),(0:Int),(0:Int),(0:Int),(),()])) wy
 load:∀wx,ay [] W wx->(loadVar 91 w.heap.size).run prog wx= .ok (.agg J) wx
theorem wU{W:World}(h:rz w b gp B [] T own [] M)(hT:dB M){o:iP}{V vq vd:Value}{G:Array Value}(cM:ay [] w W)(jK:bc W w.heap.size (cC b o V vq vd) 91)(jI:bc W (w.heap.size+1) G 38)(hc:G.size=7)(ac:W.heap.size=w.heap.size+2):aff w b gp B M o (cC b o V vq vd) W:=by
 have U:=h.lt;refine⟨λr aa J w1 z=> ?_,λJ hn w1 z=> ?_,λwx z=>jC (jK.keep z)⟩
 ·obtain⟨wy,s1,s2,s3,s4⟩:=lG jI hc z (by simp) r
  exact⟨wy,s1,s2,fH.none h ((cM.trans' z).trans s4 (by intro y hy;rw[au] at hy;omega)) s3 (.inr (.inl ⟨aa,J⟩))⟩
 ·obtain⟨n1,n2⟩:=qG hn
  refine(Wq (h.keep0 (cM.trans' z)) hT o V vq vd rfl n2 true).mono ?_;rintro e w2 ⟨r,qs,kQ,rfl,h1,h2,h3,h4,rfl,h5⟩;have jY:ay [b,gp] W w2:=(z.mono).trans' h3;obtain⟨wy,s1,s2,s3,s4⟩:=yA (r:=fh) jI hc jY (eF U (by omega)) rfl rfl rfl;have hs:=z.size;refine⟨wy,rfl,s1,s2,fH.some U cM (by omega) (Rq:=λr qs=>kY B M o fh qs) (m:=1400) ⟨0,qs,kQ,rfl,by omega,h2,jY,h4,.inr (.inr ⟨rfl,by rw[J];rfl,.inl (by rw[J]),?_⟩)⟩ (by omega) s4 s3 λqs hq=>hq⟩;rw[J];exact h5
theorem Jd (h:rz w b gp B [] T own [] M)(hT:dB M){o:iP}{vp vq vd:Value}{g:Nat}(hP:fU w vp g o.P)(hs:∀s∈o.P,s.size<=9223372036854775807)(hK:o.K=5):
  Calls prog 69 #[cC b o vp vq vd] w (fH w b gp B (kY B M o)):=by
 obtain⟨W,hW,cM,jK,jI,ae⟩:=mq w (cC b o vp vq vd) (tU fh (.slice none 0 0) (.slice none 0 0));obtain⟨AU,nU⟩:=hh2 (Hq (h.keep0 cM) hT o vp vq vd (hP.keep cM) hs) (wU h hT cM jK jI rfl ae);obtain⟨pa,pc,rfl,af,ah,-⟩:=hP.open;have c1:W.cell? ⟨w.heap.size,2,none⟩=some (.slice pa o.P.length pc):=by rw[jK.cell];rfl
 have jl:=ar (nU.out.load W (ay.refl _ _));have ac:Hid (o.P=[]->(iJ M o).2=cW 5):=aag hK;have tP:Hid (o.P≠[]->kA M o.P≠0->(iJ M o).2=cW (kA M o.P)):=λhp U=>OO (.inl hK) (λh=>hp h.1) U
 have V:Hid (o.P≠[]->kA M o.P=0->(nT T (ba (M (bo M o.P).1).E (aQ o.P)).toNat).K=2->(iJ M o).2=cW 5):=λhp U hk=>by
  rw[BM (.inl hK) (λh=>hp h.1) U,aB ⟨hK,by rw[<-h.nd.kind];exact hk⟩]
 have xf:Hid (o.P≠[]->kA M o.P=0->(nT T (ba (M (bo M o.P).1).E (aQ o.P)).toNat).K≠2->iJ M o=(BX M (bo M o.P).1 (aQ o.P),fh)):=λhp U hk=>
  aaz (.inl hK) (λh=>hp h.1) U (λ_=>by rw[<-h.nd.kind];exact hk) (λh=>by omega)
 have nP:Hid (kA M o.P=0->(nT T (ba (M (bo M o.P).1).E (aQ o.P)).toNat).B.length=13):=λU=>(h.nd.store (iY hT (qG U).2).2.1).len
 have EU:=lD;have aj:=oV;have rq:=dC;clear h hT hP hs cM jK jI ae hK;have e0:cH 0 ⟨#[]⟩ false 0= #[.int .i64 0,.string ⟨#[]⟩,.bool false,.int .i64 0]:=rfl;rcases eo o.P.length with h0|h0
 ·have aa:o.P=[]:=List.length_eq_zero_iff.1 h0
  obtain⟨wy,s1,s2,s3⟩:=nU.out.err 5 (by omega) (ac.out aa) W (ay.refl _ _);obtain⟨HS,HL,HF⟩:=hh3 s1 s2 s3;rw[h0] at c1;clear s1 s2 s3 nU AU ac tP V xf nP jl af ah aa h0 e0;rw[lF] at *;generalize fH w b gp B (kY B M o)=Q,cC b o _ vq vd=J at *;go_in;go_wp2_with(with_reducible refine gS 38 HS.out ?_);exact aH (bu results69 rfl HL.out) rfl HF.out
 ·have z:o.P≠[]:=λe=>by rw[e] at h0;simp at h0
  obtain⟨tP,V,xf⟩:=hh3 (tP.out z) (V.out z) (xf.out z);have bl:((o.P.length:Int)==0)=false:=by rw[cg];omega
  obtain⟨xo,jO,mO⟩:=hh3 nU.out.run nU.out.err nU.out.load;clear nU ac z h0 af ah;unfold Rx at AU;rw[lF] at *;rw[e0] at AU;clear e0;generalize fH w b gp B (kY B M o)=Q,hJ:cC b o _ vq vd=J,kA M o.P=ne,iJ M o=DM,o.P.length=m,ai:aL bY (.slice none 0 0)=Z0 at *;have jt:=ar ai;clear hJ ai;go_in;go_wp2_with(with_reducible refine gL 91 jl.out ?_);refine AU.out.mono ?_;rintro e w1 ⟨G,⟨z,rfl⟩|⟨rfl,v,g,rfl,hE,hg⟩⟩
  ·obtain⟨w2,w3,p1,p2,-,-,p5,-⟩:=sG w1 (S0:= #[.int .i64 0,.string ⟨#[]⟩,.bool false,.int .i64 0]) (Z0:=Z0) rfl (by rw[<-jt.out];rfl) 0 ⟨#[]⟩ false 0 (n:=bY) (v:= .slice none 0 0) rfl rfl
   obtain⟨wy,s1,s2,s3⟩:=jO.out ne z (tP.out z) w3 (G.trans' p5);rw[jt.out] at p2;have b1:(ne != 0)=true:=by simpa using z
   obtain⟨jh,o5,HS,HL,HF⟩:=hh5 p1 p2 s1 s2 s3;clear hW p1 p2 p5 G s1 s2 s3 z AU tP V xf nP xo jO mO jl jt c1;unfold cH at jh;go_wp2_with(with_reducible first|refine gS 174 jh.out ?_|refine gS 75 o5.out ?_|refine gS 38 HS.out ?_);exact aH (bu results69 rfl HL.out) rfl HF.out
  ·have ag:=nP.out rfl
   obtain⟨V,xf⟩:=hh2 (V.out rfl) (xf.out rfl);generalize U:nT T (ba (M (bo M o.P).1).E (aQ o.P)).toNat=n at *;obtain⟨w2,w3,p1,p2,p3,p4,p5,-⟩:=sG w1 (S0:= #[.int .i64 0,.string ⟨#[]⟩,.bool false,.int .i64 0]) (Z0:=Z0) rfl (by rw[<-jt.out];rfl) (bo M o.P).1 (aQ o.P) true (ba (M (bo M o.P).1).E (aQ o.P)) (n:=n) (v:=v) ag hE.one;have c2:w3.cell? ⟨w1.heap.size+1,1,none⟩=some (.int .i64 n.K):=by rw[p4.cell];exact(fT v ag).f1
   obtain⟨jh,o5,JC⟩:=hh3 p1 p2 (jk p3);have jY:=G.trans' p5;by_cases h2:n.K=2
   ·obtain⟨wy,s1,s2,s3⟩:=jO.out 5 (by omega) (V.out h2) w3 jY
    obtain⟨HS,HL,HF⟩:=hh3 s1 s2 s3;rw[h2] at c2;clear hW p1 p2 p3 p4 p5 G jY s1 s2 s3 hE hg AU tP V xf nP xo jO mO jl JC jt c1 h2 U;generalize aL n v=Zn,cH (bo M o.P).1 (aQ o.P) true (ba (M (bo M o.P).1).E (aQ o.P))=Zs at *;go_wp2_with(with_reducible first|refine gS 174 jh.out ?_|refine gS 75 o5.out ?_|refine gS 38 HS.out ?_);exact aH (bu results69 rfl HL.out) rfl HF.out
   ·have HR:=ar (xo.out (xf.out h2) rfl w3 jY)
    have yC:=ar (mO.out w3 jY);have b2:(n.K==2)=false:=by simpa using h2
    clear hW p1 p2 p3 p4 p5 G jY hE hg AU tP V xf nP xo jO mO jl jt c1 h2 U;generalize aL n v=Zn,n.K=nk,cH (bo M o.P).1 (aQ o.P) true (ba (M (bo M o.P).1).E (aQ o.P))=Zs at *;go_wp2_with(with_reducible first|refine gS 174 jh.out ?_|refine gS 75 o5.out ?_|refine gL 91 yC.out ?_|refine gL 174 JC.out ?_);refine HR.out.mono ?_;rintro e w4 ⟨wy,rfl,s1,s2,s3⟩;obtain⟨HS,HL,HF⟩:=hh3 s1 s2 s3;clear s1 s2 s3 HR yC JC jh o5;go_wp2_with(with_reducible refine gS 38 HS.out ?_);exact aH (bu results69 rfl HL.out) rfl HF.out
theorem LS (h:rz w b gp B [] T own [] M)(hT:dB M){o:iP}{vp vq vd:Value}{g:Nat}(hP:fU w vp g o.P)(hs:∀s∈o.P,s.size<=9223372036854775807)(hK:o.K=6):
  Calls prog 70 #[cC b o vp vq vd] w (fH w b gp B (kY B M o)):=by
 obtain⟨W,hW,cM,jK,jI,af⟩:=mq w (cC b o vp vq vd) (tU fh (.slice none 0 0) (.slice none 0 0));obtain⟨AU,nU⟩:=hh2 (Hq (h.keep0 cM) hT o vp vq vd (hP.keep cM) hs) (wU h hT cM jK jI rfl af);have c1:W.cell? ⟨w.heap.size,2,none⟩=some vp:=by rw[jK.cell];rfl
 have jl:=ar (nU.out.load W (ay.refl _ _));have hp:¬(o.P=[]/\o.K=5):=λh=>by omega
 have tP:Hid (kA M o.P≠0->(iJ M o).2=cW (kA M o.P)):=λz=>OO (.inr hK) hp z
 have ry:Hid (kA M o.P=0->(nT T (ba (M (bo M o.P).1).E (aQ o.P)).toNat).K≠2->(iJ M o).2=cW 4):=λz hk=>by
  rw[BM (.inr hK) hp z,aA (λh=>by omega),aB ⟨hK,by rw[<-h.nd.kind];exact hk⟩]
 have Gk:Hid (kA M o.P=0->(nT T (ba (M (bo M o.P).1).E (aQ o.P)).toNat).K=2->(nT T (ba (M (bo M o.P).1).E (aQ o.P)).toNat).S=((M (ba (M (bo M o.P).1).E (aQ o.P)).toNat).E.length:Int)):=λz hk=>by
  have ai:=(iY hT (qG z).2).2.1;rw[Di h.nd ai,h.nd.node (by rw[<-h.nd.kind];exact hk)];simp
 have G:Hid (kA M o.P=0->(nT T (ba (M (bo M o.P).1).E (aQ o.P)).toNat).K=2->(M (ba (M (bo M o.P).1).E (aQ o.P)).toNat).E≠[]->(iJ M o).2=cW 6):=λz hk he=>by
  rw[BM (.inr hK) hp z,aA (λh=>by omega),aA (λV=>V.2 (by rw[<-h.nd.kind];exact hk)),aB ⟨hK,he⟩]
 have xf:Hid (kA M o.P=0->(nT T (ba (M (bo M o.P).1).E (aQ o.P)).toNat).K=2->(M (ba (M (bo M o.P).1).E (aQ o.P)).toNat).E=[]->iJ M o=(BX M (bo M o.P).1 (aQ o.P),fh)):=λz hk he=>
  aaz (.inr hK) hp z (λh=>by omega) (λ_=>⟨by rw[<-h.nd.kind];exact hk,he⟩)
 have nP:Hid (kA M o.P=0->(nT T (ba (M (bo M o.P).1).E (aQ o.P)).toNat).B.length=13):=λz=>(h.nd.store (iY hT (qG z).2).2.1).len
 have EU:=lD;have aj:=oV;have rq:=dC;clear h hT hP hs cM jK jI af hK hp;have e0:cH 0 ⟨#[]⟩ false 0= #[.int .i64 0,.string ⟨#[]⟩,.bool false,.int .i64 0]:=rfl;obtain⟨xo,jO,mO⟩:=hh3 nU.out.run nU.out.err nU.out.load;clear nU;unfold Rx at AU;rw[lF] at *;rw[e0] at AU;clear e0;generalize fH w b gp B (kY B M o)=Q,hJ:cC b o vp vq vd=J,kA M o.P=ne,iJ M o=DM,ah:aL bY (.slice none 0 0)=Z0 at *;have jt:=ar ah;clear hJ ah;go_in;go_wp2_with(with_reducible refine gL 91 jl.out ?_);refine AU.out.mono ?_;rintro e w1 ⟨U,⟨aa,rfl⟩|⟨rfl,v,g,rfl,hE,hg⟩⟩
 ·obtain⟨w2,w3,p1,p2,-,-,p5,-⟩:=sG w1 (S0:= #[.int .i64 0,.string ⟨#[]⟩,.bool false,.int .i64 0]) (Z0:=Z0) rfl (by rw[<-jt.out];rfl) 0 ⟨#[]⟩ false 0 (n:=bY) (v:= .slice none 0 0) rfl rfl
  obtain⟨wy,s1,s2,s3⟩:=jO.out ne aa (tP.out aa) w3 (U.trans' p5);rw[jt.out] at p2;have b1:(ne != 0)=true:=by simpa using aa
  obtain⟨jh,o5,HS,HL,HF⟩:=hh5 p1 p2 s1 s2 s3;clear hW p1 p2 p5 U s1 s2 s3 aa AU tP ry xf Gk G nP xo jO mO jl jt c1;unfold cH at jh;go_wp2_with(with_reducible first|refine gS 174 jh.out ?_|refine gS 75 o5.out ?_|refine gS 38 HS.out ?_);exact aH (bu results70 rfl HL.out) rfl HF.out
 ·have ae:=nP.out rfl
  obtain⟨ry,xf,Gk,G⟩:=hh4 (ry.out rfl) (xf.out rfl) (Gk.out rfl) (G.out rfl);generalize ac:(M (ba (M (bo M o.P).1).E (aQ o.P)).toNat).E=Ej,z:nT T (ba (M (bo M o.P).1).E (aQ o.P)).toNat=n at *;obtain⟨w2,w3,p1,p2,p3,p4,p5,-⟩:=sG w1 (S0:= #[.int .i64 0,.string ⟨#[]⟩,.bool false,.int .i64 0]) (Z0:=Z0) rfl (by rw[<-jt.out];rfl) (bo M o.P).1 (aQ o.P) true (ba (M (bo M o.P).1).E (aQ o.P)) (n:=n) (v:=v) ae hE.one;have c2:w3.cell? ⟨w1.heap.size+1,1,none⟩=some (.int .i64 n.K):=by rw[p4.cell];exact(fT v ae).f1
  have c3:w3.cell? ⟨w1.heap.size+1,3,none⟩=some (.int .i64 n.S):=by rw[p4.cell];exact(fT v ae).f3
  obtain⟨jh,o5,JC⟩:=hh3 p1 p2 (jk p3);have jY:=U.trans' p5;by_cases V:n.K=2
  ·have h4:=Gk.out V
   by_cases he:Ej=[]
   ·have HR:=ar (xo.out (xf.out V he) rfl w3 jY)
    have yC:=ar (mO.out w3 jY);rw[V] at c2;rw[h4,he] at c3;clear hW p1 p2 p3 p4 p5 U jY hE hg AU tP ry xf Gk G nP xo jO mO jl jt c1 V h4 he z ac;generalize aL n v=Zn,cH (bo M o.P).1 (aQ o.P) true (ba (M (bo M o.P).1).E (aQ o.P))=Zs at *;go_wp2_with(with_reducible first|refine gS 174 jh.out ?_|refine gS 75 o5.out ?_|refine gL 91 yC.out ?_|refine gL 174 JC.out ?_);refine HR.out.mono ?_;rintro e w4 ⟨wy,rfl,s1,s2,s3⟩;obtain⟨HS,HL,HF⟩:=hh3 s1 s2 s3;clear s1 s2 s3 HR yC JC jh o5;go_wp2_with(with_reducible refine gS 38 HS.out ?_);exact aH (bu results70 rfl HL.out) rfl HF.out
   ·obtain⟨wy,s1,s2,s3⟩:=jO.out 6 (by omega) (G.out V he) w3 jY
    obtain⟨HS,HL,HF⟩:=hh3 s1 s2 s3;have ag:0<Ej.length:=List.length_pos_iff.2 he;have b3:decide ((0:Int)<n.S)=true:=bq (by omega);rw[V] at c2;clear hW p1 p2 p3 p4 p5 U jY s1 s2 s3 hE hg AU tP ry xf Gk G nP xo jO mO jl JC jt c1 V h4 he z ac ag;generalize aL n v=Zn,n.S=ns,cH (bo M o.P).1 (aQ o.P) true (ba (M (bo M o.P).1).E (aQ o.P))=Zs at *;go_wp2_with(with_reducible first|refine gS 174 jh.out ?_|refine gS 75 o5.out ?_|refine gS 38 HS.out ?_);exact aH (bu results70 rfl HL.out) rfl HF.out
  ·obtain⟨wy,s1,s2,s3⟩:=jO.out 4 (by omega) (ry.out V) w3 jY
   obtain⟨HS,HL,HF⟩:=hh3 s1 s2 s3;have b2:(n.K != 2)=true:=by simpa using V
   clear hW p1 p2 p3 p4 p5 U jY s1 s2 s3 hE hg AU tP ry xf Gk G nP xo jO mO jl JC jt c1 V z ac;generalize aL n v=Zn,n.K=nk,cH (bo M o.P).1 (aQ o.P) true (ba (M (bo M o.P).1).E (aQ o.P))=Zs at *;go_wp2_with(with_reducible first|refine gS 174 jh.out ?_|refine gS 75 o5.out ?_|refine gS 38 HS.out ?_);exact aH (bu results70 rfl HL.out) rfl HF.out
theorem RN{X:List Int}(h:∀i,M i=sA X (nT T i))(hN:Q0 T)(ho:∀i,32<=i->(nT T i).E=[])(d i:Nat):Reach T (d:Int) (i:Int)↔kI M d i:=by
 constructor
 ·intro hr
  have V:∀x,Reach T (d:Int) x->∃n:Nat,x=(n:Int)/\kI M d n:=by
   intro x W;induction W with
   |here=>exact⟨d,rfl,.here⟩
   | @step a b _ hb ih=>
    obtain⟨n,rfl,hn⟩:=ih;have J:=hN _ b hb;obtain⟨m,rfl⟩:∃m:Nat,b=(m:Int):=⟨b.toNat,by omega⟩;unfold oO at hb;split at hb
    ·obtain⟨e,U,z⟩:=bH.1 hb
     rw[aF] at U;exact⟨m,rfl,hn.step ⟨e,by rw[h];exact U,z⟩⟩
    ·simp at hb
  obtain⟨n,J,h2⟩:=V _ hr;rw[show i=n by omega];exact h2
 ·intro hc
  induction hc with
  |here=>exact .here
  | @step a b _ U ih=>
   obtain⟨e,G,z⟩:=U;rw[h] at G;have G:e∈(nT T a).E:=G;have ha:a<32:=by
    rcases dF a 32 with J|J
    ·exact J
    ·rw[ho a J] at G;simp at G
   refine ih.step ?_;unfold oO;rw[aB,aF];exact bH.2 ⟨e,G,z⟩
theorem Wt (J:Array Value)(d:Nat)(nm:ByteArray)(i:Int)(U:Int):
  Calls prog 125 #[J,cH d nm false i,U] w λe w'=>e=(0:Int)/\ay [] w w':=by
 obtain⟨W,V,z,h⟩:∃W,(w.alloc (.cells J 91)).alloc (.cells (cH d nm false i) 174)=W/\ay [] w W/\bc W (w.heap.size+1) (cH d nm false i) 174 :=
  ⟨_,rfl,((ay.refl _ _).alloc _).alloc _,bc.new2 w _ _ _ _⟩
 have c1:W.cell? ⟨w.heap.size+1,2,none⟩=some (.bool false):=by rw[h.cell];rfl
 have G:Hid (ay [] w W):=z;clear z h;generalize cH d nm false i=Zs at *;go_in;go_wp2;go_ret;exact⟨rfl,G.out⟩
theorem Wu (h:rz w b gp B [] T own [] M)(o:iP)(vp vq vd:Value)(d:Nat)(nm:ByteArray){i j:Nat}(hj:(M j).K≠0)(hi:(M i).K=1\/(M i).K=2)(ai:(M j).K=1\/(M j).K=2):
  Calls prog 125 #[cC b o vp vq vd,.agg (cH d nm true (j:Int)),.int .i64 (M i).K] w λe w'=>e=(uu M i j:Int)/\ay [] w w':=by
 obtain⟨W,hW,cM,jK,rZ,ah⟩:∃W,(w.alloc (.cells (cC b o vp vq vd) 91)).alloc (.cells (cH d nm true (j:Int)) 174)=W/\ay [] w W/\bc W w.heap.size (cC b o vp vq vd) 91/\bc W (w.heap.size+1) (cH d nm true (j:Int)) 174/\W.heap.size=w.heap.size+2:=
  ⟨_,rfl,((ay.refl _ _).alloc _).alloc _,(bc.new w _ _).alloc _,bc.new2 w _ _ _ _,by rw[aU,aU]⟩
 have HG:=ar ((h.keep0 cM).get hj);have U:=(h.nd.store hj).len;have V:(nT T j).K=2->(nT T j).S=((M j).E.length:Int):=λhk=>by
  rw[Di h.nd hj,h.nd.node (by rw[<-h.nd.kind];exact hk)];simp
 have aa:=h.nd.kind j;have c1:W.cell? w.heap.size=some (.pointer (some ⟨b,0,none⟩)):=by rw[jK.cell];rfl
 have c2:W.cell? ⟨w.heap.size+1,2,none⟩=some (.bool true):=by rw[rZ.cell];rfl
 have c3:W.cell? ⟨w.heap.size+1,3,none⟩=some (.int .i64 (j:Int)):=by rw[rZ.cell];rfl
 have fG:=ar cM;have rq:=dC;have ae:Hid (uu M i j=if (M i).K=1/\(M j).K=2 then 5 else if (M i).K=2/\(M j).K=1 then 4 else if (M j).K=2/\(M j).E≠[] then 6 else 0):=rfl;clear h cM jK rZ ah hj;generalize uu M i j=ov,(M i).K=ki,(M j).K=kj,(M j).E=Ej,nT T j=n,(j:Int)=ji,ag:aL bY (.slice none 0 0)=Z0 at *;have jt:=ar ag;clear ag;generalize cC b o vp vq vd=J,cH d nm true ji=Zs at *;go_in;go_wp2_with fail;refine HG.out.mono ?_;rintro e w1 ⟨v,g,va,rfl,hE,hg,ac⟩;obtain⟨w2,p1,p2,p3⟩:=cr (n:=n) (v:=v) (bc.new w1 Z0 75) (by rw[<-jt.out];rfl) U hE.one;have eP:ay [] w1 w2:=((ay.refl _ _).alloc _).trans p3 (by intro x hx;rw[au] at hx;omega);have c4:w2.cell? ⟨w1.heap.size,1,none⟩=some (.int .i64 kj):=by rw[p2.cell,<-aa];exact(fT v U).f1
 have c5:w2.cell? ⟨w1.heap.size,3,none⟩=some (.int .i64 n.S):=by rw[p2.cell];exact(fT v U).f3
 have jh:=ar p1;have HF:Hid (ay [] w w2):=fG.out.trans' (ac.trans' eP);have z:=ae.out;rw[aa] at V;clear p1 p2 p3 ac eP hE hg HG fG ae aa hW jt c1 c2 c3 U;generalize aL n v=Zn,n.S=ns at *;rcases hi with rfl|rfl<;>rcases ai with rfl|rfl
 ·have G:ov=0:=by rw[z];simp
  subst G;clear V z;go_wp2_with(with_reducible refine gS 75 jh.out ?_);go_ret;exact⟨rfl,HF.out⟩
 ·have G:ov=5:=by rw[z];simp
  subst G;clear V z;go_wp2_with(with_reducible refine gS 75 jh.out ?_);go_ret;exact⟨rfl,HF.out⟩
 ·have G:ov=4:=by rw[z];simp
  subst G;clear V z;go_wp2_with(with_reducible refine gS 75 jh.out ?_);go_ret;exact⟨rfl,HF.out⟩
 ·have hs:=V rfl
  by_cases he:Ej=[]
  ·have G:ov=0:=by rw[z,he];simp
   subst G;have b1:decide ((0:Int)<ns)=false:=aP (by rw[hs,he];simp);clear V z hs he;go_wp2_with(with_reducible refine gS 75 jh.out ?_);go_ret;exact⟨rfl,HF.out⟩
  ·have G:ov=6:=by rw[z];simp[he]
   subst G;have af:0<Ej.length:=List.length_pos_iff.2 he;have b1:decide ((0:Int)<ns)=true:=bq (by omega);clear V z hs he af;go_wp2_with(with_reducible refine gS 75 jh.out ?_);go_ret;exact⟨rfl,HF.out⟩
def Kr (B:List Int) (M M':Nat->Nd) (d t:Nat) (th:Bool) (r:Int) (qs:List (Int×Int)):Prop:=
 (r=7/\((th=false/\d≠t/\24<=(M t).E.length)\/(aY B).length<40))\/(r=0/\¬(th=false/\d≠t/\24<=(M t).E.length)/\zQ B qs M')
theorem Ty (h:dB M){d:Nat}{nm:ByteArray}(G:0<=ba (M d).E nm):(iX (M d).E nm).length+1=(M d).E.length:=by
 rcases yr h d nm with J|⟨-,A,B,-,-,z⟩
 ·omega
 ·exact z
theorem aaA (z:dB M)(hF:mW M){d t i:Nat}{nm nm':ByteArray}(U:ba (M d).E nm=(i:Int))(th:Bool)(J:th=true->0<=ba (M t).E nm')(V:th=false->ba (M t).E nm'<0)
  (h:24<(wP (ou M d (iX (M d).E nm) t).E nm' (i:Int)).length):th=false/\d≠t/\24<=(M t).E.length:=by
 have W:=hF.len t;unfold wP at h;rw[vD,oQ] at h;cases th with
 |true=>
  have G:=Ty z (J rfl)
  exfalso
  split at h
  ·next e=>
   subst e;rw[Km] at h;have :=vC (iX (M t).E nm') nm;omega
  ·omega
 |false=>
  refine⟨rfl,?_⟩;split at h
  ·next e=>
   subst e;have G:=Ty z (d:=t) (nm:=nm) (by omega);have :=vC (iX (M t).E nm) nm';omega
  ·next e=>
   have :=vC (M t).E nm';exact⟨cV e,by omega⟩
theorem aaB (G:dB M){d t i:Nat}{nm nm':ByteArray}(h:(wP (ou M d (iX (M d).E nm) t).E nm' (i:Int)).length<=24):¬((ba (M t).E nm'<0)/\d≠t/\24<=(M t).E.length):=by
 rintro⟨z,J,U⟩;rw[oQ,aA (cV J),Hp G z,vD] at h;omega
theorem acS{M':Nat->Nd}(h:rz w b gp B [] T own [] M)(hT:dB M)(o:iP)(vp vq vd:Value){d t i:Nat}{nm nm':ByteArray}(hf:ba (M d).E nm=(i:Int))(ht:(M t).K=2)(hg:ig (bl nm')=true)(U:Bool){th:Bool}{jx:Int}
  (Wv:th=false->ba (M t).E nm'<0/\M'=Oc M d t i nm nm') (Oi:th=true->∃j:Nat,jx=(j:Int)/\ba (M t).E nm'=(j:Int)/\j≠t/\j≠d/\M'=Oc (BX M t nm') d t i nm nm'):
  Calls prog 126 #[cC b o vp vq vd,.agg (cH d nm U (i:Int)),cH t nm' th jx] w (cQ w b gp B [] 2200 (Kr B M M' d t th)):=by
 obtain⟨W,hW,cM,jK,rZ,af,aN⟩:∃W,((w.alloc (.cells (cC b o vp vq vd) 91)).alloc (.cells (cH d nm U (i:Int)) 174)).alloc (.cells (cH t nm' th jx) 174)=W/\ay [] w W/\bc W w.heap.size (cC b o vp vq vd) 91/\bc W (w.heap.size+1) (cH d nm U (i:Int)) 174/\bc W (w.heap.size+1+1) (cH t nm' th jx) 174/\W.heap.size=w.heap.size+3:=by
  refine⟨_,rfl,(((ay.refl _ _).alloc _).alloc _).alloc _,((bc.new w _ _).alloc _).alloc _,(bc.new2 w _ _ _ _).alloc _,?_,by rw[aU,aU,aU]⟩;have :=bc.new2 (w.alloc (.cells (cC b o vp vq vd) 91)) (cH d nm U (i:Int)) 174 (cH t nm' th jx) 174;rwa[aU] at this
 have ae:=h.lt;have hF:=(h.nd.snd hT).few;have BK:=iY hT (d:=d) (nm:=nm) (by omega);rw[hf,aF] at BK;have aI:=(hT.dir BK.1).1;have jr:=BK.2.2.2;have aR:∀q1,Ay (az B []) [] M d nm 0 q1->True:=λ_ _=>trivial
 have hrel:∀{kQ:Nat} {w1 w2:World},kQ=gp\/(W.heap.size<=kQ/\kQ<w1.heap.size)->ay [b,gp] W w1->ay [b,kQ] w1 w2->ay [b,gp] W w2:=λaT ac G=>ac.trans G λy hy=>by
  simp only[aM,aK,bC] at hy ⊢;omega
 -- the three steps
 have ag:Hid (Calls prog 159 #[cC b o vp vq vd,.agg (cH d nm U (i:Int))] W λe w1=>e=(0:Int)/\ay [b,gp] W w1/\
   Calls prog 128 #[cC b o vp vq vd,cH t nm' th jx,(i:Int)] w1 λe w2=>ay [b,gp] W w2/\((e=(7:Int)/\cQ w b gp B [] 2200 (Kr B M M' d t th) (.returned (7:Int)) w2)\/
    (e=(0:Int)/\((th=false/\cQ w b gp B [] 2200 (Kr B M M' d t th) (.returned (0:Int)) w2)\/
     (th=true/\Calls prog 160 #[cC b o vp vq vd,jx] w2 λe w3=>e=(0:Int)/\cQ w b gp B [] 2200 (Kr B M M' d t th) (.returned (0:Int)) w3))))):=by
  refine(OJ (h.keep0 cM) (by simp) o vp vq vd aI nm U (i:Int)).mono ?_;rintro e w1 ⟨r,q1,kQ,rfl,h1,h2,h3,h4,rfl,ak,oZ⟩;refine⟨rfl,h3,?_⟩;obtain⟨T1,bb,g1,-⟩:=id ak;have aD:=(h.keep0 cM).go h2 h3 h1 g1;have aP:(ou M d (iX (M d).E nm) t).K=2:=by rw[(yj _ _ _ _).1];exact ht
  refine(Ho aD (by rw[bN];omega) o vp vq vd (d:=t) aP hg th jx (i:=(i:Int)) (by omega)).mono ?_;rintro e w2 ⟨r,q2,lH,rfl,e1,e2,e3,e4,e5⟩;have qZ:=hrel h1 h3 e3;have bg:=h3.size;have aZ:=e3.size;refine⟨qZ,?_⟩;have aH:=e5;rw[br] at aH;rcases aH with ⟨rfl,bf,z⟩|⟨rfl,aL,Yj⟩
  ·left
   refine⟨rfl,7,q1++q2,lH,rfl,by omega,by rw[<-aV];exact e2,(cM.mono).trans' qZ,by rw[aC];omega,.inl ⟨rfl,?_⟩⟩;rcases z with z|z
   ·exact .inl (aaA hT hF hf th (λh=>by obtain⟨j,-,hj,-⟩:=Oi h;omega) (λh=>(Wv h).1) z)
   ·right
    have :(aY B).length<=(aY (az B q1)).length:=oZ;have aX:(aY (az B q1)).length<11:=z;omega
  ·right
   refine⟨rfl,?_⟩;have ai:=ak.trans Yj;cases th with
   |false=>
    left
    refine⟨rfl,0,q1++q2,lH,rfl,by omega,by rw[<-aV];exact e2,(cM.mono).trans' qZ,by rw[aC];omega,.inr ⟨rfl,λhh=>aaB hT aL ⟨(Wv rfl).1,hh.2⟩,?_⟩⟩;rw[(Wv rfl).2,<-ae1 hT (Wv rfl).1];exact ai.lands (by omega)
   |true=>
    right
    refine⟨rfl,?_⟩;obtain⟨j,rfl,aj,aB,aG,rfl⟩:=Oi rfl;have Je:=iY hT (d:=t) (nm:=nm') (by omega);rw[aj,aF] at Je;obtain⟨T2,aS,g2,-⟩:=id Yj;have aQ:=aD.go (qs:=q2) e2 e3 e1 (by rw[bN];exact g2);have ax:ou (ou M d (iX (M d).E nm)) t (wP (ou M d (iX (M d).E nm) t).E nm' (i:Int)) j=M j:=by rw[pL,aA aB,pL,aA aG]
    refine(Kk aQ (by rw[bN,aC];omega) o vp vq vd (i:=j) (by rw[ax];exact Je.2.1) (by rw[ax];exact(OL hT hF Je.2.1).1)).mono ?_;rintro e w3 ⟨r,q3,Rk,rfl,f1,f2,f3,f4,rfl,aO,-⟩;have aW:=f3.size;have aJ:=aO;rw[br,bN,acF (by rw[aj,aF]) aB aG] at aJ;have au:=ai.trans (q:=q3) (by rw[br];exact aJ);refine⟨rfl,0,q1++q2++q3,Rk,rfl,by omega,by rw[<-aV,<-aV];exact f2,((cM.mono).trans' qZ).trans f3 (λy hy=> ?_),by rw[aC,aC];omega,.inr ⟨rfl,(λhh=>by simp at hh),au.lands (by omega)⟩⟩;simp only[aM,aK,bC] at hy ⊢;omega
 have lN:Hid (∀V,ay [b,gp] W V->(loadVar 91 w.heap.size).run prog V= .ok (.agg (cC b o vp vq vd)) V):=λV hk=>jC (jK.keep hk (eF ae (by omega)))
 have DI:Hid (∀V,ay [b,gp] W V->(loadVar 174 (w.heap.size+1+1:Nat)).run prog V= .ok (.agg (cH t nm' th jx)) V):=λV hk=>jk (af.keep hk (eF ae (by omega)))
 have av:=ar (jk rZ);have aa:Hid (∀V,ay [b,gp] W V->V.cell? ⟨w.heap.size+1,3,none⟩=some (.int .i64 (i:Int))/\V.cell? ⟨w.heap.size+1+1,2,none⟩=some (.bool th)/\V.cell? ⟨w.heap.size+1+1,3,none⟩=some (.int .i64 jx)):=λV hk=>by
  have h1:=rZ.keep hk (eF ae (by omega));have h2:=af.keep hk (eF ae (by omega));exact⟨by rw[h1.cell];rfl,by rw[h2.cell];rfl,by rw[h2.cell];rfl⟩
 have jl:=ar (lN.out W (ay.refl _ _));clear h hT cM jK rZ af aN ae BK aI jr hF aR hrel hf ht hg Oi Wv;generalize cQ w b gp B [] 2200 (Kr B M M' d t th)=Q,cC b o vp vq vd=J,cH d nm U (i:Int)=Zs,cH t nm' th jx=Zt at *;generalize (i:Int)=ii at *;go_in;go_wp2_with(with_reducible first|refine gL 91 jl.out ?_|refine gL 174 av.out ?_);refine Rr ag.out ?_;rintro w1 ⟨ac,ah⟩;obtain⟨HE,Ws,RO⟩:=hh3 ah (lN.out w1 ac) (DI.out w1 ac);obtain⟨c1,-,-⟩:=aa.out w1 ac;clear ac ah ag jl av hW DI;go_wp2_with(with_reducible first|refine gL 91 Ws.out ?_|refine gL 174 RO.out ?_);refine HE.out.mono ?_;rintro e w2 ⟨G,⟨rfl,hq⟩|⟨rfl,⟨rfl,hq⟩|⟨rfl,hq⟩⟩⟩
 ·have HF:=ar hq
  clear hq G HE aa Ws RO lN c1;go_wp2
  first|exact HF.out|(go_ret;exact HF.out)
 ·have HF:=ar hq
  obtain⟨-,c2,-⟩:=aa.out w2 G;clear hq G HE aa Ws RO lN c1;go_wp2
  first|exact HF.out|(go_ret;exact HF.out)
 ·have HU:=ar hq
  obtain⟨-,c2,c3⟩:=aa.out w2 G;have vL:=ar (lN.out w2 G);clear hq G HE aa Ws RO lN c1;go_wp2_with(with_reducible refine gL 91 vL.out ?_);refine Rr HU.out λw3 hq=> ?_;have HF:=ar hq;clear hq HU;go_wp2
  first|exact HF.out|(go_ret;exact HF.out)
section
variable {M:Nat->Nd} {o:iP}
theorem acT (h:o.K=7)(z:o.Q≠[])(J:kA M o.P=0)(G:(bo M o.Q).2≠0):(iJ M o).2=cW (bo M o.Q).2:=by
 rw[vJ h z J,aB G]
theorem aaC (h:o.K=7)(G:o.Q≠[])(J:kA M o.P=0)(U:(bo M o.Q).2=0)(z:ba (M (bo M o.Q).1).E (aQ o.Q)=ba (M (bo M o.P).1).E (aQ o.P)):iJ M o=(M,fh):=by
 rw[vJ h G J,aA,aB z]
theorem aaD (z:o.K=7)(J:o.Q≠[])(U:kA M o.P=0)(V:(bo M o.Q).2=0)(G:ba (M (bo M o.Q).1).E (aQ o.Q)≠ba (M (bo M o.P).1).E (aQ o.P))(h:kI M (ba (M (bo M o.P).1).E (aQ o.P)).toNat (bo M o.Q).1):(iJ M o).2=cW 11:=by
 rw[vJ z J U,aA,aA G,aB h]
theorem aaE (G:o.K=7)(U:o.Q≠[])(W:kA M o.P=0)(he:(bo M o.Q).2=0)(J:ba (M (bo M o.Q).1).E (aQ o.Q)≠ba (M (bo M o.P).1).E (aQ o.P))(h:¬kI M (ba (M (bo M o.P).1).E (aQ o.P)).toNat (bo M o.Q).1)(V:0<=ba (M (bo M o.Q).1).E (aQ o.Q))
  (z:uu M (ba (M (bo M o.P).1).E (aQ o.P)).toNat (ba (M (bo M o.Q).1).E (aQ o.Q)).toNat≠0):(iJ M o).2=cW (uu M (ba (M (bo M o.P).1).E (aQ o.P)).toNat (ba (M (bo M o.Q).1).E (aQ o.Q)).toNat):=by
 rw[vJ G U W,aA,aA J,aA h,aB V,aB z]
theorem acU (z:o.K=7)(J:o.Q≠[])(U:kA M o.P=0)(V:(bo M o.Q).2=0)(G:ba (M (bo M o.Q).1).E (aQ o.Q)≠ba (M (bo M o.P).1).E (aQ o.P))(h:¬kI M (ba (M (bo M o.P).1).E (aQ o.P)).toNat (bo M o.Q).1)(W:ba (M (bo M o.Q).1).E (aQ o.Q)<0):
  iJ M o=if (bo M o.P).1≠(bo M o.Q).1/\24<=(M (bo M o.Q).1).E.length then (M,cW 7) else
   (Oc M (bo M o.P).1 (bo M o.Q).1 (ba (M (bo M o.P).1).E (aQ o.P)).toNat (aQ o.P) (aQ o.Q),fh):=by
 rw[vJ z J U,aA,aA G,aA h,aA]
theorem acV (z:o.K=7)(J:o.Q≠[])(V:kA M o.P=0)(he:(bo M o.Q).2=0)(G:ba (M (bo M o.Q).1).E (aQ o.Q)≠ba (M (bo M o.P).1).E (aQ o.P))(h:¬kI M (ba (M (bo M o.P).1).E (aQ o.P)).toNat (bo M o.Q).1)(U:0<=ba (M (bo M o.Q).1).E (aQ o.Q))
  (W:uu M (ba (M (bo M o.P).1).E (aQ o.P)).toNat (ba (M (bo M o.Q).1).E (aQ o.Q)).toNat=0):iJ M o=(Oc (BX M (bo M o.Q).1 (aQ o.Q)) (bo M o.P).1 (bo M o.Q).1 (ba (M (bo M o.P).1).E (aQ o.P)).toNat (aQ o.P) (aQ o.Q),fh):=by
 rw[vJ z J V,aA,aA G,aA h,aB U,aA]
theorem acW {B:List Int}{M':Nat->Nd}{d t:Nat}{th:Bool}{r:Int}{qs:List (Int×Int)}(U:o.K=7)(z:iJ M o=if th=false/\d≠t/\24<=(M t).E.length then (M,cW 7) else (M',fh))(h:Kr B M M' d t th r qs):kY B M o { fh with E:=r } qs:=by
 have G:Dd o.K=true:=by rw[U];rfl
 rcases h with ⟨rfl,V⟩|⟨rfl,hn,W⟩
 ·by_cases J:th=false/\d≠t/\24<=(M t).E.length
  ·rw[aB J] at z
   exact .inr (.inl ⟨by show(7:Int)≠0;omega,by rw[z]⟩)
  ·rw[aA J] at z
   exact .inl ⟨rfl,G,.inl (by rw[z];rfl),.inl (V.resolve_left J)⟩
 ·rw[aA hn] at z
  exact .inr (.inr ⟨rfl,by rw[z];rfl,.inl (by rw[z];rfl),by rw[z];exact W⟩)
end
def yD (w:World) (b z:Nat) (B:List Int) (R:lX->List (Int×Int)->Prop) (e:Ending) (G:World):Prop:=
 ∃r h,e=(r:Int)/\(storeVar 38 (w.heap.size+1:Nat) (.agg #[(r:Int),(0:Int),(0:Int),(0:Int),(0:Int),(),()])).run prog G= .ok () h/\(loadVar 38 (w.heap.size+1:Nat)).run prog h= .ok (.agg #[(r:Int),(0:Int),(0:Int),(0:Int),(0:Int),(),()]) h/\fH w b z B R (.returned (.agg #[(r:Int),(0:Int),(0:Int),(0:Int),(0:Int),(),()])) h
theorem Ww (h:rz w b gp B [] T own [] M)(hT:dB M){o:iP}{vp vq vd:Value}{g g2:Nat}(hP:fU w vp g o.P)(hs:∀s∈o.P,s.size<=9223372036854775807)(hQ:fU w vq g2 o.Q)(bn:∀s∈o.Q,s.size<=9223372036854775807)(hK:o.K=7):
  Calls prog 71 #[cC b o vp vq vd] w (fH w b gp B (kY B M o)):=by
 obtain⟨W,hW,cM,jK,jI,aK⟩:=mq w (cC b o vp vq vd) (tU fh (.slice none 0 0) (.slice none 0 0));have AU:=ar (Hq (h.keep0 cM) hT o vp vq vd (hP.keep cM) hs);have xp:Hid (∀wx,ay [] W wx->Calls prog 123 #[cC b o vp vq vd,vq] wx (Em wx M o.Q)):=λwx hk=>Dc (h.keep0 (cM.trans' hk)) hT o vp vq vd (hQ.keep (cM.trans' hk)) bn
 have nU:=ar (wU h hT cM jK jI rfl aK);have aF:=h.lt;obtain⟨pa,pc,rfl,aW,bp,-⟩:=hQ.open;have c1:W.cell? ⟨w.heap.size,2,none⟩=some vp:=by rw[jK.cell];rfl
 have c2:W.cell? ⟨w.heap.size,3,none⟩=some (.slice pa o.Q.length pc):=by rw[jK.cell];rfl
 have pX:Hid (∀wx,ay [] W wx->wx.cell? w.heap.size=some (.pointer (some ⟨b,0,none⟩))/\wx.cell? ⟨w.heap.size,3,none⟩=some (.slice pa o.Q.length pc)):=λwx hk=>by
  have G:=jK.keep hk;exact⟨by rw[G.cell];rfl,by rw[G.cell];rfl⟩
 have aT:Hid (o.Q=[]->(iJ M o).2=cW 1):=acE hK;have tP:Hid (o.Q≠[]->kA M o.P≠0->(iJ M o).2=cW (kA M o.P)):=λhq hn=>aah hK hq hn
 -- behind both spots
 have nP:Hid (kA M o.P=0->(nT T (ba (M (bo M o.P).1).E (aQ o.P)).toNat).B.length=13/\(nT T (ba (M (bo M o.P).1).E (aQ o.P)).toNat).K=(M (ba (M (bo M o.P).1).E (aQ o.P)).toNat).K/\0<=ba (M (bo M o.P).1).E (aQ o.P)):=λhn=>⟨(h.nd.store (iY hT (qG hn).2).2.1).len,h.nd.kind _,(qG hn).2⟩
 have ry:Hid (o.Q≠[]->kA M o.P=0->(bo M o.Q).2≠0->(iJ M o).2=cW (bo M o.Q).2):=acT hK;have qU:Hid (o.Q≠[]->kA M o.P=0->(bo M o.Q).2=0->ba (M (bo M o.Q).1).E (aQ o.Q)=ba (M (bo M o.P).1).E (aQ o.P)->∀U,ay [] W U->vI (w.heap.size+1) #[(0:Int),(0:Int),(0:Int),(0:Int),(0:Int),(),()] (fH w b gp B (kY B M o)) U):=λhq hn he ag U hk=>by
  obtain⟨wy,s1,s2,s3,s4⟩:=yA (r:=fh) jI rfl hk (by simp) rfl rfl rfl;have hd:=aaC hK hq hn he ag;exact⟨wy,s1,s2,fH.none h ((cM.trans' hk).trans s4 (by intro y hy;rw[au] at hy;omega)) s3 (.inr (.inr ⟨rfl,by rw[hd];rfl,.inl (by rw[hd]),by rw[hd];exact h.nd.stay⟩))⟩
 have aG:Hid (kA M o.P=0->∀wx,ay [] W wx->Calls prog 124 #[b,(ba (M (bo M o.P).1).E (aQ o.P):Int),((bo M o.Q).1:Int)] wx (dz wx (kI M (ba (M (bo M o.P).1).E (aQ o.P)).toNat (bo M o.Q).1))):=λhn wx hk=>by
  have BK:=iY hT (qG hn).2;have G:=(h.keep0 (cM.trans' hk)).shT.below (ba (M (bo M o.P).1).E (aQ o.P)) ((bo M o.Q).1:Int);have h2:Reach T (ba (M (bo M o.P).1).E (aQ o.P)) ((bo M o.Q).1:Int)=kI M (ba (M (bo M o.P).1).E (aQ o.P)).toNat (bo M o.Q).1:=propext (by
   have :=RN h.nd.abs h.nd.st.gots.tabN (BG h.nd.st.gots) (ba (M (bo M o.P).1).E (aQ o.P)).toNat (bo M o.Q).1;rwa[BK.2.2.1] at this)
  rwa[h2] at G
 have xf:Hid (o.Q≠[]->kA M o.P=0->(bo M o.Q).2=0->ba (M (bo M o.Q).1).E (aQ o.Q)≠ba (M (bo M o.P).1).E (aQ o.P)->kI M (ba (M (bo M o.P).1).E (aQ o.P)).toNat (bo M o.Q).1->(iJ M o).2=cW 11):=aaD hK
 -- whether what is there yields, and the move
 have ae:Hid (o.Q≠[]->kA M o.P=0->(bo M o.Q).2=0->ba (M (bo M o.Q).1).E (aQ o.Q)≠ba (M (bo M o.P).1).E (aQ o.P)->¬kI M (ba (M (bo M o.P).1).E (aQ o.P)).toNat (bo M o.Q).1->∀th jx,((th=false/\ba (M (bo M o.Q).1).E (aQ o.Q)<0/\jx=0)\/(th=true/\0<=ba (M (bo M o.Q).1).E (aQ o.Q)/\jx=ba (M (bo M o.Q).1).E (aQ o.Q)))->∀wx,ay [] W wx->
   Calls prog 125 #[cC b o vp (.slice pa o.Q.length pc) vd,cH (bo M o.Q).1 (aQ o.Q) th jx,.int .i64 (M (ba (M (bo M o.P).1).E (aQ o.P)).toNat).K] wx λe U=>∃y,e=(y:Int)/\ay [] wx U/\
    ((y≠0/\(iJ M o).2=cW y)\/(y=0/\Calls prog 126 #[cC b o vp (.slice pa o.Q.length pc) vd,cH (bo M o.P).1 (aQ o.P) true (ba (M (bo M o.P).1).E (aQ o.P)),cH (bo M o.Q).1 (aQ o.Q) th jx] U (yD w b gp B (kY B M o))))):=λhq hn he ag hc th jx Oi wx hk=>by
  obtain⟨n1,n2⟩:=qG hn;have BK:=iY hT n2;have bj:=pG (M:=M) he;have xa:(M (ba (M (bo M o.P).1).E (aQ o.P)).toNat).K=1\/(M (ba (M (bo M o.P).1).E (aQ o.P)).toNat).K=2:=by
   rcases hT.kind (ba (M (bo M o.P).1).E (aQ o.P)).toNat with G|G|G
   ·exact absurd (by rw[G];rfl) BK.2.1
   ·exact .inl G.1
   ·exact .inr G.1
  -- the move itself
  have bt:∀{M':Nat->Nd},(th=false->ba (M (bo M o.Q).1).E (aQ o.Q)<0/\M'=Oc M (bo M o.P).1 (bo M o.Q).1 (ba (M (bo M o.P).1).E (aQ o.P)).toNat (aQ o.P) (aQ o.Q))->(th=true->∃j:Nat,jx=(j:Int)/\ba (M (bo M o.Q).1).E (aQ o.Q)=(j:Int)/\j≠(bo M o.Q).1/\j≠(bo M o.P).1/\M'=Oc (BX M (bo M o.Q).1 (aQ o.Q)) (bo M o.P).1 (bo M o.Q).1 (ba (M (bo M o.P).1).E (aQ o.P)).toNat (aQ o.P) (aQ o.Q))->
    (iJ M o=if th=false/\(bo M o.P).1≠(bo M o.Q).1/\24<=(M (bo M o.Q).1).E.length then (M,cW 7) else (M',fh))->∀U,ay [] wx U->Calls prog 126 #[cC b o vp (.slice pa o.Q.length pc) vd,cH (bo M o.P).1 (aQ o.P) true (ba (M (bo M o.P).1).E (aQ o.P)),cH (bo M o.Q).1 (aQ o.Q) th jx] U (yD w b gp B (kY B M o)):=λa1 a2 hd U z=>by
   have bw:=cM.trans' (hk.trans' z);have :=acS (h.keep0 bw) hT o vp (.slice pa o.Q.length pc) vd (d:=(bo M o.P).1) (t:=(bo M o.Q).1) (i:=(ba (M (bo M o.P).1).E (aQ o.P)).toNat) (nm:=aQ o.P) (nm':=aQ o.Q) BK.2.2.1.symm bj.1 bj.2.1 true (th:=th) (jx:=jx) a1 a2;rw[BK.2.2.1] at this;refine this.mono ?_;rintro e w2 ⟨r,qs,kQ,rfl,G,h2,h3,h4,h5⟩;have jY:ay [b,gp] W w2:=((hk.trans' z).mono).trans' h3;obtain⟨wy,s1,s2,s3,s4⟩:=lG jI rfl jY (eF aF (by omega)) r;have bI:=(hk.trans' z).size;exact⟨r,wy,rfl,s1,s2,fH.some aF cM (by omega) (Rq:=λr qs=>kY B M o { fh with E:=r } qs) (m:=2200) ⟨r,qs,kQ,rfl,by omega,h2,jY,h4,acW hK hd h5⟩ (by omega) s4 s3 λqs hq=>hq⟩
  rcases Oi with ⟨rfl,bb,rfl⟩|⟨rfl,aO,rfl⟩
  ·refine(Wt (w:=wx) (cC b o vp (.slice pa o.Q.length pc) vd) (bo M o.Q).1 (aQ o.Q) 0 _).mono ?_
   rintro e U ⟨rfl,z⟩;refine⟨0,rfl,z,.inr ⟨rfl,bt (λ_=>⟨bb,rfl⟩) (λh=>by simp at h) ?_ U z⟩⟩;rw[acU hK hq hn he ag hc bb];by_cases av:(bo M o.P).1≠(bo M o.Q).1/\24<=(M (bo M o.Q).1).E.length
   ·rw[aB av,aB ⟨rfl,av⟩]
   ·rw[aA av,aA (λh=>av h.2)]
  ·have Je:=iY hT aO
   have bz:(M (ba (M (bo M o.Q).1).E (aQ o.Q)).toNat).K=1\/(M (ba (M (bo M o.Q).1).E (aQ o.Q)).toNat).K=2:=by
    rcases hT.kind (ba (M (bo M o.Q).1).E (aQ o.Q)).toNat with G|G|G
    ·exact absurd (by rw[G];rfl) Je.2.1
    ·exact .inl G.1
    ·exact .inr G.1
   have hy:=Wu (h.keep0 (cM.trans' hk)) o vp (.slice pa o.Q.length pc) vd (bo M o.Q).1 (aQ o.Q) (i:=(ba (M (bo M o.P).1).E (aQ o.P)).toNat) (j:=(ba (M (bo M o.Q).1).E (aQ o.Q)).toNat) Je.2.1 xa bz;rw[Je.2.2.1] at hy;refine Rr hy λU z=> ?_;refine⟨_,rfl,z,?_⟩;by_cases hv:uu M (ba (M (bo M o.P).1).E (aQ o.P)).toNat (ba (M (bo M o.Q).1).E (aQ o.Q)).toNat=0
   ·refine .inr ⟨hv,bt (λh=>by simp at h) (λ_=>⟨_,Je.2.2.1.symm,Je.2.2.1.symm,cV (hT.notSelf Je.1),λe=> ?_,rfl⟩) ?_ U z⟩
    ·have aS:uu M (ba (M (bo M o.P).1).E (aQ o.P)).toNat (ba (M (bo M o.Q).1).E (aQ o.Q)).toNat=if (M (ba (M (bo M o.P).1).E (aQ o.P)).toNat).K=1/\(M (ba (M (bo M o.Q).1).E (aQ o.Q)).toNat).K=2 then 5 else if (M (ba (M (bo M o.P).1).E (aQ o.P)).toNat).K=2/\(M (ba (M (bo M o.Q).1).E (aQ o.Q)).toNat).K=1 then 4 else if (M (ba (M (bo M o.Q).1).E (aQ o.Q)).toNat).K=2/\(M (ba (M (bo M o.Q).1).E (aQ o.Q)).toNat).E≠[] then 6 else 0:=rfl
     rw[hv,e] at aS;have br:=(hT.dir BK.1).1;have bB:(M (bo M o.P).1).E≠[]:=λh0=>by
      obtain⟨x,hx,-⟩:=BK.1;rw[h0] at hx;simp at hx
     rcases xa with G|G
     ·rw[aB ⟨G,br⟩] at aS;omega
     ·rw[aA (λh=>by omega),aA (λh=>by omega),aB ⟨br,bB⟩] at aS;omega
    ·rw[acV hK hq hn he ag hc aO hv,aA (λh=>by simp at h)]
   ·exact .inl ⟨hv,aaE hK hq hn he ag hc aO hv⟩
 have EU:=lD;have bE:=oV;have rq:=dC;obtain⟨jl,lJ⟩:=hh2 (nU.out.load W (ay.refl _ _)) aK;clear h hT hP hs hQ bn cM jK jI aK hK aF;have e0:cH 0 ⟨#[]⟩ false 0= #[.int .i64 0,.string ⟨#[]⟩,.bool false,.int .i64 0]:=rfl;rcases eo o.Q.length with h0|h0
 ·have aJ:o.Q=[]:=List.length_eq_zero_iff.1 h0
  obtain⟨wy,s1,s2,s3⟩:=nU.out.err 1 (by omega) (aT.out aJ) W (ay.refl _ _);obtain⟨HS,HL,HF⟩:=hh3 s1 s2 s3;rw[h0] at c2;clear s1 s2 s3 nU AU xp aT tP ry xf nP qU aG ae pX jl lJ aW bp aJ h0 e0;rw[lF] at *;generalize fH w b gp B (kY B M o)=Q,cC b o vp _ vd=J at *;go_in;go_wp2_with(with_reducible refine gS 38 HS.out ?_);exact aH (bu results71 rfl HL.out) rfl HF.out
 ·have aa:o.Q≠[]:=λe=>by rw[e] at h0;simp at h0
  obtain⟨tP,ry,xf,qU,ae⟩:=hh5 (tP.out aa) (ry.out aa) (xf.out aa) (qU.out aa) (ae.out aa);have bl:((o.Q.length:Int)==0)=false:=by rw[cg];omega
  obtain⟨jO,mO⟩:=hh2 nU.out.err nU.out.load;clear nU aT aa h0 aW bp;unfold Rx at AU;unfold yD at ae;unfold Em at xp;rw[lF] at *;rw[e0] at AU xp;clear e0;generalize fH w b gp B (kY B M o)=Q,o.Q.length=m at *;generalize hJ:cC b o vp (.slice pa m pc) vd=J,kA M o.P=ne,iJ M o=DM,bA:ba (M (bo M o.P).1).E (aQ o.P)=f,aY:aL bY (.slice none 0 0)=Z0 at *;have jt:=ar aY;clear hJ aY bA;go_in;go_wp2_with(with_reducible refine gL 91 jl.out ?_);refine AU.out.mono ?_;rintro e U ⟨z,⟨aa,rfl⟩|⟨rfl,v,g,rfl,hE,hg⟩⟩
  ·obtain⟨w2,w3,p1,p2,-,-,p5,-⟩:=sG U (S0:= #[.int .i64 0,.string ⟨#[]⟩,.bool false,.int .i64 0]) (Z0:=Z0) rfl (by rw[<-jt.out];rfl) 0 ⟨#[]⟩ false 0 (n:=bY) (v:= .slice none 0 0) rfl rfl
   obtain⟨wy,s1,s2,s3⟩:=jO.out ne aa (tP.out aa) w3 (z.trans' p5);rw[jt.out] at p2;have b1:(ne != 0)=true:=by simpa using aa
   obtain⟨jh,o5,HS,HL,HF⟩:=hh5 p1 p2 s1 s2 s3;clear hW p1 p2 p5 z s1 s2 s3 aa AU xp tP ry xf nP qU aG ae pX jO mO jl lJ jt c1 c2;unfold cH at jh;go_wp2_with(with_reducible first|refine gS 174 jh.out ?_|refine gS 75 o5.out ?_|refine gS 38 HS.out ?_);exact aH (bu results71 rfl HL.out) rfl HF.out
  ·obtain⟨aU,aN,bH⟩:=nP.out rfl
   obtain⟨Eo,PF,ax,aI,az⟩:=hh5 (ry.out rfl) (xf.out rfl) (qU.out rfl) (ae.out rfl) (aG.out rfl);clear ry xf qU ae aG;generalize hn:nT T f.toNat=n at *;obtain⟨w2,w3,p1,p2,p3,p4,p5,p6⟩:=sG U (S0:= #[.int .i64 0,.string ⟨#[]⟩,.bool false,.int .i64 0]) (Z0:=Z0) rfl (by rw[<-jt.out];rfl) (bo M o.P).1 (aQ o.P) true f (n:=n) (v:=v) aU hE.one;have jY:=z.trans' p5;have bJ:w.heap.size+2<=U.heap.size:=by have :=z.size;have :=lJ.out;omega
   obtain⟨jh,o5,aD,yC⟩:=hh4 p1 p2 (xp.out w3 jY) (mO.out w3 jY);obtain⟨-,c3⟩:=pX.out w3 jY;have qC:Hid (bc w3 U.heap.size (cH (bo M o.P).1 (aQ o.P) true f) 174/\bc w3 (U.heap.size+1) (aL n v) 75/\w3.heap.size≥U.heap.size+2):=⟨p3,p4,p6⟩;have mK:=ar jY;clear hW p1 p2 p3 p4 p5 p6 z jY hE hg AU tP nP jl c1 c2 xp hn;generalize Xb:aL n v=Zn,aj:cH (bo M o.P).1 (aQ o.P) true f=Zf,bo M o.Q=R2 at *;generalize ba (M R2.1).E (aQ o.Q)=f2 at *;obtain⟨t,e2⟩:=R2
   dsimp only at *
   go_wp2_with(with_reducible first|refine gS 174 jh.out ?_|refine gS 75 o5.out ?_|refine gL 91 yC.out ?_);refine aD.out.mono ?_;rintro e w4 ⟨ak,hh⟩;rcases hh with ⟨he,rfl⟩|⟨rfl,th,jx,rfl,Oi⟩
   ·obtain⟨w5,q1,q2,q3⟩:=iQ (d:=0) (nm:=⟨#[]⟩) (th:=false) (i:=0) (bc.new w4 #[(0:Int),.string ⟨#[]⟩,false,(0:Int)] 174) rfl
    have rE:ay [] w4 w5:=((ay.refl [] w4).alloc _).trans q3 (by intro x hx;rw[au] at hx;omega);obtain⟨wy,s1,s2,s3⟩:=jO.out e2 he (Eo.out he) w5 (mK.out.trans' (ak.trans' rE));have b1:(e2 != 0)=true:=by simpa using he
    obtain⟨rp,HS,HL,HF⟩:=hh4 q1 s1 s2 s3;clear q1 q2 q3 ak rE s1 s2 s3 he aD Eo PF ax az aI pX jO mO lJ jt yC qC mK jh o5 c3;unfold cH at rp;go_wp2_with(with_reducible first|refine gS 174 rp.out ?_|refine gS 38 HS.out ?_);exact aH (bu results71 rfl HL.out) rfl HF.out
   ·obtain⟨w5,q1,q2,q3⟩:=iQ (d:=t) (nm:=aQ o.Q) (th:=th) (i:=jx) (bc.new w4 #[(0:Int),.string ⟨#[]⟩,false,(0:Int)] 174) rfl
    have rE:ay [] w4 w5:=((ay.refl [] w4).alloc _).trans q3 (by intro x hx;rw[au] at hx;omega);have tZ:=ak.trans' rE;have Jf:=mK.out.trans' tZ;have aC:=qC.out.1.keep tZ;have af:=qC.out.2.1.keep tZ;have d1:w5.cell? ⟨U.heap.size,3,none⟩=some (.int .i64 f):=by rw[aC.cell,<-aj];rfl
    have d2:w5.cell? ⟨w4.heap.size,2,none⟩=some (.bool th):=by rw[q2.cell];rfl
    have d3:w5.cell? ⟨w4.heap.size,3,none⟩=some (.int .i64 jx):=by rw[q2.cell];rfl
    have rp:=ar q1;by_cases V:f2=f
    ·have bC:th=true/\jx=f:=by
      rcases Oi with ⟨-,aF,-⟩|⟨G,-,h2⟩
      ·omega
      ·exact⟨G,by omega⟩
     obtain⟨rfl,rfl⟩:=bC;obtain⟨wy,s1,s2,s3⟩:=ax.out (by first|trivial|rfl) V w5 Jf;obtain⟨HS,HL,HF⟩:=hh3 s1 s2 s3;clear q1 q2 q3 ak rE tZ Jf aC af s1 s2 s3 V Oi aD Eo PF ax az aI pX jO mO lJ jt yC qC mK jh o5 c3 aj Xb aN;generalize cH t (aQ o.Q) true jx=Zt at *;go_wp2_with(with_reducible first|refine gS 174 rp.out ?_|refine gS 38 HS.out ?_);exact aH (bu results71 rfl HL.out) rfl HF.out
    ·have XP:th=false\/(th=true/\(jx==f)=false):=by
      rcases Oi with ⟨G,-,-⟩|⟨G,-,h2⟩
      ·exact .inl G
      ·exact .inr ⟨G,by rw[cg];omega⟩
     have d4:w5.cell? w4.heap.size=some (.int .i64 (t:Int)):=by rw[q2.cell];rfl
     obtain⟨d5,-⟩:=pX.out w5 Jf;obtain⟨Un,aV,bg,pU,bh⟩:=hh5 (az.out w5 Jf) (aI.out (by first|trivial|rfl) V) (PF.out (by first|trivial|rfl) V) Jf Oi;have DX:Hid (bc w5 U.heap.size Zf 174/\bc w5 (U.heap.size+1) Zn 75/\bc w5 w4.heap.size (cH t (aQ o.Q) th jx) 174):=⟨aC,af,q2⟩;clear q1 q2 q3 ak rE tZ Jf aC af V Oi aD Eo PF ax az aI lJ jt yC qC mK jh o5 c3;have HW:Hid (∀rb:Bool,(rb=true↔kI M f.toNat t)->∀w6,ay [] w5 w6->(rb=true->vI (w.heap.size+1) #[(11:Int),(0:Int),(0:Int),(0:Int),(0:Int),(),()] Q w6)):=λrb ac w6 jE G=>jO.out 11 (by omega) (bg.out (ac.1 G)) w6 (pU.out.trans' jE)
     have bk:∀(Zt:Array Value),cH t (aQ o.Q) th jx=Zt->∀rb w6,(rb=true↔kI M f.toNat t)->ay [] w5 w6->rb=false->
       (loadVar 91 w.heap.size).run prog w6= .ok (.agg J) w6/\(loadVar 174 w4.heap.size).run prog w6= .ok (.agg Zt) w6/\w6.cell? ⟨U.heap.size+1,1,none⟩=some (.int .i64 n.K)/\
       Calls prog 125 #[J,.agg Zt,n.K] w6 λe w7=>∃y,e=(y:Int)/\
        ((y≠0/\vI (w.heap.size+1) #[(y:Int),(0:Int),(0:Int),(0:Int),(0:Int),(),()] Q w7)\/
        (y=0/\(loadVar 91 w.heap.size).run prog w7= .ok (.agg J) w7/\(loadVar 174 U.heap.size).run prog w7= .ok (.agg Zf) w7/\(loadVar 174 w4.heap.size).run prog w7= .ok (.agg Zt) w7/\Calls prog 126 #[J,Zf,.agg Zt] w7 λe w2=>∃r wy,e=(r:Int)/\(storeVar 38 (w.heap.size+1:Nat) (.agg #[(r:Int),(0:Int),(0:Int),(0:Int),(0:Int),(),()])).run prog w2= .ok () wy/\(loadVar 38 (w.heap.size+1:Nat)).run prog wy= .ok (.agg #[(r:Int),(0:Int),(0:Int),(0:Int),(0:Int),(),()]) wy/\Q (.returned (.agg #[(r:Int),(0:Int),(0:Int),(0:Int),(0:Int),(),()])) wy)):=λZt ai rb w6 ac jE hf=>by
      have aX:=DX.out.2.2.keep jE;have af:=DX.out.2.1.keep jE;refine⟨mO.out w6 (pU.out.trans' jE),by rw[<-ai];exact jk aX,by rw[af.cell,<-Xb];exact(fT v aU).f1,?_⟩;have hy:=aV.out (λhc=>by rw[ac.2 hc] at hf;cases hf) th jx bh.out w6 (pU.out.trans' jE);rw[ai,<-aN] at hy;refine hy.mono ?_;rintro e w7 ⟨y,rfl,xZ,⟨ah,hd⟩|⟨rfl,hm⟩⟩
      ·exact⟨y,rfl,.inl ⟨ah,jO.out y ah hd w7 (pU.out.trans' (jE.trans' xZ))⟩⟩
      ·refine⟨0,rfl,.inr ⟨rfl,mO.out w7 (pU.out.trans' (jE.trans' xZ)),?_,by rw[<-ai];exact jk (aX.keep xZ),?_⟩⟩
       ·have :=jk (d:=(bo M o.P).1) (nm:=aQ o.P) (th:=true) (i:=f) (by rw[aj];exact(DX.out.1.keep jE).keep xZ)
        rwa[aj] at this
       ·exact hm
     generalize ai:cH t (aQ o.Q) th jx=Zt at *;have aP:=ar (bk Zt rfl);clear bk bh DX aV bg jO mO pX pU Xb aj aN aU ai;generalize bD:kI M f.toNat t=bG at *;clear bD;generalize (t:Int)=ti at *;rcases XP with rfl|⟨rfl,bF⟩
     all_goals
      go_wp2_with(with_reducible refine gS 174 rp.out ?_);refine Un.out.mono ?_;rintro e w6 ⟨rb,rfl,ac,jE⟩;cases rb with
      |true=>
       obtain⟨wy,s1,s2,s3⟩:=HW.out true ac w6 jE rfl;obtain⟨HS,HL,HF⟩:=hh3 s1 s2 s3;clear s1 s2 s3 ac jE HW aP Un rp d1 d2 d3 d4 d5;go_wp2_with(with_reducible refine gS 38 HS.out ?_);exact aH (bu results71 rfl HL.out) rfl HF.out
      |false=>
       obtain⟨k1,k2,k3,k4⟩:=aP.out false w6 ac jE rfl;obtain⟨Dp,aM,aR⟩:=hh3 k1 k2 k4;clear k1 k2 k4 ac jE HW aP Un rp d1 d2 d3 d4 d5;go_wp2_with(with_reducible first|refine gL 91 Dp.out ?_|refine gL 174 aM.out ?_);refine aR.out.mono ?_;rintro e w7 ⟨y,rfl,⟨ah,wy,s1,s2,s3⟩|⟨rfl,m1,m2,m3,m4⟩⟩
       ·have HS:=ar s1
        obtain⟨HL,HF⟩:=hh2 s2 s3;have b1:(y != 0)=true:=by simpa using ah
        clear s1 s2 s3 ah Dp aM aR k3;go_wp2_with(with_reducible refine gS 38 HS.out ?_);exact aH (bu results71 rfl HL.out) rfl HF.out
       ·have bq:=ar m1
        obtain⟨bv,bf,aZ⟩:=hh3 m2 m3 m4;clear m1 m2 m3 m4 Dp aM aR k3;go_wp2_with(with_reducible first|refine gL 91 bq.out ?_|refine gL 174 bv.out ?_|refine gL 174 bf.out ?_);refine aZ.out.mono ?_;rintro e w8 ⟨r,wy,rfl,s1,s2,s3⟩;obtain⟨HS,HL,HF⟩:=hh3 s1 s2 s3;clear s1 s2 s3 bq bv bf aZ;go_wp2_with(with_reducible refine gS 38 HS.out ?_);exact aH (bu results71 rfl HL.out) rfl HF.out
end Go.Proofs.YtimcfdnbpkiniaaGreatDoor
