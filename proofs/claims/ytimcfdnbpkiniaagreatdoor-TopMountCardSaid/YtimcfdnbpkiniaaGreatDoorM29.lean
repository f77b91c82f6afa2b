/- Lemmas. -/
import Derived.Test.YtimcfdnbpkiniaaGreatDoorM27
set_option maxHeartbeats 1000000
set_option maxRecDepth 100000
namespace Go.Proofs.YtimcfdnbpkiniaaGreatDoor
open Go.Proofs.Tryz
open Go.RowKit
variable{w:World}{b gp:Nat}{B:List Int}{T:List (bT×Value)}{own:Nat->List Nat}{M:Nat->Nd}
theorem Ws (h:rC w b gp B [] T own [] M)(hT:dw M)(o:jz)(z vq vd:Value){d:Nat}{nm:ByteArray}{f:Int}(hf:bg (M d).E nm=f)(av:0<=f)(th:Bool):
  Calls prog 122 #[cB b o z vq vd,cH d nm th f] w (cQ w b gp B [] 1400 (λr qs=>r=0/\Aa B qs (Ck M d nm))):=by
 obtain⟨W,hW,cM,jN,sf,au⟩:∃W,(w.alloc (.cells (cB b o z vq vd) 91)).alloc (.cells (cH d nm th f) 174)=W/\ay [] w W/\bh W w.heap.size (cB b o z vq vd) 91/\bh W (w.heap.size+1) (cH d nm th f) 174/\W.heap.size=w.heap.size+2:=
  ⟨_,rfl,((ay.refl _ _).alloc _).alloc _,(bh.new w _ _).alloc _,bh.new2 w _ _ _ _,by rw[aX,aX]⟩
 have ac:=h.lt;obtain⟨j,rfl⟩:∃j:Nat,f=(j:Int):=⟨f.toNat,by omega⟩;have Ca:=iZ hT (d:=d) (nm:=nm) (by omega);rw[hf,aG] at Ca;have V:=hT.notSelf Ca.1;have ai:=(hT.dir Ca.1).1;have aa:oM M d (iY (M d).E nm) j=M j:=by rw[pY,aA (cZ V)]
 have hL:=(OQ hT (h.nd.snd hT).few Ca.2.1).1;have ag:Hid (Calls prog 159 #[cB b o z vq vd,.agg (cH d nm th (j:Int))] W λe w1=>e=(0:Int)/\ay [b,gp] W w1/\
   Calls prog 160 #[cB b o z vq vd,(j:Int)] w1 λe w2=>e=(0:Int)/\cQ w b gp B [] 1400 (λr qs=>r=0/\Aa B qs (Ck M d nm)) (.returned (0:Int)) w2):=by
  refine(OP (h.keep0 cM) (by simp) o z vq vd ai nm th (j:Int)).mono ?_;rintro e w1 ⟨r,q1,kX,rfl,h1,h2,h3,h4,rfl,ah,po⟩;refine⟨rfl,h3,?_⟩;obtain⟨T1,az,g1,-⟩:=id ah;have ax:=(h.keep0 cM).go h2 h3 h1 g1;refine(Kq ax (by rw[bQ];omega) o z vq vd (i:=j) (by rw[aa];exact Ca.2.1) (by rw[aa];exact hL)).mono ?_;rintro e w2 ⟨r,q2,lS,rfl,e1,e2,e3,e4,e5⟩;have ae:=e5;rw[bz] at ae;obtain⟨rfl,hl⟩:=LZ (by rw[hf,aG]) (cZ V) ah ae;have hs:=h3.size;have aB:=e3.size;refine⟨rfl,0,q1++q2,lS,rfl,by omega,by rw[<-aV];exact e2,((cM.mono (by simp)).trans' h3).trans e3 (λy hy=> ?_),by rw[aC];omega,rfl,hl⟩;simp only[aL,aK,bC] at hy ⊢;omega
 have lY:Hid (∀G,ay [b,gp] W G->(loadVar 91 w.heap.size).run prog G= .ok (.agg (cB b o z vq vd)) G):=λG hk=>jG (jN.keep hk (eD ac (by omega)))
 have aj:=ar (jn sf);have af:Hid (∀G,ay [b,gp] W G->G.cell? ⟨w.heap.size+1,3,none⟩=some (.int .i64 (j:Int))):=λG hk=>by
  rw[(sf.keep hk (eD ac (by omega))).cell];rfl
 have jo:=ar (lY.out W (ay.refl _ _));clear h hT cM jN sf au ac Ca V ai aa hL hf av;generalize cQ w b gp B [] 1400 (λr qs=>r=0/\Aa B qs (Ck M d nm))=Q,cB b o z vq vd=J,cH d nm th (j:Int)=Zs at *;generalize (j:Int)=ji at *;go_in;go_wp2_with(with_reducible first|refine gL 91 jo.out ?_|refine gL 174 aj.out ?_);refine Rr ag.out ?_;rintro w1 ⟨U,ak⟩;obtain⟨HU,Wt⟩:=hh2 ak (lY.out w1 U);have c1:=af.out w1 U;clear U ak lY af ag jo aj hW;go_wp2_with(with_reducible refine gL 91 Wt.out ?_);refine Rr HU.out λw2 hq=> ?_;have HF:=ar hq;clear hq HU;go_wp2_with fail
 first|exact HF.out|(go_ret;exact HF.out)
theorem aat{o:jz}(U:o.K=5\/o.K=6)(J:¬(o.P=[]/\o.K=5))(G:kG M o.P=0)(V:o.K=5->(M (bg (M (bq M o.P).1).E (aS o.P)).toNat).K≠2)
  (z:o.K=6->(M (bg (M (bq M o.P).1).E (aS o.P)).toNat).K=2/\(M (bg (M (bq M o.P).1).E (aS o.P)).toNat).E=[]):ko M o=(Ck M (bq M o.P).1 (aS o.P),fy):=by
 rw[Cc U J G,aA (λh=>V h.1 h.2),aA (λh=>h.2 (z h.1).1),aA (λh=>h.2 (z h.1).2)]
theorem sH (h:World){S0 Z0:Array Value}(V:S0.size=4)(W:Z0.size=18)(d:Nat)(nm:ByteArray)(th:Bool)(i:Int){n:bT}{v:Value}(hB:n.B.length=13)(hv:v.oneCell'=true):
  ∃G z,(storeVar 174 h.heap.size (.agg (cH d nm th i))).run prog ((h.alloc (.cells S0 174)).alloc (.cells Z0 75))= .ok () G/\(storeVar 75 (h.heap.size+1:Nat) (.agg (aM n v))).run prog G= .ok () z/\
   bh z h.heap.size (cH d nm th i) 174/\bh z (h.heap.size+1) (aM n v) 75/\ay [] h z/\z.heap.size≥h.heap.size+2:=by
 obtain⟨G,p1,p2,U⟩:=iU (d:=d) (nm:=nm) (th:=th) (i:=i) ((bh.new h S0 174).alloc (.cells Z0 75)) V;obtain⟨z,q1,q2,q3⟩:=cz (n:=n) (v:=v) ((bh.new2 h S0 174 Z0 75).keep U (by simp)) W hB hv;have h1:=U.size;have h2:=q3.size;rw[aX,aX] at h1;exact⟨G,z,p1,q1,p2.keep q3 (by simp),q2,((((ay.refl [] h).alloc _).alloc _).trans U (by intro y J;rw[au] at J;omega)).trans q3 (by intro y J;rw[au] at J;omega),by omega⟩
structure ae1 (w:World) (b gp:Nat) (B:List Int) (M:Nat->Nd) (o:jz) (J:Array Value) (W:World):Prop where
 err:∀r,r≠0->(ko M o).2=cW r->∀w1,ay [] W w1->vL (w.heap.size+1) #[(r:Int),(0:Int),(0:Int),(0:Int),(0:Int),(),()] (fF w b gp B (lv B M o)) w1
 run:ko M o=(Ck M (bq M o.P).1 (aS o.P),fy)->kG M o.P=0->∀w1,ay [] W w1->Calls prog 122 #[J,cH (bq M o.P).1 (aS o.P) true (bg (M (bq M o.P).1).E (aS o.P))] w1 λe w2=>∃wy,e=(0:Int)/\
  (storeVar 38 (w.heap.size+1:Nat) (.agg #[(0:Int),(0:Int),(0:Int),(0:Int),(0:Int),(),()])).run prog w2= .ok () wy/\(loadVar 38 (w.heap.size+1:Nat)).run prog wy= .ok (.agg #[(0:Int),(0:Int),(0:Int),(0:Int),(0:Int),(),()]) wy/\fF w b gp B (lv B M o) (.returned (.agg #[(0:Int),(0:Int),(0:Int),(0:Int),(0:Int),(),()])) wy
 load:∀wx,ay [] W wx->(loadVar 91 w.heap.size).run prog wx= .ok (.agg J) wx
theorem wX{W:World}{V:Nat}(h:rC w b V B [] T own [] M)(hT:dw M){o:jz}{vp vq vd:Value}{U:Array Value}(cM:ay [] w W)(jN:bh W w.heap.size (cB b o vp vq vd) 91)(jL:bh W (w.heap.size+1) U 38)(hc:U.size=7)(ac:W.heap.size=w.heap.size+2):ae1 w b V B M o (cB b o vp vq vd) W:=by
 have J:=h.lt;refine⟨λr aa G w1 z=> ?_,λG hn w1 z=> ?_,λwx z=>jG (jN.keep z (by simp))⟩
 ·obtain⟨wy,s1,s2,s3,s4⟩:=lM jL hc z (by simp) r
  exact⟨wy,s1,s2,fF.none h ((cM.trans' z).trans s4 (by intro y hy;rw[au] at hy;omega)) s3 (.inr (.inl ⟨aa,G⟩))⟩
 ·obtain⟨n1,n2⟩:=qM hn
  refine(Ws (h.keep0 (cM.trans' z)) hT o vp vq vd rfl n2 true).mono ?_;rintro e w2 ⟨r,qs,kX,rfl,h1,h2,h3,h4,rfl,h5⟩;have kg:ay [b,V] W w2:=(z.mono (by simp)).trans' h3;obtain⟨wy,s1,s2,s3,s4⟩:=yJ (r:=fy) jL hc kg (eD J (by omega)) rfl rfl rfl;have hs:=z.size;refine⟨wy,rfl,s1,s2,fF.some J cM (by omega) (Rq:=λr qs=>lv B M o fy qs) (m:=1400) ⟨0,qs,kX,rfl,by omega,h2,kg,h4,.inr (.inr ⟨rfl,by rw[G];rfl,.inl (by rw[G]),?_⟩)⟩ (by omega) s4 s3 λqs hq=>hq⟩;rw[G];exact h5
theorem Jj (h:rC w b gp B [] T own [] M)(hT:dw M){o:jz}{vp vq vd:Value}{g:Nat}(hP:gN w vp g o.P)(hs:∀s∈o.P,s.size<=9223372036854775807)(hK:o.K=5):
  Calls prog 69 #[cB b o vp vq vd] w (fF w b gp B (lv B M o)):=by
 obtain⟨W,hW,cM,jN,jL,ae⟩:=mI w (cB b o vp vq vd) (zo fy (.slice none 0 0) (.slice none 0 0));obtain⟨Ba,oh⟩:=hh2 (Ib (h.keep0 cM) hT o vp vq vd (hP.keep cM (by simp)) hs) (wX h hT cM jN jL rfl ae);obtain⟨pa,pc,rfl,ag,ah,-⟩:=hP.open;have c1:W.cell? ⟨w.heap.size,2,none⟩=some (.slice pa o.P.length pc):=by rw[jN.cell];rfl
 have jo:=ar (oh.out.load W (ay.refl _ _));have ac:Hid (o.P=[]->(ko M o).2=cW 5):=aaa hK;have tV:Hid (o.P≠[]->kG M o.P≠0->(ko M o).2=cW (kG M o.P)):=λhp U=>OT (.inl hK) (λh=>hp h.1) U
 have rO:Hid (o.P≠[]->kG M o.P=0->(nT T (bg (M (bq M o.P).1).E (aS o.P)).toNat).K=2->(ko M o).2=cW 5):=λhp U hk=>by
  rw[Cc (.inl hK) (λh=>hp h.1) U,aB ⟨hK,by rw[<-h.nd.kind];exact hk⟩]
 have V:Hid (o.P≠[]->kG M o.P=0->(nT T (bg (M (bq M o.P).1).E (aS o.P)).toNat).K≠2->ko M o=(Ck M (bq M o.P).1 (aS o.P),fy)):=λhp U hk=>
  aat (.inl hK) (λh=>hp h.1) U (λ_=>by rw[<-h.nd.kind];exact hk) (λh=>by omega)
 have ou:Hid (kG M o.P=0->(nT T (bg (M (bq M o.P).1).E (aS o.P)).toNat).B.length=13):=λU=>(h.nd.store (iZ hT (qM U).2).2.1).len
 have Gm:=l6;have aj:=pg;have rH:=dA;clear h hT hP hs cM jN jL ae hK;have e0:cH 0 ⟨#[]⟩ false 0= #[.int .i64 0,.string ⟨#[]⟩,.bool false,.int .i64 0]:=rfl;rcases dZ o.P.length with h0|h0
 ·have aa:o.P=[]:=List.length_eq_zero_iff.1 h0
  obtain⟨wy,s1,s2,s3⟩:=oh.out.err 5 (by omega) (ac.out aa) W (ay.refl _ _);obtain⟨HS,HL,HF⟩:=hh3 s1 s2 s3;rw[h0] at c1;clear s1 s2 s3 oh Ba ac tV rO V ou jo ag ah aa h0 e0;rw[lL] at *;generalize fF w b gp B (lv B M o)=Q,cB b o _ vq vd=J at *;go_in;go_wp2_with(with_reducible refine gS 38 HS.out ?_);exact aI (bA results69 rfl HL.out) rfl HF.out
 ·have z:o.P≠[]:=λe=>by rw[e] at h0;simp at h0
  obtain⟨tV,rO,V⟩:=hh3 (tV.out z) (rO.out z) (V.out z);have bl:((o.P.length:Int)==0)=false:=by rw[cL];omega
  obtain⟨xq,jR,mY⟩:=hh3 oh.out.run oh.out.err oh.out.load;clear oh ac z h0 ag ah;unfold Ry at Ba;rw[lL] at *;rw[e0] at Ba;clear e0;generalize fF w b gp B (lv B M o)=Q,hJ:cB b o _ vq vd=J,kG M o.P=ne,ko M o=DM,o.P.length=m,af:aM ck (.slice none 0 0)=Z0 at *;have jy:=ar af;clear hJ af;go_in;go_wp2_with(with_reducible refine gL 91 jo.out ?_);refine Ba.out.mono ?_;rintro e w1 ⟨G,⟨z,rfl⟩|⟨rfl,v,g,rfl,hE,hg⟩⟩
  ·obtain⟨w2,w3,p1,p2,-,-,p5,-⟩:=sH w1 (S0:= #[.int .i64 0,.string ⟨#[]⟩,.bool false,.int .i64 0]) (Z0:=Z0) rfl (by rw[<-jy.out];rfl) 0 ⟨#[]⟩ false 0 (n:=ck) (v:= .slice none 0 0) rfl rfl
   obtain⟨wy,s1,s2,s3⟩:=jR.out ne z (tV.out z) w3 (G.trans' p5);rw[jy.out] at p2;have b1:(ne != 0)=true:=by simpa using z
   obtain⟨jw,pq,HS,HL,HF⟩:=hh5 p1 p2 s1 s2 s3;clear hW p1 p2 p5 G s1 s2 s3 z Ba tV rO V ou xq jR mY jo jy c1;unfold cH at jw;go_wp2_with(with_reducible first|refine gS 174 jw.out ?_|refine gS 75 pq.out ?_|refine gS 38 HS.out ?_);exact aI (bA results69 rfl HL.out) rfl HF.out
  ·have ai:=ou.out rfl
   obtain⟨rO,V⟩:=hh2 (rO.out rfl) (V.out rfl);generalize U:nT T (bg (M (bq M o.P).1).E (aS o.P)).toNat=n at *;obtain⟨w2,w3,p1,p2,p3,p4,p5,-⟩:=sH w1 (S0:= #[.int .i64 0,.string ⟨#[]⟩,.bool false,.int .i64 0]) (Z0:=Z0) rfl (by rw[<-jy.out];rfl) (bq M o.P).1 (aS o.P) true (bg (M (bq M o.P).1).E (aS o.P)) (n:=n) (v:=v) ai hE.one;have c2:w3.cell? ⟨w1.heap.size+1,1,none⟩=some (.int .i64 n.K):=by rw[p4.cell];exact(gG v ai).f1
   obtain⟨jw,pq,JJ⟩:=hh3 p1 p2 (jn p3);have kg:=G.trans' p5;by_cases h2:n.K=2
   ·obtain⟨wy,s1,s2,s3⟩:=jR.out 5 (by omega) (rO.out h2) w3 kg
    obtain⟨HS,HL,HF⟩:=hh3 s1 s2 s3;rw[h2] at c2;clear hW p1 p2 p3 p4 p5 G kg s1 s2 s3 hE hg Ba tV rO V ou xq jR mY jo JJ jy c1 h2 U;generalize aM n v=Zn,cH (bq M o.P).1 (aS o.P) true (bg (M (bq M o.P).1).E (aS o.P))=Zs at *;go_wp2_with(with_reducible first|refine gS 174 jw.out ?_|refine gS 75 pq.out ?_|refine gS 38 HS.out ?_);exact aI (bA results69 rfl HL.out) rfl HF.out
   ·have HR:=ar (xq.out (V.out h2) rfl w3 kg)
    have yL:=ar (mY.out w3 kg);have b2:(n.K==2)=false:=by simpa using h2
    clear hW p1 p2 p3 p4 p5 G kg hE hg Ba tV rO V ou xq jR mY jo jy c1 h2 U;generalize aM n v=Zn,n.K=nk,cH (bq M o.P).1 (aS o.P) true (bg (M (bq M o.P).1).E (aS o.P))=Zs at *;go_wp2_with(with_reducible first|refine gS 174 jw.out ?_|refine gS 75 pq.out ?_|refine gL 91 yL.out ?_|refine gL 174 JJ.out ?_);refine HR.out.mono ?_;rintro e w4 ⟨wy,rfl,s1,s2,s3⟩;obtain⟨HS,HL,HF⟩:=hh3 s1 s2 s3;clear s1 s2 s3 HR yL JJ jw pq;go_wp2_with(with_reducible refine gS 38 HS.out ?_);exact aI (bA results69 rfl HL.out) rfl HF.out
theorem L8 (h:rC w b gp B [] T own [] M)(hT:dw M){o:jz}{vp vq vd:Value}{g:Nat}(hP:gN w vp g o.P)(hs:∀s∈o.P,s.size<=9223372036854775807)(hK:o.K=6):
  Calls prog 70 #[cB b o vp vq vd] w (fF w b gp B (lv B M o)):=by
 obtain⟨W,hW,cM,jN,jL,af⟩:=mI w (cB b o vp vq vd) (zo fy (.slice none 0 0) (.slice none 0 0));obtain⟨Ba,oh⟩:=hh2 (Ib (h.keep0 cM) hT o vp vq vd (hP.keep cM (by simp)) hs) (wX h hT cM jN jL rfl af);have c1:W.cell? ⟨w.heap.size,2,none⟩=some vp:=by rw[jN.cell];rfl
 have jo:=ar (oh.out.load W (ay.refl _ _));have hp:¬(o.P=[]/\o.K=5):=λh=>by omega
 have tV:Hid (kG M o.P≠0->(ko M o).2=cW (kG M o.P)):=λz=>OT (.inr hK) hp z
 have rO:Hid (kG M o.P=0->(nT T (bg (M (bq M o.P).1).E (aS o.P)).toNat).K≠2->(ko M o).2=cW 4):=λz hk=>by
  rw[Cc (.inr hK) hp z,aA (λh=>by omega),aB ⟨hK,by rw[<-h.nd.kind];exact hk⟩]
 have Gz:Hid (kG M o.P=0->(nT T (bg (M (bq M o.P).1).E (aS o.P)).toNat).K=2->(nT T (bg (M (bq M o.P).1).E (aS o.P)).toNat).S=((M (bg (M (bq M o.P).1).E (aS o.P)).toNat).E.length:Int)):=λz hk=>by
  have ai:=(iZ hT (qM z).2).2.1;rw[Dv h.nd ai,h.nd.node (by rw[<-h.nd.kind];exact hk)];simp
 have G:Hid (kG M o.P=0->(nT T (bg (M (bq M o.P).1).E (aS o.P)).toNat).K=2->(M (bg (M (bq M o.P).1).E (aS o.P)).toNat).E≠[]->(ko M o).2=cW 6):=λz hk he=>by
  rw[Cc (.inr hK) hp z,aA (λh=>by omega),aA (λV=>V.2 (by rw[<-h.nd.kind];exact hk)),aB ⟨hK,he⟩]
 have xj:Hid (kG M o.P=0->(nT T (bg (M (bq M o.P).1).E (aS o.P)).toNat).K=2->(M (bg (M (bq M o.P).1).E (aS o.P)).toNat).E=[]->ko M o=(Ck M (bq M o.P).1 (aS o.P),fy)):=λz hk he=>
  aat (.inr hK) hp z (λh=>by omega) (λ_=>⟨by rw[<-h.nd.kind];exact hk,he⟩)
 have ou:Hid (kG M o.P=0->(nT T (bg (M (bq M o.P).1).E (aS o.P)).toNat).B.length=13):=λz=>(h.nd.store (iZ hT (qM z).2).2.1).len
 have Gm:=l6;have aj:=pg;have rH:=dA;clear h hT hP hs cM jN jL af hK hp;have e0:cH 0 ⟨#[]⟩ false 0= #[.int .i64 0,.string ⟨#[]⟩,.bool false,.int .i64 0]:=rfl;obtain⟨xq,jR,mY⟩:=hh3 oh.out.run oh.out.err oh.out.load;clear oh;unfold Ry at Ba;rw[lL] at *;rw[e0] at Ba;clear e0;generalize fF w b gp B (lv B M o)=Q,hJ:cB b o vp vq vd=J,kG M o.P=ne,ko M o=DM,ah:aM ck (.slice none 0 0)=Z0 at *;have jy:=ar ah;clear hJ ah;go_in;go_wp2_with(with_reducible refine gL 91 jo.out ?_);refine Ba.out.mono ?_;rintro e w1 ⟨U,⟨aa,rfl⟩|⟨rfl,v,g,rfl,hE,hg⟩⟩
 ·obtain⟨w2,w3,p1,p2,-,-,p5,-⟩:=sH w1 (S0:= #[.int .i64 0,.string ⟨#[]⟩,.bool false,.int .i64 0]) (Z0:=Z0) rfl (by rw[<-jy.out];rfl) 0 ⟨#[]⟩ false 0 (n:=ck) (v:= .slice none 0 0) rfl rfl
  obtain⟨wy,s1,s2,s3⟩:=jR.out ne aa (tV.out aa) w3 (U.trans' p5);rw[jy.out] at p2;have b1:(ne != 0)=true:=by simpa using aa
  obtain⟨jw,pq,HS,HL,HF⟩:=hh5 p1 p2 s1 s2 s3;clear hW p1 p2 p5 U s1 s2 s3 aa Ba tV rO xj Gz G ou xq jR mY jo jy c1;unfold cH at jw;go_wp2_with(with_reducible first|refine gS 174 jw.out ?_|refine gS 75 pq.out ?_|refine gS 38 HS.out ?_);exact aI (bA results70 rfl HL.out) rfl HF.out
 ·have ae:=ou.out rfl
  obtain⟨rO,xj,Gz,G⟩:=hh4 (rO.out rfl) (xj.out rfl) (Gz.out rfl) (G.out rfl);generalize ac:(M (bg (M (bq M o.P).1).E (aS o.P)).toNat).E=Ej,z:nT T (bg (M (bq M o.P).1).E (aS o.P)).toNat=n at *;obtain⟨w2,w3,p1,p2,p3,p4,p5,-⟩:=sH w1 (S0:= #[.int .i64 0,.string ⟨#[]⟩,.bool false,.int .i64 0]) (Z0:=Z0) rfl (by rw[<-jy.out];rfl) (bq M o.P).1 (aS o.P) true (bg (M (bq M o.P).1).E (aS o.P)) (n:=n) (v:=v) ae hE.one;have c2:w3.cell? ⟨w1.heap.size+1,1,none⟩=some (.int .i64 n.K):=by rw[p4.cell];exact(gG v ae).f1
  have c3:w3.cell? ⟨w1.heap.size+1,3,none⟩=some (.int .i64 n.S):=by rw[p4.cell];exact(gG v ae).f3
  obtain⟨jw,pq,JJ⟩:=hh3 p1 p2 (jn p3);have kg:=U.trans' p5;by_cases V:n.K=2
  ·have h4:=Gz.out V
   by_cases he:Ej=[]
   ·have HR:=ar (xq.out (xj.out V he) rfl w3 kg)
    have yL:=ar (mY.out w3 kg);rw[V] at c2;rw[h4,he] at c3;clear hW p1 p2 p3 p4 p5 U kg hE hg Ba tV rO xj Gz G ou xq jR mY jo jy c1 V h4 he z ac;generalize aM n v=Zn,cH (bq M o.P).1 (aS o.P) true (bg (M (bq M o.P).1).E (aS o.P))=Zs at *;go_wp2_with(with_reducible first|refine gS 174 jw.out ?_|refine gS 75 pq.out ?_|refine gL 91 yL.out ?_|refine gL 174 JJ.out ?_);refine HR.out.mono ?_;rintro e w4 ⟨wy,rfl,s1,s2,s3⟩;obtain⟨HS,HL,HF⟩:=hh3 s1 s2 s3;clear s1 s2 s3 HR yL JJ jw pq;go_wp2_with(with_reducible refine gS 38 HS.out ?_);exact aI (bA results70 rfl HL.out) rfl HF.out
   ·obtain⟨wy,s1,s2,s3⟩:=jR.out 6 (by omega) (G.out V he) w3 kg
    obtain⟨HS,HL,HF⟩:=hh3 s1 s2 s3;have ag:0<Ej.length:=List.length_pos_iff.2 he;have b3:decide ((0:Int)<n.S)=true:=bu (by omega);rw[V] at c2;clear hW p1 p2 p3 p4 p5 U kg s1 s2 s3 hE hg Ba tV rO xj Gz G ou xq jR mY jo JJ jy c1 V h4 he z ac ag;generalize aM n v=Zn,n.S=ns,cH (bq M o.P).1 (aS o.P) true (bg (M (bq M o.P).1).E (aS o.P))=Zs at *;go_wp2_with(with_reducible first|refine gS 174 jw.out ?_|refine gS 75 pq.out ?_|refine gS 38 HS.out ?_);exact aI (bA results70 rfl HL.out) rfl HF.out
  ·obtain⟨wy,s1,s2,s3⟩:=jR.out 4 (by omega) (rO.out V) w3 kg
   obtain⟨HS,HL,HF⟩:=hh3 s1 s2 s3;have b2:(n.K != 2)=true:=by simpa using V
   clear hW p1 p2 p3 p4 p5 U kg s1 s2 s3 hE hg Ba tV rO xj Gz G ou xq jR mY jo JJ jy c1 V z ac;generalize aM n v=Zn,n.K=nk,cH (bq M o.P).1 (aS o.P) true (bg (M (bq M o.P).1).E (aS o.P))=Zs at *;go_wp2_with(with_reducible first|refine gS 174 jw.out ?_|refine gS 75 pq.out ?_|refine gS 38 HS.out ?_);exact aI (bA results70 rfl HL.out) rfl HF.out
theorem RQ{X:List Int}(h:∀i,M i=tH X (nT T i))(hN:Q5 T)(ho:∀i,32<=i->(nT T i).E=[])(d i:Nat):Reach T (d:Int) (i:Int)↔kR M d i:=by
 constructor
 ·intro hr
  have V:∀x,Reach T (d:Int) x->∃n:Nat,x=(n:Int)/\kR M d n:=by
   intro x hx;induction hx with
   |here=>exact⟨d,rfl,.here⟩
   | @step a b _ hb ih=>
    obtain⟨n,rfl,W⟩:=ih;have J:=hN _ b hb;obtain⟨m,rfl⟩:∃m:Nat,b=(m:Int):=⟨b.toNat,by omega⟩;unfold o7 at hb;split at hb
    ·obtain⟨e,U,z⟩:=bH.1 hb
     rw[aG] at U;exact⟨m,rfl,W.step ⟨e,by rw[h];exact U,z⟩⟩
    ·simp at hb
  obtain⟨n,J,h2⟩:=V _ hr;rw[show i=n by omega];exact h2
 ·intro hc
  induction hc with
  |here=>exact .here
  | @step a b _ U ih=>
   obtain⟨e,G,z⟩:=U;rw[h] at G;have G:e∈(nT T a).E:=G;have ha:a<32:=by
    rcases dE a 32 with J|J
    ·exact J
    ·rw[ho a J] at G;simp at G
   refine ih.step ?_;unfold o7;rw[aB,aG];exact bH.2 ⟨e,G,z⟩
theorem Wu (J:Array Value)(d:Nat)(nm:ByteArray)(i:Int)(U:Int):
  Calls prog 125 #[J,cH d nm false i,U] w λe w'=>e=(0:Int)/\ay [] w w':=by
 obtain⟨W,hW,h,z⟩:∃W,(w.alloc (.cells J 91)).alloc (.cells (cH d nm false i) 174)=W/\ay [] w W/\bh W (w.heap.size+1) (cH d nm false i) 174 :=
  ⟨_,rfl,((ay.refl _ _).alloc _).alloc _,bh.new2 w _ _ _ _⟩
 have V:W.cell? ⟨w.heap.size+1,2,none⟩=some (.bool false):=by rw[z.cell];rfl
 have G:Hid (ay [] w W):=h;clear h z;generalize cH d nm false i=Zs at *;go_in;go_wp2_with fail;go_ret;exact⟨rfl,G.out⟩
theorem Wv (h:rC w b gp B [] T own [] M)(o:jz)(vp vq vd:Value)(d:Nat)(nm:ByteArray){i j:Nat}(hj:(M j).K≠0)(hi:(M i).K=1\/(M i).K=2)(ai:(M j).K=1\/(M j).K=2):
  Calls prog 125 #[cB b o vp vq vd,.agg (cH d nm true (j:Int)),.int .i64 (M i).K] w λe w'=>e=(uo M i j:Int)/\ay [] w w':=by
 obtain⟨W,hW,cM,jN,sf,ah⟩:∃W,(w.alloc (.cells (cB b o vp vq vd) 91)).alloc (.cells (cH d nm true (j:Int)) 174)=W/\ay [] w W/\bh W w.heap.size (cB b o vp vq vd) 91/\bh W (w.heap.size+1) (cH d nm true (j:Int)) 174/\W.heap.size=w.heap.size+2:=
  ⟨_,rfl,((ay.refl _ _).alloc _).alloc _,(bh.new w _ _).alloc _,bh.new2 w _ _ _ _,by rw[aX,aX]⟩
 have HG:=ar ((h.keep0 cM).get hj);have G:=(h.nd.store hj).len;have V:(nT T j).K=2->(nT T j).S=((M j).E.length:Int):=λhk=>by
  rw[Dv h.nd hj,h.nd.node (by rw[<-h.nd.kind];exact hk)];simp
 have aa:=h.nd.kind j;have c1:W.cell? w.heap.size=some (.pointer (some ⟨b,0,none⟩)):=by rw[jN.cell];rfl
 have c2:W.cell? ⟨w.heap.size+1,2,none⟩=some (.bool true):=by rw[sf.cell];rfl
 have c3:W.cell? ⟨w.heap.size+1,3,none⟩=some (.int .i64 (j:Int)):=by rw[sf.cell];rfl
 have fJ:=ar cM;have rH:=dA;have ag:Hid (uo M i j=if (M i).K=1/\(M j).K=2 then 5 else if (M i).K=2/\(M j).K=1 then 4 else if (M j).K=2/\(M j).E≠[] then 6 else 0):=rfl;clear h cM jN sf ah hj;generalize uo M i j=ov,(M i).K=ki,(M j).K=kj,(M j).E=Ej,nT T j=n,(j:Int)=ji,ae:aM ck (.slice none 0 0)=Z0 at *;have jy:=ar ae;clear ae;generalize cB b o vp vq vd=J,cH d nm true ji=Zs at *;go_in;go_wp2_with fail;refine HG.out.mono ?_;rintro e w1 ⟨v,g,va,rfl,hE,hg,ac⟩;obtain⟨w2,p1,p2,p3⟩:=cz (n:=n) (v:=v) (bh.new w1 Z0 75) (by rw[<-jy.out];rfl) G hE.one;have eV:ay [] w1 w2:=((ay.refl _ _).alloc _).trans p3 (by intro x hx;rw[au] at hx;omega);have c4:w2.cell? ⟨w1.heap.size,1,none⟩=some (.int .i64 kj):=by rw[p2.cell,<-aa];exact(gG v G).f1
 have c5:w2.cell? ⟨w1.heap.size,3,none⟩=some (.int .i64 n.S):=by rw[p2.cell];exact(gG v G).f3
 have jw:=ar p1;have HF:Hid (ay [] w w2):=fJ.out.trans' (ac.trans' eV);have z:=ag.out;rw[aa] at V;clear p1 p2 p3 ac eV hE hg HG fJ ag aa hW jy c1 c2 c3 G;generalize aM n v=Zn,n.S=ns at *;rcases hi with rfl|rfl<;>rcases ai with rfl|rfl
 ·have U:ov=0:=by rw[z];simp
  subst U;clear V z;go_wp2_with(with_reducible refine gS 75 jw.out ?_);go_ret;exact⟨rfl,HF.out⟩
 ·have U:ov=5:=by rw[z];simp
  subst U;clear V z;go_wp2_with(with_reducible refine gS 75 jw.out ?_);go_ret;exact⟨rfl,HF.out⟩
 ·have U:ov=4:=by rw[z];simp
  subst U;clear V z;go_wp2_with(with_reducible refine gS 75 jw.out ?_);go_ret;exact⟨rfl,HF.out⟩
 ·have hs:=V rfl
  by_cases he:Ej=[]
  ·have U:ov=0:=by rw[z,he];simp
   subst U;have b1:decide ((0:Int)<ns)=false:=aQ (by rw[hs,he];simp);clear V z hs he;go_wp2_with(with_reducible refine gS 75 jw.out ?_);go_ret;exact⟨rfl,HF.out⟩
  ·have U:ov=6:=by rw[z];simp[he]
   subst U;have af:0<Ej.length:=List.length_pos_iff.2 he;have b1:decide ((0:Int)<ns)=true:=bu (by omega);clear V z hs he af;go_wp2_with(with_reducible refine gS 75 jw.out ?_);go_ret;exact⟨rfl,HF.out⟩
def Kz (B:List Int) (M M':Nat->Nd) (d t:Nat) (th:Bool) (r:Int) (qs:List (Int×Int)):Prop:=
 (r=7/\((th=false/\d≠t/\24<=(M t).E.length)\/(aZ B).length<40))\/(r=0/\¬(th=false/\d≠t/\24<=(M t).E.length)/\Aa B qs M')
theorem TA (h:dw M){d:Nat}{nm:ByteArray}(J:0<=bg (M d).E nm):(iY (M d).E nm).length+1=(M d).E.length:=by
 rcases yD h d nm with G|⟨-,A,B,-,-,z⟩
 ·omega
 ·exact z
theorem aau (z:dw M)(hF:ni M){d t i:Nat}{nm nm':ByteArray}(U:bg (M d).E nm=(i:Int))(th:Bool)(J:th=true->0<=bg (M t).E nm')(W:th=false->bg (M t).E nm'<0)
  (h:24<(wT (oM M d (iY (M d).E nm) t).E nm' (i:Int)).length):th=false/\d≠t/\24<=(M t).E.length:=by
 have V:=hF.len t;unfold wT at h;rw[vG,o9] at h;cases th with
 |true=>
  have G:=TA z (J rfl)
  exfalso
  split at h
  ·next e=>
   subst e;rw[Ks] at h;have :=vF (iY (M t).E nm') nm;omega
  ·omega
 |false=>
  refine⟨rfl,?_⟩;split at h
  ·next e=>
   subst e;have G:=TA z (d:=t) (nm:=nm) (by omega);have :=vF (iY (M t).E nm) nm';omega
  ·next e=>
   have :=vF (M t).E nm';exact⟨cZ e,by omega⟩
theorem aav (z:dw M){d t i:Nat}{nm nm':ByteArray}(h:(wT (oM M d (iY (M d).E nm) t).E nm' (i:Int)).length<=24):¬((bg (M t).E nm'<0)/\d≠t/\24<=(M t).E.length):=by
 rintro⟨G,J,U⟩;rw[o9,aA (cZ J),Ia z G,vG] at h;omega
theorem acF{M':Nat->Nd}(h:rC w b gp B [] T own [] M)(hT:dw M)(o:jz)(vp vq vd:Value){d t i:Nat}{nm nm':ByteArray}(hf:bg (M d).E nm=(i:Int))(ht:(M t).K=2)(hg:iu (bl nm')=true)(U:Bool){th:Bool}{jx:Int}
  (Ww:th=false->bg (M t).E nm'<0/\M'=Oh M d t i nm nm') (Oo:th=true->∃j:Nat,jx=(j:Int)/\bg (M t).E nm'=(j:Int)/\j≠t/\j≠d/\M'=Oh (Ck M t nm') d t i nm nm'):
  Calls prog 126 #[cB b o vp vq vd,.agg (cH d nm U (i:Int)),cH t nm' th jx] w (cQ w b gp B [] 2200 (Kz B M M' d t th)):=by
 obtain⟨W,hW,cM,jN,sf,af,aP⟩:∃W,((w.alloc (.cells (cB b o vp vq vd) 91)).alloc (.cells (cH d nm U (i:Int)) 174)).alloc (.cells (cH t nm' th jx) 174)=W/\ay [] w W/\bh W w.heap.size (cB b o vp vq vd) 91/\bh W (w.heap.size+1) (cH d nm U (i:Int)) 174/\bh W (w.heap.size+1+1) (cH t nm' th jx) 174/\W.heap.size=w.heap.size+3:=by
  refine⟨_,rfl,(((ay.refl _ _).alloc _).alloc _).alloc _,((bh.new w _ _).alloc _).alloc _,(bh.new2 w _ _ _ _).alloc _,?_,by rw[aX,aX,aX]⟩;have :=bh.new2 (w.alloc (.cells (cB b o vp vq vd) 91)) (cH d nm U (i:Int)) 174 (cH t nm' th jx) 174;rwa[aX] at this
 have ae:=h.lt;have hF:=(h.nd.snd hT).few;have Ca:=iZ hT (d:=d) (nm:=nm) (by omega);rw[hf,aG] at Ca;have aD:=(hT.dir Ca.1).1;have jD:=Ca.2.2.2;have aQ:∀q1,AR (az B []) [] M d nm 0 q1->True:=λ_ _=>trivial
 have hrel:∀{kX:Nat} {w1 w2:World},kX=gp\/(W.heap.size<=kX/\kX<w1.heap.size)->ay [b,gp] W w1->ay [b,kX] w1 w2->ay [b,gp] W w2:=λba ac G=>ac.trans G λy hy=>by
  simp only[aL,aK,bC] at hy ⊢;omega
 -- the three steps
 have ax:Hid (Calls prog 159 #[cB b o vp vq vd,.agg (cH d nm U (i:Int))] W λe w1=>e=(0:Int)/\ay [b,gp] W w1/\
   Calls prog 128 #[cB b o vp vq vd,cH t nm' th jx,(i:Int)] w1 λe w2=>ay [b,gp] W w2/\((e=(7:Int)/\cQ w b gp B [] 2200 (Kz B M M' d t th) (.returned (7:Int)) w2)\/
    (e=(0:Int)/\((th=false/\cQ w b gp B [] 2200 (Kz B M M' d t th) (.returned (0:Int)) w2)\/
     (th=true/\Calls prog 160 #[cB b o vp vq vd,jx] w2 λe w3=>e=(0:Int)/\cQ w b gp B [] 2200 (Kz B M M' d t th) (.returned (0:Int)) w3))))):=by
  refine(OP (h.keep0 cM) (by simp) o vp vq vd aD nm U (i:Int)).mono ?_;rintro e w1 ⟨r,q1,kX,rfl,h1,h2,h3,h4,rfl,aB,po⟩;refine⟨rfl,h3,?_⟩;obtain⟨T1,aS,g1,-⟩:=id aB;have aF:=(h.keep0 cM).go h2 h3 h1 g1;have aO:(oM M d (iY (M d).E nm) t).K=2:=by rw[(yx _ _ _ _).1];exact ht
  refine(H9 aF (by rw[bQ];omega) o vp vq vd (d:=t) aO hg th jx (i:=(i:Int)) (by omega)).mono ?_;rintro e w2 ⟨r,q2,lS,rfl,e1,e2,e3,e4,e5⟩;have rq:=hrel h1 h3 e3;have aT:=h3.size;have bc:=e3.size;refine⟨rq,?_⟩;have aI:=e5;rw[bz] at aI;rcases aI with ⟨rfl,aW,z⟩|⟨rfl,au,Yd⟩
  ·left
   refine⟨rfl,7,q1++q2,lS,rfl,by omega,by rw[<-aV];exact e2,(cM.mono (by simp)).trans' rq,by rw[aC];omega,.inl ⟨rfl,?_⟩⟩;rcases z with z|z
   ·exact .inl (aau hT hF hf th (λh=>by obtain⟨j,-,hj,-⟩:=Oo h;omega) (λh=>(Ww h).1) z)
   ·right
    have :(aZ B).length<=(aZ (az B q1)).length:=po;have aY:(aZ (az B q1)).length<11:=z;omega
  ·right
   refine⟨rfl,?_⟩;have aj:=aB.trans Yd;cases th with
   |false=>
    left
    refine⟨rfl,0,q1++q2,lS,rfl,by omega,by rw[<-aV];exact e2,(cM.mono (by simp)).trans' rq,by rw[aC];omega,.inr ⟨rfl,λhh=>aav hT au ⟨(Ww rfl).1,hh.2⟩,?_⟩⟩;rw[(Ww rfl).2,<-aeO hT (Ww rfl).1];exact aj.lands (by omega)
   |true=>
    right
    refine⟨rfl,?_⟩;obtain⟨j,rfl,ah,ag,av,rfl⟩:=Oo rfl;have Jk:=iZ hT (d:=t) (nm:=nm') (by omega);rw[ah,aG] at Jk;obtain⟨T2,aU,g2,-⟩:=id Yd;have aR:=aF.go (qs:=q2) e2 e3 e1 (by rw[bQ];exact g2);have ak:oM (oM M d (iY (M d).E nm)) t (wT (oM M d (iY (M d).E nm) t).E nm' (i:Int)) j=M j:=by rw[pY,aA ag,pY,aA av]
    refine(Kq aR (by rw[bQ,aC];omega) o vp vq vd (i:=j) (by rw[ak];exact Jk.2.1) (by rw[ak];exact(OQ hT hF Jk.2.1).1)).mono ?_;rintro e w3 ⟨r,q3,Rl,rfl,f1,f2,f3,f4,rfl,aN,-⟩;have bb:=f3.size;have ai:=aN;rw[bz,bQ,acr (by rw[ah,aG]) ag av] at ai;have aJ:=aj.trans (q:=q3) (by rw[bz];exact ai);refine⟨rfl,0,q1++q2++q3,Rl,rfl,by omega,by rw[<-aV,<-aV];exact f2,((cM.mono (by simp)).trans' rq).trans f3 (λy hy=> ?_),by rw[aC,aC];omega,.inr ⟨rfl,(λhh=>by simp at hh),aJ.lands (by omega)⟩⟩;simp only[aL,aK,bC] at hy ⊢;omega
 have lY:Hid (∀V,ay [b,gp] W V->(loadVar 91 w.heap.size).run prog V= .ok (.agg (cB b o vp vq vd)) V):=λV hk=>jG (jN.keep hk (eD ae (by omega)))
 have Fe:Hid (∀V,ay [b,gp] W V->(loadVar 174 (w.heap.size+1+1:Nat)).run prog V= .ok (.agg (cH t nm' th jx)) V):=λV hk=>jn (af.keep hk (eD ae (by omega)))
 have aM:=ar (jn sf);have aa:Hid (∀V,ay [b,gp] W V->V.cell? ⟨w.heap.size+1,3,none⟩=some (.int .i64 (i:Int))/\V.cell? ⟨w.heap.size+1+1,2,none⟩=some (.bool th)/\V.cell? ⟨w.heap.size+1+1,3,none⟩=some (.int .i64 jx)):=λV hk=>by
  have h1:=sf.keep hk (eD ae (by omega));have h2:=af.keep hk (eD ae (by omega));exact⟨by rw[h1.cell];rfl,by rw[h2.cell];rfl,by rw[h2.cell];rfl⟩
 have jo:=ar (lY.out W (ay.refl _ _));clear h hT cM jN sf af aP ae Ca aD jD hF aQ hrel hf ht hg Oo Ww;generalize cQ w b gp B [] 2200 (Kz B M M' d t th)=Q,cB b o vp vq vd=J,cH d nm U (i:Int)=Zs,cH t nm' th jx=Zt at *;generalize (i:Int)=ii at *;go_in;go_wp2_with(with_reducible first|refine gL 91 jo.out ?_|refine gL 174 aM.out ?_);refine Rr ax.out ?_;rintro w1 ⟨ac,aH⟩;obtain⟨HE,Wt,RR⟩:=hh3 aH (lY.out w1 ac) (Fe.out w1 ac);obtain⟨c1,-,-⟩:=aa.out w1 ac;clear ac aH ax jo aM hW Fe;go_wp2_with(with_reducible first|refine gL 91 Wt.out ?_|refine gL 174 RR.out ?_);refine HE.out.mono ?_;rintro e w2 ⟨G,⟨rfl,hq⟩|⟨rfl,⟨rfl,hq⟩|⟨rfl,hq⟩⟩⟩
 ·have HF:=ar hq
  clear hq G HE aa Wt RR lY c1;go_wp2_with fail
  first|exact HF.out|(go_ret;exact HF.out)
 ·have HF:=ar hq
  obtain⟨-,c2,-⟩:=aa.out w2 G;clear hq G HE aa Wt RR lY c1;go_wp2_with fail
  first|exact HF.out|(go_ret;exact HF.out)
 ·have HU:=ar hq
  obtain⟨-,c2,c3⟩:=aa.out w2 G;have vO:=ar (lY.out w2 G);clear hq G HE aa Wt RR lY c1;go_wp2_with(with_reducible refine gL 91 vO.out ?_);refine Rr HU.out λw3 hq=> ?_;have HF:=ar hq;clear hq HU;go_wp2_with fail
  first|exact HF.out|(go_ret;exact HF.out)
section
variable {M:Nat->Nd} {o:jz}
theorem acG (J:o.K=7)(h:o.Q≠[])(G:kG M o.P=0)(z:(bq M o.Q).2≠0):(ko M o).2=cW (bq M o.Q).2:=by
 rw[vM J h G,aB z]
theorem aaw (J:o.K=7)(h:o.Q≠[])(G:kG M o.P=0)(U:(bq M o.Q).2=0)(z:bg (M (bq M o.Q).1).E (aS o.Q)=bg (M (bq M o.P).1).E (aS o.P)):ko M o=(M,fy):=by
 rw[vM J h G,aA,aB z]
theorem aax (U:o.K=7)(h:o.Q≠[])(G:kG M o.P=0)(V:(bq M o.Q).2=0)(z:bg (M (bq M o.Q).1).E (aS o.Q)≠bg (M (bq M o.P).1).E (aS o.P))(J:kR M (bg (M (bq M o.P).1).E (aS o.P)).toNat (bq M o.Q).1):(ko M o).2=cW 11:=by
 rw[vM U h G,aA,aA z,aB J]
theorem aay (V:o.K=7)(h:o.Q≠[])(G:kG M o.P=0)(he:(bq M o.Q).2=0)(z:bg (M (bq M o.Q).1).E (aS o.Q)≠bg (M (bq M o.P).1).E (aS o.P))(U:¬kR M (bg (M (bq M o.P).1).E (aS o.P)).toNat (bq M o.Q).1)(J:0<=bg (M (bq M o.Q).1).E (aS o.Q))
  (W:uo M (bg (M (bq M o.P).1).E (aS o.P)).toNat (bg (M (bq M o.Q).1).E (aS o.Q)).toNat≠0):(ko M o).2=cW (uo M (bg (M (bq M o.P).1).E (aS o.P)).toNat (bg (M (bq M o.Q).1).E (aS o.Q)).toNat):=by
 rw[vM V h G,aA,aA z,aA U,aB J,aB W]
theorem acH (U:o.K=7)(h:o.Q≠[])(G:kG M o.P=0)(W:(bq M o.Q).2=0)(z:bg (M (bq M o.Q).1).E (aS o.Q)≠bg (M (bq M o.P).1).E (aS o.P))(J:¬kR M (bg (M (bq M o.P).1).E (aS o.P)).toNat (bq M o.Q).1)(V:bg (M (bq M o.Q).1).E (aS o.Q)<0):
  ko M o=if (bq M o.P).1≠(bq M o.Q).1/\24<=(M (bq M o.Q).1).E.length then (M,cW 7) else
   (Oh M (bq M o.P).1 (bq M o.Q).1 (bg (M (bq M o.P).1).E (aS o.P)).toNat (aS o.P) (aS o.Q),fy):=by
 rw[vM U h G,aA,aA z,aA J,aA]
theorem acI (V:o.K=7)(h:o.Q≠[])(G:kG M o.P=0)(W:(bq M o.Q).2=0)(z:bg (M (bq M o.Q).1).E (aS o.Q)≠bg (M (bq M o.P).1).E (aS o.P))(U:¬kR M (bg (M (bq M o.P).1).E (aS o.P)).toNat (bq M o.Q).1)(J:0<=bg (M (bq M o.Q).1).E (aS o.Q))
  (hv:uo M (bg (M (bq M o.P).1).E (aS o.P)).toNat (bg (M (bq M o.Q).1).E (aS o.Q)).toNat=0):ko M o=(Oh (Ck M (bq M o.Q).1 (aS o.Q)) (bq M o.P).1 (bq M o.Q).1 (bg (M (bq M o.P).1).E (aS o.P)).toNat (aS o.P) (aS o.Q),fy):=by
 rw[vM V h G,aA,aA z,aA U,aB J,aA]
theorem acJ {B:List Int}{M':Nat->Nd}{d t:Nat}{th:Bool}{r:Int}{qs:List (Int×Int)}(hK:o.K=7)(z:ko M o=if th=false/\d≠t/\24<=(M t).E.length then (M,cW 7) else (M',fy))(h:Kz B M M' d t th r qs):lv B M o { fy with E:=r } qs:=by
 have J:Dp o.K=true:=by rw[hK];rfl
 rcases h with ⟨rfl,V⟩|⟨rfl,U,W⟩
 ·by_cases G:th=false/\d≠t/\24<=(M t).E.length
  ·rw[aB G] at z
   exact .inr (.inl ⟨by show(7:Int)≠0;omega,by rw[z]⟩)
  ·rw[aA G] at z
   exact .inl ⟨rfl,J,.inl (by rw[z];rfl),.inl (V.resolve_left G)⟩
 ·rw[aA U] at z
  exact .inr (.inr ⟨rfl,by rw[z];rfl,.inl (by rw[z];rfl),by rw[z];exact W⟩)
end
def yM (w:World) (b G:Nat) (B:List Int) (R:mM->List (Int×Int)->Prop) (e:Ending) (z:World):Prop:=
 ∃r h,e=(r:Int)/\(storeVar 38 (w.heap.size+1:Nat) (.agg #[(r:Int),(0:Int),(0:Int),(0:Int),(0:Int),(),()])).run prog z= .ok () h/\(loadVar 38 (w.heap.size+1:Nat)).run prog h= .ok (.agg #[(r:Int),(0:Int),(0:Int),(0:Int),(0:Int),(),()]) h/\fF w b G B R (.returned (.agg #[(r:Int),(0:Int),(0:Int),(0:Int),(0:Int),(),()])) h
theorem Wx (h:rC w b gp B [] T own [] M)(hT:dw M){o:jz}{vp vq vd:Value}{g g2:Nat}(hP:gN w vp g o.P)(hs:∀s∈o.P,s.size<=9223372036854775807)(hQ:gN w vq g2 o.Q)(bk:∀s∈o.Q,s.size<=9223372036854775807)(hK:o.K=7):
  Calls prog 71 #[cB b o vp vq vd] w (fF w b gp B (lv B M o)):=by
 obtain⟨W,hW,cM,jN,jL,aR⟩:=mI w (cB b o vp vq vd) (zo fy (.slice none 0 0) (.slice none 0 0));have Ba:=ar (Ib (h.keep0 cM) hT o vp vq vd (hP.keep cM (by simp)) hs);have xt:Hid (∀wx,ay [] W wx->Calls prog 123 #[cB b o vp vq vd,vq] wx (Ew wx M o.Q)):=λwx hk=>Dn (h.keep0 (cM.trans' hk)) hT o vp vq vd (hQ.keep (cM.trans' hk) (by simp)) bk
 have oh:=ar (wX h hT cM jN jL rfl aR);have aH:=h.lt;obtain⟨pa,pc,rfl,aV,bo,-⟩:=hQ.open;have c1:W.cell? ⟨w.heap.size,2,none⟩=some vp:=by rw[jN.cell];rfl
 have c2:W.cell? ⟨w.heap.size,3,none⟩=some (.slice pa o.Q.length pc):=by rw[jN.cell];rfl
 have qd:Hid (∀wx,ay [] W wx->wx.cell? w.heap.size=some (.pointer (some ⟨b,0,none⟩))/\wx.cell? ⟨w.heap.size,3,none⟩=some (.slice pa o.Q.length pc)):=λwx hk=>by
  have G:=jN.keep hk (by simp);exact⟨by rw[G.cell];rfl,by rw[G.cell];rfl⟩
 have aK:Hid (o.Q=[]->(ko M o).2=cW 1):=acq hK;have tV:Hid (o.Q≠[]->kG M o.P≠0->(ko M o).2=cW (kG M o.P)):=λhq hn=>aab hK hq hn
 -- behind both spots
 have ou:Hid (kG M o.P=0->(nT T (bg (M (bq M o.P).1).E (aS o.P)).toNat).B.length=13/\(nT T (bg (M (bq M o.P).1).E (aS o.P)).toNat).K=(M (bg (M (bq M o.P).1).E (aS o.P)).toNat).K/\0<=bg (M (bq M o.P).1).E (aS o.P)):=λhn=>⟨(h.nd.store (iZ hT (qM hn).2).2.1).len,h.nd.kind _,(qM hn).2⟩
 have rO:Hid (o.Q≠[]->kG M o.P=0->(bq M o.Q).2≠0->(ko M o).2=cW (bq M o.Q).2):=acG hK;have rf:Hid (o.Q≠[]->kG M o.P=0->(bq M o.Q).2=0->bg (M (bq M o.Q).1).E (aS o.Q)=bg (M (bq M o.P).1).E (aS o.P)->∀U,ay [] W U->vL (w.heap.size+1) #[(0:Int),(0:Int),(0:Int),(0:Int),(0:Int),(),()] (fF w b gp B (lv B M o)) U):=λhq hn he ah U hk=>by
  obtain⟨wy,s1,s2,s3,s4⟩:=yJ (r:=fy) jL rfl hk (by simp) rfl rfl rfl;have hd:=aaw hK hq hn he ah;exact⟨wy,s1,s2,fF.none h ((cM.trans' hk).trans s4 (by intro y hy;rw[au] at hy;omega)) s3 (.inr (.inr ⟨rfl,by rw[hd];rfl,.inl (by rw[hd]),by rw[hd];exact h.nd.stay⟩))⟩
 have av:Hid (kG M o.P=0->∀wx,ay [] W wx->Calls prog 124 #[b,(bg (M (bq M o.P).1).E (aS o.P):Int),((bq M o.Q).1:Int)] wx (dv wx (kR M (bg (M (bq M o.P).1).E (aS o.P)).toNat (bq M o.Q).1))):=λhn wx hk=>by
  have Ca:=iZ hT (qM hn).2;have G:=(h.keep0 (cM.trans' hk)).shT.below (bg (M (bq M o.P).1).E (aS o.P)) ((bq M o.Q).1:Int);have h2:Reach T (bg (M (bq M o.P).1).E (aS o.P)) ((bq M o.Q).1:Int)=kR M (bg (M (bq M o.P).1).E (aS o.P)).toNat (bq M o.Q).1:=propext (by
   have :=RQ h.nd.abs h.nd.st.gots.tabN (BR h.nd.st.gots) (bg (M (bq M o.P).1).E (aS o.P)).toNat (bq M o.Q).1;rwa[Ca.2.2.1] at this)
  rwa[h2] at G
 have xj:Hid (o.Q≠[]->kG M o.P=0->(bq M o.Q).2=0->bg (M (bq M o.Q).1).E (aS o.Q)≠bg (M (bq M o.P).1).E (aS o.P)->kR M (bg (M (bq M o.P).1).E (aS o.P)).toNat (bq M o.Q).1->(ko M o).2=cW 11):=aax hK
 -- whether what is there yields, and the move
 have ae:Hid (o.Q≠[]->kG M o.P=0->(bq M o.Q).2=0->bg (M (bq M o.Q).1).E (aS o.Q)≠bg (M (bq M o.P).1).E (aS o.P)->¬kR M (bg (M (bq M o.P).1).E (aS o.P)).toNat (bq M o.Q).1->∀th jx,((th=false/\bg (M (bq M o.Q).1).E (aS o.Q)<0/\jx=0)\/(th=true/\0<=bg (M (bq M o.Q).1).E (aS o.Q)/\jx=bg (M (bq M o.Q).1).E (aS o.Q)))->∀wx,ay [] W wx->
   Calls prog 125 #[cB b o vp (.slice pa o.Q.length pc) vd,cH (bq M o.Q).1 (aS o.Q) th jx,.int .i64 (M (bg (M (bq M o.P).1).E (aS o.P)).toNat).K] wx λe U=>∃y,e=(y:Int)/\ay [] wx U/\
    ((y≠0/\(ko M o).2=cW y)\/(y=0/\Calls prog 126 #[cB b o vp (.slice pa o.Q.length pc) vd,cH (bq M o.P).1 (aS o.P) true (bg (M (bq M o.P).1).E (aS o.P)),cH (bq M o.Q).1 (aS o.Q) th jx] U (yM w b gp B (lv B M o))))):=λhq hn he ah hc th jx Oo wx hk=>by
  obtain⟨n1,n2⟩:=qM hn;have Ca:=iZ hT n2;have ba:=pU (M:=M) he;have xD:(M (bg (M (bq M o.P).1).E (aS o.P)).toNat).K=1\/(M (bg (M (bq M o.P).1).E (aS o.P)).toNat).K=2:=by
   rcases hT.kind (bg (M (bq M o.P).1).E (aS o.P)).toNat with G|G|G
   ·exact absurd (by rw[G];rfl) Ca.2.1
   ·exact .inl G.1
   ·exact .inr G.1
  -- the move itself
  have bn:∀{M':Nat->Nd},(th=false->bg (M (bq M o.Q).1).E (aS o.Q)<0/\M'=Oh M (bq M o.P).1 (bq M o.Q).1 (bg (M (bq M o.P).1).E (aS o.P)).toNat (aS o.P) (aS o.Q))->(th=true->∃j:Nat,jx=(j:Int)/\bg (M (bq M o.Q).1).E (aS o.Q)=(j:Int)/\j≠(bq M o.Q).1/\j≠(bq M o.P).1/\M'=Oh (Ck M (bq M o.Q).1 (aS o.Q)) (bq M o.P).1 (bq M o.Q).1 (bg (M (bq M o.P).1).E (aS o.P)).toNat (aS o.P) (aS o.Q))->
    (ko M o=if th=false/\(bq M o.P).1≠(bq M o.Q).1/\24<=(M (bq M o.Q).1).E.length then (M,cW 7) else (M',fy))->∀U,ay [] wx U->Calls prog 126 #[cB b o vp (.slice pa o.Q.length pc) vd,cH (bq M o.P).1 (aS o.P) true (bg (M (bq M o.P).1).E (aS o.P)),cH (bq M o.Q).1 (aS o.Q) th jx] U (yM w b gp B (lv B M o)):=λa1 a2 hd U z=>by
   have bB:=cM.trans' (hk.trans' z);have :=acF (h.keep0 bB) hT o vp (.slice pa o.Q.length pc) vd (d:=(bq M o.P).1) (t:=(bq M o.Q).1) (i:=(bg (M (bq M o.P).1).E (aS o.P)).toNat) (nm:=aS o.P) (nm':=aS o.Q) Ca.2.2.1.symm ba.1 ba.2.1 true (th:=th) (jx:=jx) a1 a2;rw[Ca.2.2.1] at this;refine this.mono ?_;rintro e w2 ⟨r,qs,kX,rfl,G,h2,h3,h4,h5⟩;have kg:ay [b,gp] W w2:=((hk.trans' z).mono (by simp)).trans' h3;obtain⟨wy,s1,s2,s3,s4⟩:=lM jL rfl kg (eD aH (by omega)) r;have bF:=(hk.trans' z).size;exact⟨r,wy,rfl,s1,s2,fF.some aH cM (by omega) (Rq:=λr qs=>lv B M o { fy with E:=r } qs) (m:=2200) ⟨r,qs,kX,rfl,by omega,h2,kg,h4,acJ hK hd h5⟩ (by omega) s4 s3 λqs hq=>hq⟩
  rcases Oo with ⟨rfl,bp,rfl⟩|⟨rfl,aT,rfl⟩
  ·refine(Wu (w:=wx) (cB b o vp (.slice pa o.Q.length pc) vd) (bq M o.Q).1 (aS o.Q) 0 _).mono ?_
   rintro e U ⟨rfl,z⟩;refine⟨0,rfl,z,.inr ⟨rfl,bn (λ_=>⟨bp,rfl⟩) (λh=>by simp at h) ?_ U z⟩⟩;rw[acH hK hq hn he ah hc bp];by_cases aF:(bq M o.P).1≠(bq M o.Q).1/\24<=(M (bq M o.Q).1).E.length
   ·rw[aB aF,aB ⟨rfl,aF⟩]
   ·rw[aA aF,aA (λh=>aF h.2)]
  ·have Jk:=iZ hT aT
   have bE:(M (bg (M (bq M o.Q).1).E (aS o.Q)).toNat).K=1\/(M (bg (M (bq M o.Q).1).E (aS o.Q)).toNat).K=2:=by
    rcases hT.kind (bg (M (bq M o.Q).1).E (aS o.Q)).toNat with G|G|G
    ·exact absurd (by rw[G];rfl) Jk.2.1
    ·exact .inl G.1
    ·exact .inr G.1
   have hy:=Wv (h.keep0 (cM.trans' hk)) o vp (.slice pa o.Q.length pc) vd (bq M o.Q).1 (aS o.Q) (i:=(bg (M (bq M o.P).1).E (aS o.P)).toNat) (j:=(bg (M (bq M o.Q).1).E (aS o.Q)).toNat) Jk.2.1 xD bE;rw[Jk.2.2.1] at hy;refine Rr hy λU z=> ?_;refine⟨_,rfl,z,?_⟩;by_cases hv:uo M (bg (M (bq M o.P).1).E (aS o.P)).toNat (bg (M (bq M o.Q).1).E (aS o.Q)).toNat=0
   ·refine .inr ⟨hv,bn (λh=>by simp at h) (λ_=>⟨_,Jk.2.2.1.symm,Jk.2.2.1.symm,cZ (hT.notSelf Jk.1),λe=> ?_,rfl⟩) ?_ U z⟩
    ·have aO:uo M (bg (M (bq M o.P).1).E (aS o.P)).toNat (bg (M (bq M o.Q).1).E (aS o.Q)).toNat=if (M (bg (M (bq M o.P).1).E (aS o.P)).toNat).K=1/\(M (bg (M (bq M o.Q).1).E (aS o.Q)).toNat).K=2 then 5 else if (M (bg (M (bq M o.P).1).E (aS o.P)).toNat).K=2/\(M (bg (M (bq M o.Q).1).E (aS o.Q)).toNat).K=1 then 4 else if (M (bg (M (bq M o.Q).1).E (aS o.Q)).toNat).K=2/\(M (bg (M (bq M o.Q).1).E (aS o.Q)).toNat).E≠[] then 6 else 0:=rfl
     rw[hv,e] at aO;have bb:=(hT.dir Ca.1).1;have bz:(M (bq M o.P).1).E≠[]:=λh0=>by
      obtain⟨x,hx,-⟩:=Ca.1;rw[h0] at hx;simp at hx
     rcases xD with G|G
     ·rw[aB ⟨G,bb⟩] at aO;omega
     ·rw[aA (λh=>by omega),aA (λh=>by omega),aB ⟨bb,bz⟩] at aO;omega
    ·rw[acI hK hq hn he ah hc aT hv,aA (λh=>by simp at h)]
   ·exact .inl ⟨hv,aay hK hq hn he ah hc aT hv⟩
 have Gm:=l6;have bG:=pg;have rH:=dA;obtain⟨jo,lU⟩:=hh2 (oh.out.load W (ay.refl _ _)) aR;clear h hT hP hs hQ bk cM jN jL aR hK aH;have e0:cH 0 ⟨#[]⟩ false 0= #[.int .i64 0,.string ⟨#[]⟩,.bool false,.int .i64 0]:=rfl;rcases dZ o.Q.length with h0|h0
 ·have aJ:o.Q=[]:=List.length_eq_zero_iff.1 h0
  obtain⟨wy,s1,s2,s3⟩:=oh.out.err 1 (by omega) (aK.out aJ) W (ay.refl _ _);obtain⟨HS,HL,HF⟩:=hh3 s1 s2 s3;rw[h0] at c2;clear s1 s2 s3 oh Ba xt aK tV rO xj ou rf av ae qd jo lU aV bo aJ h0 e0;rw[lL] at *;generalize fF w b gp B (lv B M o)=Q,cB b o vp _ vd=J at *;go_in;go_wp2_with(with_reducible refine gS 38 HS.out ?_);exact aI (bA results71 rfl HL.out) rfl HF.out
 ·have aa:o.Q≠[]:=λe=>by rw[e] at h0;simp at h0
  obtain⟨tV,rO,xj,rf,ae⟩:=hh5 (tV.out aa) (rO.out aa) (xj.out aa) (rf.out aa) (ae.out aa);have bl:((o.Q.length:Int)==0)=false:=by rw[cL];omega
  obtain⟨jR,mY⟩:=hh2 oh.out.err oh.out.load;clear oh aK aa h0 aV bo;unfold Ry at Ba;unfold yM at ae;unfold Ew at xt;rw[lL] at *;rw[e0] at Ba xt;clear e0;generalize fF w b gp B (lv B M o)=Q,o.Q.length=m at *;generalize hJ:cB b o vp (.slice pa m pc) vd=J,kG M o.P=ne,ko M o=DM,bC:bg (M (bq M o.P).1).E (aS o.P)=f,bj:aM ck (.slice none 0 0)=Z0 at *;have jy:=ar bj;clear hJ bj bC;go_in;go_wp2_with(with_reducible refine gL 91 jo.out ?_);refine Ba.out.mono ?_;rintro e U ⟨z,⟨aa,rfl⟩|⟨rfl,v,g,rfl,hE,hg⟩⟩
  ·obtain⟨w2,w3,p1,p2,-,-,p5,-⟩:=sH U (S0:= #[.int .i64 0,.string ⟨#[]⟩,.bool false,.int .i64 0]) (Z0:=Z0) rfl (by rw[<-jy.out];rfl) 0 ⟨#[]⟩ false 0 (n:=ck) (v:= .slice none 0 0) rfl rfl
   obtain⟨wy,s1,s2,s3⟩:=jR.out ne aa (tV.out aa) w3 (z.trans' p5);rw[jy.out] at p2;have b1:(ne != 0)=true:=by simpa using aa
   obtain⟨jw,pq,HS,HL,HF⟩:=hh5 p1 p2 s1 s2 s3;clear hW p1 p2 p5 z s1 s2 s3 aa Ba xt tV rO xj ou rf av ae qd jR mY jo lU jy c1 c2;unfold cH at jw;go_wp2_with(with_reducible first|refine gS 174 jw.out ?_|refine gS 75 pq.out ?_|refine gS 38 HS.out ?_);exact aI (bA results71 rfl HL.out) rfl HF.out
  ·obtain⟨aU,aQ,bJ⟩:=ou.out rfl
   obtain⟨Ey,PJ,aD,aG,ax⟩:=hh5 (rO.out rfl) (xj.out rfl) (rf.out rfl) (ae.out rfl) (av.out rfl);clear rO xj rf ae av;generalize hn:nT T f.toNat=n at *;obtain⟨w2,w3,p1,p2,p3,p4,p5,p6⟩:=sH U (S0:= #[.int .i64 0,.string ⟨#[]⟩,.bool false,.int .i64 0]) (Z0:=Z0) rfl (by rw[<-jy.out];rfl) (bq M o.P).1 (aS o.P) true f (n:=n) (v:=v) aU hE.one;have kg:=z.trans' p5;have bK:w.heap.size+2<=U.heap.size:=by have :=z.size;have :=lU.out;omega
   obtain⟨jw,pq,az,yL⟩:=hh4 p1 p2 (xt.out w3 kg) (mY.out w3 kg);obtain⟨-,c3⟩:=qd.out w3 kg;have qK:Hid (bh w3 U.heap.size (cH (bq M o.P).1 (aS o.P) true f) 174/\bh w3 (U.heap.size+1) (aM n v) 75/\w3.heap.size≥U.heap.size+2):=⟨p3,p4,p6⟩;have nK:=ar kg;clear hW p1 p2 p3 p4 p5 p6 z kg hE hg Ba tV ou jo c1 c2 xt hn;generalize W9:aM n v=Zn,ak:cH (bq M o.P).1 (aS o.P) true f=Zf,bq M o.Q=R2 at *;generalize bg (M R2.1).E (aS o.Q)=f2 at *;obtain⟨t,e2⟩:=R2
   dsimp only at *
   go_wp2_with(with_reducible first|refine gS 174 jw.out ?_|refine gS 75 pq.out ?_|refine gL 91 yL.out ?_);refine az.out.mono ?_;rintro e w4 ⟨aj,hh⟩;rcases hh with ⟨he,rfl⟩|⟨rfl,th,jx,rfl,Oo⟩
   ·obtain⟨w5,q1,q2,q3⟩:=iU (d:=0) (nm:=⟨#[]⟩) (th:=false) (i:=0) (bh.new w4 #[(0:Int),.string ⟨#[]⟩,false,(0:Int)] 174) rfl
    have rG:ay [] w4 w5:=((ay.refl [] w4).alloc _).trans q3 (by intro x hx;rw[au] at hx;omega);obtain⟨wy,s1,s2,s3⟩:=jR.out e2 he (Ey.out he) w5 (nK.out.trans' (aj.trans' rG));have b1:(e2 != 0)=true:=by simpa using he
    obtain⟨rA,HS,HL,HF⟩:=hh4 q1 s1 s2 s3;clear q1 q2 q3 aj rG s1 s2 s3 he az Ey PJ aD ax aG qd jR mY lU jy yL qK nK jw pq c3;unfold cH at rA;go_wp2_with(with_reducible first|refine gS 174 rA.out ?_|refine gS 38 HS.out ?_);exact aI (bA results71 rfl HL.out) rfl HF.out
   ·obtain⟨w5,q1,q2,q3⟩:=iU (d:=t) (nm:=aS o.Q) (th:=th) (i:=jx) (bh.new w4 #[(0:Int),.string ⟨#[]⟩,false,(0:Int)] 174) rfl
    have rG:ay [] w4 w5:=((ay.refl [] w4).alloc _).trans q3 (by intro x hx;rw[au] at hx;omega);have tU:=aj.trans' rG;have Jl:=nK.out.trans' tU;have aC:=qK.out.1.keep tU (by simp);have af:=qK.out.2.1.keep tU (by simp);have d1:w5.cell? ⟨U.heap.size,3,none⟩=some (.int .i64 f):=by rw[aC.cell,<-ak];rfl
    have d2:w5.cell? ⟨w4.heap.size,2,none⟩=some (.bool th):=by rw[q2.cell];rfl
    have d3:w5.cell? ⟨w4.heap.size,3,none⟩=some (.int .i64 jx):=by rw[q2.cell];rfl
    have rA:=ar q1;by_cases V:f2=f
    ·have bw:th=true/\jx=f:=by
      rcases Oo with ⟨-,aH,-⟩|⟨G,-,h2⟩
      ·omega
      ·exact⟨G,by omega⟩
     obtain⟨rfl,rfl⟩:=bw;obtain⟨wy,s1,s2,s3⟩:=aD.out (by first|trivial|rfl) V w5 Jl;obtain⟨HS,HL,HF⟩:=hh3 s1 s2 s3;clear q1 q2 q3 aj rG tU Jl aC af s1 s2 s3 V Oo az Ey PJ aD ax aG qd jR mY lU jy yL qK nK jw pq c3 ak W9 aQ;generalize cH t (aS o.Q) true jx=Zt at *;go_wp2_with(with_reducible first|refine gS 174 rA.out ?_|refine gS 38 HS.out ?_);exact aI (bA results71 rfl HL.out) rfl HF.out
    ·have bD:th=false\/(th=true/\(jx==f)=false):=by
      rcases Oo with ⟨G,-,-⟩|⟨G,-,h2⟩
      ·exact .inl G
      ·exact .inr ⟨G,by rw[cL];omega⟩
     have d4:w5.cell? w4.heap.size=some (.int .i64 (t:Int)):=by rw[q2.cell];rfl
     obtain⟨d5,-⟩:=qd.out w5 Jl;obtain⟨Uq,bu,bc,qU,bf⟩:=hh5 (ax.out w5 Jl) (aG.out (by first|trivial|rfl) V) (PJ.out (by first|trivial|rfl) V) Jl Oo;have D8:Hid (bh w5 U.heap.size Zf 174/\bh w5 (U.heap.size+1) Zn 75/\bh w5 w4.heap.size (cH t (aS o.Q) th jx) 174):=⟨aC,af,q2⟩;clear q1 q2 q3 aj rG tU Jl aC af V Oo az Ey PJ aD ax aG lU jy yL qK nK jw pq c3;have HW:Hid (∀rb:Bool,(rb=true↔kR M f.toNat t)->∀w6,ay [] w5 w6->(rb=true->vL (w.heap.size+1) #[(11:Int),(0:Int),(0:Int),(0:Int),(0:Int),(),()] Q w6)):=λrb ac w6 jv G=>jR.out 11 (by omega) (bc.out (ac.1 G)) w6 (qU.out.trans' jv)
     have aW:∀(Zt:Array Value),cH t (aS o.Q) th jx=Zt->∀rb w6,(rb=true↔kR M f.toNat t)->ay [] w5 w6->rb=false->
       (loadVar 91 w.heap.size).run prog w6= .ok (.agg J) w6/\(loadVar 174 w4.heap.size).run prog w6= .ok (.agg Zt) w6/\w6.cell? ⟨U.heap.size+1,1,none⟩=some (.int .i64 n.K)/\
       Calls prog 125 #[J,.agg Zt,n.K] w6 λe w7=>∃y,e=(y:Int)/\
        ((y≠0/\vL (w.heap.size+1) #[(y:Int),(0:Int),(0:Int),(0:Int),(0:Int),(),()] Q w7)\/
        (y=0/\(loadVar 91 w.heap.size).run prog w7= .ok (.agg J) w7/\(loadVar 174 U.heap.size).run prog w7= .ok (.agg Zf) w7/\(loadVar 174 w4.heap.size).run prog w7= .ok (.agg Zt) w7/\Calls prog 126 #[J,Zf,.agg Zt] w7 λe w2=>∃r wy,e=(r:Int)/\(storeVar 38 (w.heap.size+1:Nat) (.agg #[(r:Int),(0:Int),(0:Int),(0:Int),(0:Int),(),()])).run prog w2= .ok () wy/\(loadVar 38 (w.heap.size+1:Nat)).run prog wy= .ok (.agg #[(r:Int),(0:Int),(0:Int),(0:Int),(0:Int),(),()]) wy/\Q (.returned (.agg #[(r:Int),(0:Int),(0:Int),(0:Int),(0:Int),(),()])) wy)):=λZt ai rb w6 ac jv hf=>by
      have aX:=D8.out.2.2.keep jv (by simp);have af:=D8.out.2.1.keep jv (by simp);refine⟨mY.out w6 (qU.out.trans' jv),by rw[<-ai];exact jn aX,by rw[af.cell,<-W9];exact(gG v aU).f1,?_⟩;have hy:=bu.out (λhc=>by rw[ac.2 hc] at hf;cases hf) th jx bf.out w6 (qU.out.trans' jv);rw[ai,<-aQ] at hy;refine hy.mono ?_;rintro e w7 ⟨y,rfl,xw,⟨ag,hd⟩|⟨rfl,hm⟩⟩
      ·exact⟨y,rfl,.inl ⟨ag,jR.out y ag hd w7 (qU.out.trans' (jv.trans' xw))⟩⟩
      ·refine⟨0,rfl,.inr ⟨rfl,mY.out w7 (qU.out.trans' (jv.trans' xw)),?_,by rw[<-ai];exact jn (aX.keep xw (by simp)),?_⟩⟩
       ·have :=jn (d:=(bq M o.P).1) (nm:=aS o.P) (th:=true) (i:=f) (by rw[ak];exact(D8.out.1.keep jv (by simp)).keep xw (by simp))
        rwa[ak] at this
       ·exact hm
     generalize ai:cH t (aS o.Q) th jx=Zt at *;have aL:=ar (aW Zt rfl);clear aW bf D8 bu bc jR mY qd qU W9 ak aQ aU ai;generalize bv:kR M f.toNat t=bH at *;clear bv;generalize (t:Int)=ti at *;rcases bD with rfl|⟨rfl,bI⟩
     all_goals
      go_wp2_with(with_reducible refine gS 174 rA.out ?_);refine Uq.out.mono ?_;rintro e w6 ⟨rb,rfl,ac,jv⟩;cases rb with
      |true=>
       obtain⟨wy,s1,s2,s3⟩:=HW.out true ac w6 jv rfl;obtain⟨HS,HL,HF⟩:=hh3 s1 s2 s3;clear s1 s2 s3 ac jv HW aL Uq rA d1 d2 d3 d4 d5;go_wp2_with(with_reducible refine gS 38 HS.out ?_);exact aI (bA results71 rfl HL.out) rfl HF.out
      |false=>
       obtain⟨k1,k2,k3,k4⟩:=aL.out false w6 ac jv rfl;obtain⟨DA,aN,aP⟩:=hh3 k1 k2 k4;clear k1 k2 k4 ac jv HW aL Uq rA d1 d2 d3 d4 d5;go_wp2_with(with_reducible first|refine gL 91 DA.out ?_|refine gL 174 aN.out ?_);refine aP.out.mono ?_;rintro e w7 ⟨y,rfl,⟨ag,wy,s1,s2,s3⟩|⟨rfl,m1,m2,m3,m4⟩⟩
       ·have HS:=ar s1
        obtain⟨HL,HF⟩:=hh2 s2 s3;have b1:(y != 0)=true:=by simpa using ag
        clear s1 s2 s3 ag DA aN aP k3;go_wp2_with(with_reducible refine gS 38 HS.out ?_);exact aI (bA results71 rfl HL.out) rfl HF.out
       ·have br:=ar m1
        obtain⟨bt,aY,aZ⟩:=hh3 m2 m3 m4;clear m1 m2 m3 m4 DA aN aP k3;go_wp2_with(with_reducible first|refine gL 91 br.out ?_|refine gL 174 bt.out ?_|refine gL 174 aY.out ?_);refine aZ.out.mono ?_;rintro e w8 ⟨r,wy,rfl,s1,s2,s3⟩;obtain⟨HS,HL,HF⟩:=hh3 s1 s2 s3;clear s1 s2 s3 br bt aY aZ;go_wp2_with(with_reducible refine gS 38 HS.out ?_);exact aI (bA results71 rfl HL.out) rfl HF.out
end Go.Proofs.YtimcfdnbpkiniaaGreatDoor
