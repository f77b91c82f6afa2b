/- Lemmas. -/
import Derived.Test.YtepbpdipenedhaaGreatDoorM28
set_option maxHeartbeats 4000000
set_option maxRecDepth 100000
namespace Go.Proofs.YtepbpdipenedhaaGreatDoor
open Go.Proofs.Tryz
open Go.RowKit
variable{w w':World}{b gf gl gn gp n:Nat}{B:List Int}{ps:List (Int×Int)}{T:List (bT×Value)}{own:Nat->List Nat}{ex l:List Nat}{M:Nat->Nd}{o:jB}{r:mM}{Z:Array Value}{s:iV}
def RB (w:World) (M:Nat->Nd) (T:List (bT×Value)) (P:List ByteArray) (e:Ending) (w':World):Prop:=
 ay [] w w'/\((kJ M P≠0/\e= .returned (.tuple #[cG 0 ⟨#[]⟩ false 0,aM cg (.slice none 0 0),(kJ M P:Int)]))\/
  (kJ M P=0/\∃v g,e= .returned (.tuple #[cG (bq M P).1 (aS P) true (bg (M (bq M P).1).E (aS P)),aM (nT T (bg (M (bq M P).1).E (aS P)).toNat) v,(0:Int)])/\bD w' v g (nT T (bg (M (bq M P).1).E (aS P)).toNat).E/\w.heap.size<=g))
theorem Ib (h:rB w b gp B ps T own ex M)(hT:dw M)(o:jB)(vp vq vd:Value){v:Value}{g:Nat}{P:List ByteArray}(hP:gN w v g P)(hs:∀s∈P,s.size<=9223372036854775807):
  Calls prog 111 #[cA b o vp vq vd,v] w (RB w M T P):=by
 obtain⟨W,hW⟩:∃W,((w.alloc (.cells (cA b o vp vq vd) 79)).alloc (.cells (cG 0 ⟨#[]⟩ false 0) 165)).alloc (.cells (aM cg (.slice none 0 0)) 111)=W:=⟨_,rfl⟩;have cJ:ay [] w W:=by rw[<-hW];exact(((ay.refl _ _).alloc _).alloc _).alloc _
 obtain⟨xB,fI⟩:=hh2 (Di (h.keep0 cJ) hT o vp vq vd (hP.keep cJ (by simp)) hs) cJ;have jR:bh W w.heap.size (cA b o vp vq vd) 79 :=by rw[<-hW];exact((bh.new w _ _).alloc _).alloc _
 have sw:bh W (w.heap.size+1) (cG 0 ⟨#[]⟩ false 0) 165 :=by rw[<-hW];exact(bh.new2 w _ _ _ _).alloc _
 have IC:bh W (w.heap.size+1+1) (aM cg (.slice none 0 0)) 111 :=by
  rw[<-hW];have :=bh.new ((w.alloc (.cells (cA b o vp vq vd) 79)).alloc (.cells (cG 0 ⟨#[]⟩ false 0) 165)) (aM cg (.slice none 0 0)) 111;rwa[aX,aX] at this
 have HJ:Hid (bh W w.heap.size (cA b o vp vq vd) _/\bh W (w.heap.size+1) (cG 0 ⟨#[]⟩ false 0) _/\bh W (w.heap.size+1+1) (aM cg (.slice none 0 0)) _):=⟨jR,sw,IC⟩;have lY:=ar (jJ jR);have lU:Hid (W.heap.size=w.heap.size+3):=by show _=_;rw[<-hW,aX,aX,aX]
 -- what is told
 have ac:Hid (∀U d nm th i n v,ay [] W U->n.B.length=13->v.oneCell'=true->∃wy G,(storeVar 165 (w.heap.size+1:Nat) (.agg (cG d nm th i))).run prog U= .ok () wy/\(storeVar 111 (w.heap.size+1+1:Nat) (.agg (aM n v))).run prog wy= .ok () G/\
   (loadVar 165 (w.heap.size+1:Nat)).run prog G= .ok (.agg (cG d nm th i)) G/\(loadVar 111 (w.heap.size+1+1:Nat)).run prog G= .ok (.agg (aM n v)) G/\ay [w.heap.size+1,w.heap.size+1+1] U G/\ay [w.heap.size+1,w.heap.size+1+1] U wy/\ay [] w G):=λU d nm th i n v V hB hv=>by
  obtain⟨wy,s1,s2,s3⟩:=iU (d:=d) (nm:=nm) (th:=th) (i:=i) (HJ.out.2.1.keep V (by simp)) rfl;obtain⟨G,t1,t2,t3⟩:=cu (n:=n) (v:=v) ((HJ.out.2.2.keep V (by simp)).keep s3 (by simp)) rfl hB hv;refine⟨wy,G,s1,t1,jr (s2.keep t3 (by simp)),b9 t2 hB,(s3.mono (by simp)).trans' (t3.mono (by simp)),s3.mono (by simp),?_⟩;exact((fI.out.trans' V).trans s3 (by intro y hy;rw[au] at hy;omega)).trans t3 (by intro y hy;rw[au] at hy;omega)
 have ry:Hid (∀w' r,ay [] w w'->kJ M P=r->r≠0->RB w M T P (.returned (.tuple #[cG 0 ⟨#[]⟩ false 0,aM cg (.slice none 0 0),(r:Int)])) w'):=λw' r V hr h0=>⟨V,.inl ⟨by rw[hr];exact h0,by rw[hr]⟩⟩
 have qZ:Hid (∀w' v g,ay [] w w'->kJ M P=0->bD w' v g (nT T (bg (M (bq M P).1).E (aS P)).toNat).E->w.heap.size<=g->RB w M T P (.returned (.tuple #[cG (bq M P).1 (aS P) true (bg (M (bq M P).1).E (aS P)),aM (nT T (bg (M (bq M P).1).E (aS P)).toNat) v,(0:Int)])) w'):=λw' v g V hr hE hg=>⟨V,.inr ⟨hr,v,g,rfl,hE,hg⟩⟩
 have HV:Hid (kJ M P=if (bq M P).2≠0 then (bq M P).2 else if bg (M (bq M P).1).E (aS P)<0 then 2 else 0):=rfl;have HG:Hid (0<=bg (M (bq M P).1).E (aS P)->∀U,ay [] w U->Calls prog 97 #[b,(bg (M (bq M P).1).E (aS P):Int)] U (λe w'=>Tm U (nT T (bg (M (bq M P).1).E (aS P)).toNat) e w'/\(nT T (bg (M (bq M P).1).E (aS P)).toNat).B.length=13)):=λhf U V=>by
  have hh:=jb hT hf;have h2:=(h.keep0 V).get hh.2.1;have h3:=(h.nd.store hh.2.1).len;rw[hh.2.2.1] at h2;exact h2.mono λe w' he=>⟨he,h3⟩
 have aO:=pj;have rG:=dz;clear h hT hP hs cJ jR sw IC;unfold Em at xB;generalize RB w M T P=Q,kJ M P=ve,bq M P=R at *;generalize bg (M R.1).E (aS P)=f at *;generalize aS P=nm,hn:nT T f.toNat=n,aG:aM cg (.slice none 0 0)=Z0 at *;have jt:=ar aG;have e0:cG 0 ⟨#[]⟩ false 0= #[.int .i64 0,.string ⟨#[]⟩,.bool false,.int .i64 0]:=rfl;obtain⟨x,ee⟩:=R
 dsimp only at *
 have qd:Hid (∀U,ay [] W U->U.cell? w.heap.size=some (.pointer (some ⟨b,0,none⟩))):=λU V=>by rw[(HJ.out.1.keep V (by simp)).cell];rfl
 generalize hJ:cA b o vp vq vd=J at *;clear hJ hn aG;rw[e0] at *;clear e0;go_in;go_wp2_with(with_reducible refine gL 79 lY.out ?_);refine xB.out.mono ?_;rintro e w1 ⟨aa,⟨af,rfl⟩|⟨rfl,th,i,rfl,hh⟩⟩
 ·obtain⟨w2,p1,p2,p3⟩:=iU (d:=0) (nm:=⟨#[]⟩) (th:=false) (i:=0) (bh.new w1 #[(0:Int),.string ⟨#[]⟩,false,(0:Int)] 165) rfl
  have z:=aa.trans' (((ay.refl [] w1).alloc _).trans p3 (by intro x hx;rw[au] at hx;omega));obtain⟨w3,w4,s1,s2,s3,s4,-,-,s5⟩:=ac.out w2 0 ⟨#[]⟩ false 0 cg (.slice none 0 0) z rfl rfl;have HF:=ar (ry.out w4 ee s5 (by rw[HV.out,aB af]) af);have b1:(ee != 0)=true:=by simpa using af
  rw[jt.out] at s2 s4;obtain⟨jz,py,tZ,vE,ak⟩:=hh5 p1 s1 s2 s3 s4;clear hW p1 p2 p3 aa z s1 s2 s3 s4 s5 af xB fI HJ lY ac ry qZ HV HG qd lU jt;unfold cG at jz py vE;go_wp2_with(with_reducible first|refine gS 165 jz.out ?_|refine gS 165 py.out ?_|refine gS 111 tZ.out ?_);exact aI (yG results111 rfl rfl vE.out ak.out rfl) rfl HF.out
 ·obtain⟨w2,p1,p2,p3⟩:=iU (d:=x) (nm:=nm) (th:=th) (i:=i) (bh.new w1 #[(0:Int),.string ⟨#[]⟩,false,(0:Int)] 165) rfl
  have eV:ay [] w1 w2:=((ay.refl [] w1).alloc _).trans p3 (by intro x hx;rw[au] at hx;omega);have z:=aa.trans' eV;have c1:w2.cell? ⟨w1.heap.size,2,none⟩=some (.bool th):=by rw[p2.cell];rfl
  have c2:w2.cell? ⟨w1.heap.size,3,none⟩=some (.int .i64 i):=by rw[p2.cell];rfl
  have ae:=HV.out;rw[aA (by simp)] at ae;rcases hh with ⟨rfl,aC,rfl⟩|⟨rfl,aH,rfl⟩
  ·obtain⟨w3,w4,s1,s2,s3,s4,-,-,s5⟩:=ac.out w2 0 ⟨#[]⟩ false 0 cg (.slice none 0 0) z rfl rfl
   have HF:=ar (ry.out w4 2 s5 (by rw[ae,aB aC]) (by omega));rw[jt.out] at s2 s4;obtain⟨jz,py,tZ,vE,ak⟩:=hh5 p1 s1 s2 s3 s4;clear hW p1 p2 p3 aa z eV s1 s2 s3 s4 s5 aC ae xB fI HJ lY ac ry qZ HV HG qd lU jt c2;have es:cG 0 ⟨#[]⟩ false 0= #[.int .i64 0,.string ⟨#[]⟩,.bool false,.int .i64 0]:=rfl;rw[es] at py vE HF;clear es;generalize cG x nm false 0=Zs at *;go_wp2_with(with_reducible first|refine gS 165 jz.out ?_|refine gS 165 py.out ?_|refine gS 111 tZ.out ?_);exact aI (yG results111 rfl rfl vE.out ak.out rfl) rfl HF.out
  ·have aD:ve=0:=by rw[ae,aA]
   have c3:=qd.out w2 z;obtain⟨YZ,jz⟩:=hh2 (HG.out aH w2 (fI.out.trans' z)) p1;have mZ:Hid (bh w2 w1.heap.size (cG x nm true i) 165/\w.heap.size+3<=w1.heap.size):=⟨p2,by have :=aa.size;rw[lU.out] at this;omega⟩;obtain⟨fx,JK⟩:=hh2 z (λw' v g V hE hg=>qZ.out w' v g V aD hE hg);clear hW p1 p2 p3 aa z eV aH ae aD xB lY ry qZ HV HG qd lU HJ;generalize ax:cG x nm true i=Zs at *;go_wp2_with(with_reducible refine gS 165 jz.out ?_);refine YZ.out.mono ?_;rintro e w3 ⟨⟨v,g,va,rfl,hE,hg,aj⟩,av⟩;obtain⟨w4,q1,q2,q3⟩:=cu (n:=n) (v:=v) (bh.new w3 Z0 111) (by rw[<-jt.out];rfl) av hE.one;have aJ:=aj.size;have wP:ay [] w3 w4:=((ay.refl _ _).alloc _).trans q3 (by intro x hx;rw[au] at hx;omega);have az:=fx.out.trans' (aj.trans' wP);have aF:=(mZ.out.1.keep aj (by simp)).keep wP (by simp);obtain⟨w5,w6,s1,s2,s3,s4,s6,s7,s5⟩:=ac.out w4.drew x nm true i n v az.drew av hE.one;rw[ax] at s1 s3;have JM:Hid (∀G,ay [w.heap.size+1,w.heap.size+1+1] w4 G->(loadVar 165 w1.heap.size).run prog G= .ok (.agg Zs) G/\(loadVar 111 w3.heap.size).run prog G= .ok (.agg (aM n v)) G):=λG hz=>by
    have h3:=mZ.out.2;have h4:w1.heap.size<w2.heap.size:=by
     have :=mZ.out.1.lt;exact this
    refine⟨?_,b9 (q2.keep hz (by simp;omega)) av⟩;have :=jr (d:=x) (nm:=nm) (th:=true) (i:=i) (by rw[ax];exact aF.keep hz (by simp;omega));rwa[ax] at this
   have HF:=ar (JK.out w6 v g s5 ((hE.keep wP (by simp)).keep (((ay.refl [] w4).drew.mono (by simp)).trans' s6) (λ_=>by
    have h4:=mZ.out.2;have h5:=mZ.out.1.lt;simp only[aL,aK,bC];omega)) (by have :=fx.out.size;have :=fI.out.size;omega))
   obtain⟨tZ,rz,Gx,Iz,Iy⟩:=hh5 q1 s1 s2 s3 s4;have EG:Hid (ay [w.heap.size+1,w.heap.size+1+1] w4 w6):=((ay.refl [] w4).drew.mono (by simp)).trans' s6;have aN:Hid (ay [w.heap.size+1,w.heap.size+1+1] w4 w5):=((ay.refl [] w4).drew.mono (by simp)).trans' s7;clear q1 q2 q3 s1 s2 s3 s4 s5 s6 aj wP az aF s7 hE hg aJ JK ac fI fx mZ YZ jt c1 c2 c3;generalize aM n v=Zn at *;go_wp2_with(with_reducible refine gS 111 tZ.out ?_);refine kA (S:=λU=>ay [w.heap.size+1,w.heap.size+1+1] w4 U) [0,1,2] [3,4,5] (l:=[_,_,_]) (tl:=[_,_,_]) (by kernel_rfl) (by kernel_rfl) (by kernel_rfl) (by kernel_rfl) rfl rfl rfl rfl rfl (λd _ _ _ _ h=>by cases d<;>exact h) (ay.refl _ _).drew ?_;simp only[iB,iM,iN];repeat (
    (first
    |(refine cT.cons (.agg Zs) (YieldsIf.load rfl 165 _ rfl _ rfl λG hz=>(JM.out _ hz).1) ?_)
    |(refine cT.cons (.agg Zn) (YieldsIf.load rfl 111 _ rfl _ rfl λG hz=>(JM.out _ hz).2) ?_)
    |(refine cT.cons ?_ (YieldsIf.val rfl ?h) ?_;(case h=>(intro G hz;clear hz;go_simp;rfl))));simp only[Act.put,ag,ah,ai])
   refine cT.done ?_;unfold gH;go_wp2_with(with_reducible refine gS 165 rz.out ?_);refine⟨aN.out,?_⟩;unfold gH;go_wp2_with(with_reducible refine gS 111 Gx.out ?_);refine⟨EG.out,?_⟩;unfold gH;go_wp2_with fail;refine⟨EG.out,?_⟩;unfold gH;go_wp2_with fail;exact aI (yG results111 rfl rfl Iz.out Iy.out rfl) rfl HF.out
def AR (w:World) (T:List (bT×Value)) (r:Nat×Int) (e:Ending) (w':World):Prop:=
 ay [] w w'/\((r.2≠0/\e= .returned (.tuple #[(0:Int),aM cg (.slice none 0 0),.int .i64 r.2]))\/
  (r.2=0/\∃v g,e= .returned (.tuple #[(r.1:Int),aM (nT T r.1) v,(0:Int)])/\bD w' v g (nT T r.1).E/\w.heap.size<=g))
theorem Dn (h:rB w b gp B ps T own ex M)(hT:dw M){o:jB}{vp vq vd:Value}{g:Nat}(hP:gN w vp g o.P)(hs:∀s∈o.P,s.size<=9223372036854775807):
  Calls prog 119 #[cA b o vp vq vd] w (AR w T (cM M o.P)):=by
 obtain⟨W,hW⟩:∃W,(w.alloc (.cells (cA b o vp vq vd) 79)).alloc (.cells (aM cg (.slice none 0 0)) 111)=W:=⟨_,rfl⟩;have cJ:ay [] w W:=by rw[<-hW];exact((ay.refl _ _).alloc _).alloc _
 obtain⟨Gk,fI⟩:=hh2 (Y8 (h.keep0 cJ).shT (h.nd.snd hT).agree (hP.keep cJ (by simp)) hs) cJ;have jR:bh W w.heap.size (cA b o vp vq vd) 79 :=by rw[<-hW];exact(bh.new w _ _).alloc _
 have IC:bh W (w.heap.size+1) (aM cg (.slice none 0 0)) 111 :=by rw[<-hW];exact bh.new2 w _ _ _ _
 have HJ:Hid (bh W w.heap.size (cA b o vp vq vd) _/\bh W (w.heap.size+1) (aM cg (.slice none 0 0)) _):=⟨jR,IC⟩;have lU:Hid (W.heap.size=w.heap.size+2):=by show _=_;rw[<-hW,aX,aX]
 have c1:W.cell? w.heap.size=some (.pointer (some ⟨b,0,none⟩)):=by rw[jR.cell];rfl
 have c2:W.cell? ⟨w.heap.size,2,none⟩=some vp:=by rw[jR.cell];rfl
 have aa:Hid (∀U n v,ay [] W U->n.B.length=13->v.oneCell'=true->∃z,(storeVar 111 (w.heap.size+1:Nat) (.agg (aM n v))).run prog U= .ok () z/\(loadVar 111 (w.heap.size+1:Nat)).run prog z= .ok (.agg (aM n v)) z/\ay [w.heap.size+1] U z/\ay [] w z):=λU n v V hB hv=>by
  obtain⟨z,t1,t2,t3⟩:=cu (n:=n) (v:=v) (HJ.out.2.keep V (by simp)) rfl hB hv;exact⟨z,t1,b9 t2 hB,t3,(fI.out.trans' V).trans t3 (by intro y hy;rw[au] at hy;omega)⟩
 have PJ:Hid ((cM M o.P).2=0->(M (cM M o.P).1).K≠0):=λhe=>(nW hT he).1
 have HG:Hid (∀x,(M x).K≠0->∀U,ay [] w U->Calls prog 97 #[b,(x:Int)] U (λe w'=>Tm U (nT T x) e w'/\(nT T x).B.length=13)):=λx hx U V=>
  ((h.keep0 V).get hx).mono λe w' he=>⟨he,(h.nd.store hx).len⟩
 have ry:Hid (∀w' r,ay [] w w'->(cM M o.P).2=r->r≠0->AR w T (cM M o.P) (.returned (.tuple #[(0:Int),aM cg (.slice none 0 0),(r:Int)])) w'):=λw' r V hr h0=>⟨V,.inl ⟨by rw[hr];exact h0,by rw[hr]⟩⟩
 have qZ:Hid (∀w' (x:Nat) v g,ay [] w w'->cM M o.P=(x,0)->bD w' v g (nT T x).E->w.heap.size<=g->AR w T (cM M o.P) (.returned (.tuple #[(x:Int),aM (nT T x) v,(0:Int)])) w'):=λw' x v g V hr hE hg=>by
  rw[hr];exact⟨V,.inr ⟨rfl,v,g,rfl,hE,hg⟩⟩
 have rG:=dz;clear h hT hP hs cJ jR IC;generalize AR w T (cM M o.P)=Q at *;generalize cM M o.P=R,ak:aM cg (.slice none 0 0)=Z0 at *;have jt:=ar ak;generalize hJ:cA b o vp vq vd=J at *;clear hJ ak;obtain⟨x,ee⟩:=R
 dsimp only at *
 go_in;go_wp2_with fail;refine Rr Gk.out λw1 G=> ?_;by_cases he:ee=0
 ·subst he
  have aj:=PJ.out rfl;obtain⟨YZ,JK⟩:=hh2 (HG.out x aj w1 (fI.out.trans' G)) (λw' v g V hE hg=>qZ.out w' x v g V rfl hE hg);have c3:w1.cell? w.heap.size=some (.pointer (some ⟨b,0,none⟩)):=(aO (G.block _ (by show w.heap.size<_;rw[lU.out];omega) (by simp))).trans c1;have jK:=ar G;clear hW Gk HG ry qZ PJ aj G c1 c2 HJ;generalize nT T x=n,(x:Int)=xi at *;go_wp2_with fail;refine YZ.out.mono ?_;rintro e w3 ⟨⟨v,g,va,rfl,hE,hg,ac⟩,ae⟩;obtain⟨w4,q1,q2,q3⟩:=cu (n:=n) (v:=v) (bh.new w3 Z0 111) (by rw[<-jt.out];rfl) ae hE.one;have av:=ac.size;have af:=jK.out.size;rw[lU.out] at af;have wP:ay [] w3 w4:=((ay.refl _ _).alloc _).trans q3 (by intro x hx;rw[au] at hx;omega);obtain⟨w6,s1,s2,s3,s5⟩:=aa.out w4.drew n v ((jK.out.trans' (ac.trans' wP)).drew) ae hE.one;have uY:Hid (∀z,ay [w.heap.size+1] w4 z->(loadVar 111 w3.heap.size).run prog z= .ok (.agg (aM n v)) z):=λz hz=>b9 (q2.keep hz (by simp;omega)) ae
  have EG:Hid (ay [w.heap.size+1] w4 w6):=((ay.refl [] w4).drew.mono (by simp)).trans' s3;have PJ:Hid (ay [w.heap.size+1] w4 w4.drew):=(ay.refl [] w4).drew.mono (by simp);obtain⟨HF,tZ,Gx,Iy⟩:=hh4 (JK.out w6 v g s5 ((hE.keep wP (by simp)).keep EG.out (λ_=>by rw[au];omega)) (by have :=fI.out.size;have :=jK.out.size;omega)) q1 s1 s2;clear q1 q2 q3 s1 s2 s3 s5 ac wP hE hg av af JK aa fI jK YZ jt c3 lU;generalize aM n v=Zn at *;go_wp2_with(with_reducible refine gS 111 tZ.out ?_);refine kA (S:=λU=>ay [w.heap.size+1] w4 U) [0,1,2] [3,4,5] (l:=[_,_,_]) (tl:=[_,_,_]) (by kernel_rfl) (by kernel_rfl) (by kernel_rfl) (by kernel_rfl) rfl rfl rfl rfl rfl (λd _ _ _ _ h=>by cases d<;>exact h) (ay.refl _ _).drew ?_;simp only[iB,iM,iN];repeat (
   (first
   |(refine cT.cons (.agg Zn) (YieldsIf.load rfl 111 _ rfl _ rfl λz hz=>uY.out _ hz) ?_)
   |(refine cT.cons ?_ (YieldsIf.val rfl ?h) ?_;(case h=>(intro z hz;clear hz;go_simp;rfl))));simp only[Act.put,ag,ah,ai])
  refine cT.done ?_;unfold gH;go_wp2_with fail;refine⟨PJ.out,?_⟩;unfold gH;go_wp2_with(with_reducible refine gS 111 Gx.out ?_);refine⟨EG.out,?_⟩;unfold gH;go_wp2_with fail;refine⟨EG.out,?_⟩;unfold gH;go_wp2_with fail;exact aI (rf results119 rfl rfl Iy.out rfl) rfl HF.out
 ·obtain⟨w4,s1,s2,-,s5⟩:=aa.out w1 cg (.slice none 0 0) G rfl rfl
  have HF:=ar (ry.out w4 ee s5 rfl he);have b1:(ee != 0)=true:=by simpa using he
  rw[jt.out] at s1 s2;obtain⟨tZ,ax⟩:=hh2 s1 s2;clear hW s1 s2 s5 G he Gk HG ry qZ PJ aa fI lU HJ jt c1 c2;go_wp2_with(with_reducible refine gS 111 tZ.out ?_);exact aI (rf results119 rfl rfl ax.out rfl) rfl HF.out
theorem zt (h:rB w b gp B ps T own ex M)(hT:dw M){o:jB}{vp vq vd:Value}{g:Nat}(hP:gN w vp g o.P)(hs:∀s∈o.P,s.size<=9223372036854775807):
  Calls prog 105 #[cA b o vp vq vd] w (AR w T (cZ M o.P)):=by
 obtain⟨W,hW⟩:∃W,(w.alloc (.cells (cA b o vp vq vd) 79)).alloc (.cells (aM cg (.slice none 0 0)) 111)=W:=⟨_,rfl⟩;have cJ:ay [] w W:=by rw[<-hW];exact((ay.refl _ _).alloc _).alloc _
 obtain⟨Gk,fI⟩:=hh2 (Dn (vq:=vq) (vd:=vd) (h.keep0 cJ) hT (hP.keep cJ (by simp)) hs) cJ;have jR:bh W w.heap.size (cA b o vp vq vd) 79 :=by rw[<-hW];exact(bh.new w _ _).alloc _
 have IC:bh W (w.heap.size+1) (aM cg (.slice none 0 0)) 111 :=by rw[<-hW];exact bh.new2 w _ _ _ _
 have HJ:Hid (bh W (w.heap.size+1) (aM cg (.slice none 0 0)) _):=IC;have lY:=ar (jJ jR);have lU:Hid (W.heap.size=w.heap.size+2):=by show _=_;rw[<-hW,aX,aX]
 have ac:Hid (∀wx n v,ay [] W wx->n.B.length=13->v.oneCell'=true->∃z,(storeVar 111 (w.heap.size+1:Nat) (.agg (aM n v))).run prog wx= .ok () z/\(loadVar 111 (w.heap.size+1:Nat)).run prog z= .ok (.agg (aM n v)) z/\ay [w.heap.size+1] wx z/\ay [] w z):=λwx n v hk hB hv=>by
  obtain⟨z,t1,t2,t3⟩:=cu (n:=n) (v:=v) (HJ.out.keep hk (by simp)) rfl hB hv;exact⟨z,t1,b9 t2 hB,t3,(fI.out.trans' hk).trans t3 (by intro y hy;rw[au] at hy;omega)⟩
 have ou:Hid ((cM M o.P).2=0->(nT T (cM M o.P).1).B.length=13):=λhe=>(h.nd.store (nW hT he).1).len
 have CS:Hid ((nT T (cM M o.P).1).K=(M (cM M o.P).1).K):=h.nd.kind _;have ry:Hid (∀w' r,ay [] w w'->(cZ M o.P).2=r->r≠0->AR w T (cZ M o.P) (.returned (.tuple #[(0:Int),aM cg (.slice none 0 0),(r:Int)])) w'):=λw' r hk hr h0=>⟨hk,.inl ⟨by rw[hr];exact h0,by rw[hr]⟩⟩
 have qZ:Hid (∀w' (x:Nat) v g,ay [] w w'->cZ M o.P=(x,0)->bD w' v g (nT T x).E->w.heap.size<=g->AR w T (cZ M o.P) (.returned (.tuple #[(x:Int),aM (nT T x) v,(0:Int)])) w'):=λw' x v g hk hr hE hg=>by
  rw[hr];exact⟨hk,.inr ⟨rfl,v,g,rfl,hE,hg⟩⟩
 have HV:Hid (cZ M o.P=if (cM M o.P).2=0/\(M (cM M o.P).1).K=2 then (0,5) else cM M o.P):=rfl;have rG:=dz;clear h hT hP hs cJ jR IC;unfold AR at Gk;generalize AR w T (cZ M o.P)=Q at *;generalize cZ M o.P=F,cM M o.P=R,af:aM cg (.slice none 0 0)=Z0 at *;have jt:=ar af;generalize hJ:cA b o vp vq vd=J at *;clear hJ af;obtain⟨x,ee⟩:=R
 dsimp only at *
 generalize hn:nT T x=n at *;go_in;go_wp2_with(with_reducible refine gL 79 lY.out ?_);refine Gk.out.mono ?_;rintro e w1 ⟨U,⟨he,rfl⟩|⟨rfl,v,g,rfl,hE,hg⟩⟩
 ·obtain⟨G,q1,q2,q3⟩:=cu (n:=cg) (v:= .slice none 0 0) (bh.new w1 Z0 111) (by rw[<-jt.out];rfl) rfl rfl
  have aa:=U.size;rw[lU.out] at aa;have eV:ay [] w1 G:=((ay.refl _ _).alloc _).trans q3 (by intro x hx;rw[au] at hx;omega);obtain⟨w6,s1,s2,s3,s5⟩:=ac.out G.drew cg (.slice none 0 0) ((U.trans' eV).drew) rfl rfl;have uY:Hid (∀z,ay [w.heap.size+1] G z->(loadVar 111 w1.heap.size).run prog z= .ok (.agg (aM cg (.slice none 0 0))) z):=λz hz=>b9 (q2.keep hz (by simp;omega)) rfl
  have EG:Hid (ay [w.heap.size+1] G w6):=((ay.refl [] G).drew.mono (by simp)).trans' s3;have PJ:Hid (ay [w.heap.size+1] G G.drew):=(ay.refl [] G).drew.mono (by simp);have HF:=ar (ry.out w6 ee s5 (by rw[HV.out,aA (λh=>he h.1)]) he);rw[jt.out] at q1 s1 s2 uY;obtain⟨tZ,Gx,Iy⟩:=hh3 q1 s1 s2;have b1:(ee==0)=false:=by simpa using he
  clear hW q1 q2 q3 s1 s2 s3 s5 U eV he aa Gk ac fI jt lU HJ lY ou CS ry qZ HV;go_wp2_with(with_reducible refine gS 111 tZ.out ?_);refine kA (S:=λwx=>ay [w.heap.size+1] G wx) [0,1,2] [3,4,5] (l:=[_,_,_]) (tl:=[_,_,_]) (by kernel_rfl) (by kernel_rfl) (by kernel_rfl) (by kernel_rfl) rfl rfl rfl rfl rfl (λd _ _ _ _ h=>by cases d<;>exact h) (ay.refl _ _).drew ?_;simp only[iB,iM,iN];repeat (
   (first
   |(refine cT.cons (.agg Z0) (YieldsIf.load rfl 111 _ rfl _ rfl λz hz=>uY.out _ hz) ?_)
   |(refine cT.cons ?_ (YieldsIf.val rfl ?h) ?_;(case h=>(intro z hz;clear hz;go_simp;rfl))));simp only[Act.put,ag,ah,ai])
  refine cT.done ?_;unfold gH;go_wp2_with fail;refine⟨PJ.out,?_⟩;unfold gH;go_wp2_with(with_reducible refine gS 111 Gx.out ?_);refine⟨EG.out,?_⟩;unfold gH;go_wp2_with fail;refine⟨EG.out,?_⟩;unfold gH;go_wp2_with fail;exact aI (rf results105 rfl rfl Iy.out rfl) rfl HF.out
 ·have V:=ou.out rfl
  obtain⟨G,q1,q2,q3⟩:=cu (n:=n) (v:=v) (bh.new w1 Z0 111) (by rw[<-jt.out];rfl) V hE.one;have aa:=U.size;rw[lU.out] at aa;have eV:ay [] w1 G:=((ay.refl _ _).alloc _).trans q3 (by intro x hx;rw[au] at hx;omega);have c1:G.cell? ⟨w1.heap.size,1,none⟩=some (.int .i64 n.K):=by rw[q2.cell];exact(gG v V).f1
  have tZ:=ar q1;by_cases h2:n.K=2
  ·obtain⟨w6,s1,s2,-,s5⟩:=ac.out G cg (.slice none 0 0) (U.trans' eV) rfl rfl
   have HF:=ar (ry.out w6 5 s5 (by rw[HV.out,aB ⟨rfl,by rw[<-CS.out];exact h2⟩]) (by omega));rw[jt.out] at s1 s2;obtain⟨Gx,Iy⟩:=hh2 s1 s2;rw[h2] at c1;clear hW q1 q2 q3 s1 s2 s5 U eV aa Gk ac fI jt lU HJ lY ou CS ry qZ HV hE hg h2 V;generalize aM n v=Zn at *;go_wp2_with(with_reducible first|refine gS 111 tZ.out ?_|refine gS 111 Gx.out ?_);exact aI (rf results105 rfl rfl Iy.out rfl) rfl HF.out
  ·obtain⟨w6,s1,s2,s3,s5⟩:=ac.out G.drew n v ((U.trans' eV).drew) V hE.one
   have uY:Hid (∀z,ay [w.heap.size+1] G z->(loadVar 111 w1.heap.size).run prog z= .ok (.agg (aM n v)) z):=λz hz=>b9 (q2.keep hz (by simp;omega)) V
   have EG:Hid (ay [w.heap.size+1] G w6):=((ay.refl [] G).drew.mono (by simp)).trans' s3;have PJ:Hid (ay [w.heap.size+1] G G.drew):=(ay.refl [] G).drew.mono (by simp);have ae:=qZ.out w6 x v g s5 (by rw[HV.out,aA (λh=>h2 (by rw[CS.out];exact h.2))]);rw[hn] at ae;obtain⟨HF,Gx,Iy⟩:=hh3 (ae ((hE.keep eV (by simp)).keep EG.out (λ_=>by rw[au];rw[lU.out] at hg;omega)) (by have :=fI.out.size;omega)) s1 s2;have b2:(n.K==2)=false:=by simpa using h2
   clear hW q1 q2 q3 s1 s2 s3 s5 U eV aa Gk ac fI jt lU HJ lY ou CS ry qZ HV hE hg h2 V ae hn;generalize aM n v=Zn,n.K=nk,(x:Int)=xi at *;go_wp2_with(first|(with_reducible refine gS 111 tZ.out ?_));refine kA (S:=λwx=>ay [w.heap.size+1] G wx) [0,1,2] [3,4,5] (l:=[_,_,_]) (tl:=[_,_,_]) (by kernel_rfl) (by kernel_rfl) (by kernel_rfl) (by kernel_rfl) rfl rfl rfl rfl rfl (λd _ _ _ _ h=>by cases d<;>exact h) (ay.refl _ _).drew ?_;simp only[iB,iM,iN];repeat (
    (first
    |(refine cT.cons (.agg Zn) (YieldsIf.load rfl 111 _ rfl _ rfl λz hz=>uY.out _ hz) ?_)
    |(refine cT.cons ?_ (YieldsIf.val rfl ?h) ?_;(case h=>(intro z hz;clear hz;go_simp;rfl))));simp only[Act.put,ag,ah,ai])
   refine cT.done ?_;unfold gH;go_wp2_with fail;refine⟨PJ.out,?_⟩;unfold gH;go_wp2_with(with_reducible refine gS 111 Gx.out ?_);refine⟨EG.out,?_⟩;unfold gH;go_wp2_with fail;refine⟨EG.out,?_⟩;unfold gH;go_wp2_with fail;exact aI (rf results105 rfl rfl Iy.out rfl) rfl HF.out
theorem ZV (h:o.K=5)(z:o.P=[]):(kF M o).2=cV 5:=by
 rw[Dl (.inl h)];unfold uz;rw[aB ⟨z,h⟩]
theorem OW (G:o.K=5\/o.K=6)(z:¬(o.P=[]/\o.K=5))(h:kJ M o.P≠0):(kF M o).2=cV (kJ M o.P):=by
 rw[Dl G];unfold uz kJ at *;rw[aA z];split
 ·rfl
 ·next h1=>
  rw[aA h1] at h;split
  ·rfl
  ·next h2=>rw[aA h2] at h;exact absurd rfl h
theorem Ca (G:o.K=5\/o.K=6)(h:¬(o.P=[]/\o.K=5))(z:kJ M o.P=0):kF M o=
  if o.K=5/\(M (bg (M (bq M o.P).1).E (aS o.P)).toNat).K=2 then (M,cV 5) else
  if o.K=6/\(M (bg (M (bq M o.P).1).E (aS o.P)).toNat).K≠2 then (M,cV 4) else
  if o.K=6/\(M (bg (M (bq M o.P).1).E (aS o.P)).toNat).E≠[] then (M,cV 6) else
  (Cg M (bq M o.P).1 (aS o.P),fy):=by
 obtain⟨U,J⟩:=qK z;rw[Dl G];unfold uz;rw[aA h,aA,aA]
theorem pZ (M:Nat->Nd)(d:Nat)(E:List (ByteArray×Int))(x:Nat):oN M d E x=if x=d then { M d with E:=E } else M x:=rfl
theorem yI (M:Nat->Nd)(i:Nat)(n:Nd)(x:Nat):nv M i n x=if x=i then n else M x:=rfl
theorem aeI{d j:Nat}(h:j≠d)(E:List (ByteArray×Int)):nv (oN M d E) j (Hv (oN M d E j))=ER M d j E:=by
 funext x
 unfold ER Hv;by_cases e:x=j
 ·subst e
  simp only[pZ,yI,if_true,aA h]
 ·simp only[pZ,yI,aA e,aA (cY h)]
section
variable {X:List Int} {T:List (bT×Value)} {own:Nat->List Nat} {M:Nat->Nd}
theorem L4 {d j:Nat}{nm:ByteArray}(U:(bg (M d).E nm).toNat=j)(h:j≠d){q1 q2:List (Int×Int)}{r:Int}(V:Goes X q1 [] (oN M d (ja (M d).E nm)) 100)(J:rY (az X q1) [] (oN M d (ja (M d).E nm)) j r q2):r=0/\z7 X (q1++q2) (Cg M d nm):=by
 obtain⟨G,z,-⟩:=J;rw[aeI h] at z;refine⟨G,?_⟩;unfold Cg;rw[U];exact(V.trans z).lands (by omega)
theorem V9 {o:jB}(V:o.K=8)(U:(cZ M o.P).2≠0):(kF M o).2=cV (cZ M o.P).2:=by
 rw[L3 V];have z:cZ M o.P=if (cM M o.P).2=0/\(M (cM M o.P).1).K=2 then (0,5) else cM M o.P:=rfl
 unfold Eg;by_cases G:(cM M o.P).2=0
 ·by_cases J:(M (cM M o.P).1).K=2
  ·rw[aB ⟨G,J⟩] at z
   rw[z,aA,aB J]
  ·rw[aA (λh=>J h.2)] at z
   rw[z] at U;exact absurd G U
 ·rw[aA (λh=>G h.1)] at z
  rw[z,aB G]
theorem RD {o:jB}(G:o.K=8)(z:(cZ M o.P).2=0)(h:qE M o.Q≠0):(kF M o).2=cV (qE M o.Q):=by
 obtain⟨U,J,-⟩:=pY z;rw[L3 G];unfold Eg qE at *;rw[aA,aA J];split
 ·rfl
 ·next h3=>
  rw[aA h3] at h;split
  ·rfl
  ·next h4=>
   rw[aA h4] at h;split
   ·rfl
   ·next h5=>rw[aA h5] at h;exact absurd rfl h
theorem Wa {o:jB}(G:o.K=8)(J:(cZ M o.P).2=0)(z:qE M o.Q=0):kF M o=
  if 24<=(M (bq M o.Q).1).E.length then (M,cV 7) else (S9 M (bq M o.Q).1 (cM M o.P).1 (xG (M (bq M o.Q).1).E (aS o.Q,((cM M o.P).1:Int))),fy):=by
 obtain⟨h1,U,-⟩:=pY J;obtain⟨h,W,V⟩:=zr z;rw[L3 G];unfold Eg;rw[aA,aA U,aA h,aA,aA]
theorem Wb (hT:dw M){o:jB}(hK:o.K=8)(hf:(cZ M o.P).2=0)(W:qE M o.Q=0){i:Nat}(hi:(cM M o.P).1=i){q1 q2:List (Int×Int)}{r:Int}(h1:Goes X q1 [] (nv M i { M i with L:=(M i).L+1 }) 100)(pq:(aZ (az X q1)).length=(aZ X).length)
  (J:tN (az X q1) [] (nv M i { M i with L:=(M i).L+1 }) (bq M o.Q).1 (aS o.Q) (i:Int) r q2):lu X M o { fy with E:=r } (q1++q2):=by
 have h:=Wa (M:=M) hK hf W;obtain⟨f1,f2,-⟩:=pY hf;obtain⟨g1,g2,g3⟩:=zr W;rw[hi] at f2 h;have G:(bq M o.Q).1≠i:=λe=>by
  have :=(pV (M:=M) g2).1;rw[e] at this;omega
 have hE:(nv M i { M i with L:=(M i).L+1 } (bq M o.Q).1).E=(M (bq M o.Q).1).E:=by rw[dI _ _ G]
 have U:Dk o.K=true:=by rw[hK];rfl
 unfold tN at J;rw[hE,Ia hT g3,vN] at J;rcases J with ⟨rfl,-,z⟩|⟨rfl,z,h4⟩
 ·by_cases V:24<=(M (bq M o.Q).1).E.length
  ·rw[aB V] at h
   exact .inr (.inl ⟨by show(7:Int)≠0;omega,by rw[h]⟩)
  ·rw[aA V] at h
   refine .inl ⟨rfl,U,.inl (by rw[h];rfl),.inl ?_⟩;rcases z with z|z<;>omega
 ·rw[aA] at h
  refine .inr (.inr ⟨rfl,by rw[h];rfl,.inl (by rw[h];rfl),?_⟩);rw[h];exact(h1.trans h4).lands (by omega)
theorem acm {o:jB}(z:o.K=7)(h:o.Q=[]):(kF M o).2=cV 1:=by
 rw[Dm z];unfold uB;rw[aB (.inr h)]
theorem ZX {o:jB}(J:o.K=7)(G:o.Q≠[])(z:kJ M o.P≠0):(kF M o).2=cV (kJ M o.P):=by
 rw[Dm J];unfold uB;by_cases h:o.P=[]
 ·rw[aB (.inl h)]
  have e:bq M o.P=(0,1):=by unfold bq;rw[aB (.inl h)]
  unfold kJ;rw[e,aB (by simp)]
 ·rw[aA (by simp[h,G])]
  unfold kJ at *;split
  ·rfl
  ·next h1=>
   rw[aA h1] at z;split
   ·rfl
   ·next h2=>rw[aA h2] at z;exact absurd rfl z
open Classical in
theorem vT {o:jB}(J:o.K=7)(U:o.Q≠[])(G:kJ M o.P=0):kF M o=
 if (bq M o.Q).2≠0 then (M,cV (bq M o.Q).2) else
 if bg (M (bq M o.Q).1).E (aS o.Q)=bg (M (bq M o.P).1).E (aS o.P) then (M,fy) else
 if kS M (bg (M (bq M o.P).1).E (aS o.P)).toNat (bq M o.Q).1 then (M,cV 11) else
 if 0<=bg (M (bq M o.Q).1).E (aS o.Q) then
  if uA M (bg (M (bq M o.P).1).E (aS o.P)).toNat (bg (M (bq M o.Q).1).E (aS o.Q)).toNat≠0 then
   (M,cV (uA M (bg (M (bq M o.P).1).E (aS o.P)).toNat (bg (M (bq M o.Q).1).E (aS o.Q)).toNat)) else
   (Oh (Cg M (bq M o.Q).1 (aS o.Q)) (bq M o.P).1 (bq M o.Q).1 (bg (M (bq M o.P).1).E (aS o.P)).toNat (aS o.P) (aS o.Q),fy)
 else
  if (bq M o.P).1≠(bq M o.Q).1/\24<=(M (bq M o.Q).1).E.length then (M,cV 7) else
   (Oh M (bq M o.P).1 (bq M o.Q).1 (bg (M (bq M o.P).1).E (aS o.P)).toNat (aS o.P) (aS o.Q),fy):=by
 obtain⟨h,V⟩:=qK G;have z:o.P≠[]:=λe=>by
  have :bq M o.P=(0,1):=by unfold bq;rw[aB (.inl e)]
  rw[this] at h;simp at h
 rw[Dm J];unfold uB;rw[aA (by simp[z,U]),aA,aA]
theorem Kv (E:List (ByteArray×Int))(a b:ByteArray):ja (ja E a) b=ja (ja E b) a:=by
 unfold ja;rw[List.filter_filter,List.filter_filter]
 congr 1
 funext p
 rw[Bool.and_comm]
theorem Wc {E:List (ByteArray×Int)}{nm:ByteArray}(h:∀p∈E,p.1≠nm):ja E nm=E:=List.filter_eq_self.2 λp z=>by simpa using h p z
theorem Tw (U:dw M){d:Nat}{nm:ByteArray}(J:bg (M d).E nm<0):∀p∈(M d).E,p.1≠nm:=λp G=>by
 obtain⟨A,B,h,-⟩:=BL U J;rw[h.eq] at G;rcases aT.1 G with z|z
 ·exact tD (h.ahead p z)
 ·exact λe=>tD (h.behind p (by simpa using z)) e.symm
theorem aeJ (G:dw M){d t i:Nat}{nm nm':ByteArray}(z:bg (M t).E nm'<0):
  oN (oN M d (ja (M d).E nm)) t (wZ (oN M d (ja (M d).E nm) t).E nm' (i:Int))=Oh M d t i nm nm':=by
 have J:ja (oN M d (ja (M d).E nm) t).E nm'=(oN M d (ja (M d).E nm) t).E:=Wc λp h=>by
  rw[pd] at h;split at h
  ·next e=>exact Tw G z p (by rw[e];exact pW h)
  ·exact Tw G z p h
 unfold wZ;rw[J];rfl
theorem acn {d t i j:Nat}{nm nm':ByteArray}(hj:(bg (M t).E nm').toNat=j)(h:j≠t)(z:j≠d):
  nv (oN (oN M d (ja (M d).E nm)) t (wZ (oN M d (ja (M d).E nm) t).E nm' (i:Int))) j (Hv (oN (oN M d (ja (M d).E nm)) t (wZ (oN M d (ja (M d).E nm) t).E nm' (i:Int)) j))=Oh (Cg M t nm') d t i nm nm':=by
 have W:∀(E:List (ByteArray×Int)),oN (oN M d (ja (M d).E nm)) t E j=M j:=λE=>by rw[pZ,aA h,pZ,aA z]
 have el:Hv (M j)=(if (M j).L=1 then wh else { M j with L:=(M j).L-1 }):=rfl
 funext x
 rw[W,yI,el];unfold Oh Kj Cg;rw[hj];unfold ER;generalize hN:(if (M j).L=1 then wh else { M j with L:=(M j).L-1 })=N;by_cases V:x=j
 ·subst V
  rw[aB rfl,pZ,aA h,pZ,aA z,pZ,aA h,yI,aB rfl]
 ·rw[aA V]
  unfold wZ;by_cases G:x=t
  ·subst G
   by_cases J:x=d
   ·subst J
    simp only[pZ,yI,if_true,aA (cY h)];rw[Kv]
   ·simp only[pZ,yI,if_true,aA (cY h),aA J,aA (cY J)]
  ·by_cases U:x=d
   ·subst U
    simp only[pZ,yI,if_true,aA G,aA (cY z)]
   ·simp only[pZ,yI,aA G,aA U,aA V]
end
theorem yJ:∀(l:List Nat) (X:List Int),cj X l=cj X (l.filter λc=>c != 0)
 | [],_=>rfl
 |c::l,X=>by
  have e:cj X (c::l)=eI X c false++cj (az X (eI X c false)) l:=rfl;rw[e,fD];by_cases h:c=0
  ·subst h
   have z:eI X 0 false=[]:=rfl;rw[z,aA (by simp),bQ];exact yJ l X
  ·rw[aB (by simpa using h),yJ l]
   rfl
theorem OX (hB:B.length=13)(c:Nat)(V:∀k,0<=B.getD k 0):ey B 13=ey B c++((B.drop c).map Int.toNat).filter λc=>c != 0:=by
 unfold ey;rw[aW (by omega:B.length<=13)];have e:B=B.take c++B.drop c:=(dn c B).symm
 conv=>lhs;rw[e]
 rw[eJ,eu]
 congr 1
 have J:∀l:List Int,(∀x∈l,0<=x)->(l.filter λx=>x != 0).map Int.toNat=(l.map Int.toNat).filter λc=>c != 0:=by
  intro l;induction l with
  |nil=>intro _;rfl
  |cons x l ih=>
   intro h;rw[List.map_cons,fD,fD];have W:=h x (by simp);by_cases z:x=0
   ·subst z
    rw[aA (by simp),aA (by simp)];exact ih λy G=>h y (by simp[G])
   ·rw[aB (by simpa using z),aB (by simp;omega),List.map_cons,ih λy G=>h y (by simp[G])]
 refine J _ λx z=> ?_
 obtain⟨k,U,rfl⟩:=bY (gA z);have :=V k;rwa[aj,aD U] at this
theorem RF (h:B.length=13){c:Nat}(z:c<=13):ey (jm B c) 13=ey B c:=by
 unfold ey;rw[aW (by rw[nR h z];omega)];unfold jm;rw[eJ];have :(List.replicate (13-c) (0:Int)).filter (λx=>x != 0)=[]:=by simp
 rw[this,br]
section
variable {X:List Int} {T:List (bT×Value)} {own:Nat->List Nat} {M:Nat->Nd}
def qF (n:bT) (c:Nat):bT:={ n with B:=jm n.B c }
def OY (c:List Int) (s:Nat):List Int:=c.take s++List.replicate (832-s) 0
theorem zu {c:List Int}(h:AO c){s:Nat}(J:s<=832):AO (OY c s):=by
 refine⟨by unfold OY;simp[h.1];omega,λx G=> ?_⟩;unfold OY at G;rcases aT.1 G with z|z
 ·exact h.2 x (bO z)
 ·rw[il z];omega
theorem aco {c:List Int}(h:c.length=832){s:Nat}(G:s<=832)(k:Nat):(OY c s).getD k 0=if k<s then c.getD k 0 else 0:=by
 unfold OY;rw[aj];by_cases z:k<s
 ·rw[ba (by simp;omega),bU,aB z,aB z,aj]
 ·rw[aR (by simp;omega),aA z,bj]
  split<;>rfl
theorem nM.cut(h:nM X T own [] M){i:Nat}(hK:(M i).K=1){s:Nat}(hs:(s:Int)<(nT T i).S){r:Int}{qs:List (Int×Int)}
  (hp:nV (az (az X (cj X (((nT T i).B.drop (bL s)).map Int.toNat))) (ft (qF (nT T i) (bL s)).B (OY (iT (az X (cj X (((nT T i).B.drop (bL s)).map Int.toNat))) (qF (nT T i) (bL s))) s) 13)) (i:Int) { qF (nT T i) (bL s) with S:=(s:Int) } r qs):
  r=0/\Goes X (cj X (((nT T i).B.drop (bL s)).map Int.toNat)++(ft (qF (nT T i) (bL s)).B (OY (iT (az X (cj X (((nT T i).B.drop (bL s)).map Int.toNat))) (qF (nT T i) (bL s))) s) 13++qs)) [] (nv M i { M i with D:=yC (M i).D s }) 300:=by
 obtain⟨ax,hk,hf,ht,hi,hd,hB⟩:=h.fileAt hK;have hS:=hf.1;have ae:=h.opened hi;have aa:∀Y l' (hY:xu Y T own i l' M),eH Y (i:Int) (nT T i) (own i):=λY l' hY=>by
  rcases hY.st.each hi with ⟨-,h1⟩|⟨-,h1,-⟩
  ·exact h1
  ·rw[h1] at hk;simp[cg] at hk
 generalize hn:nT T i=n at *;have GC:bL s<=13:=by unfold bL;omega
 have Tx:s<=832:=by omega
 have aK:∀k,0<=n.B.getD k 0:=λk=>by
  by_cases mn:k<13
  ·exact(mQ hf.2.2.2 mn).1
  ·rw[aj,aP (by omega)];decide
 have V:=OX hB (bL s) aK;have aH:=yJ ((n.B.drop (bL s)).map Int.toNat) X;generalize hl:((n.B.drop (bL s)).map Int.toNat).filter (λc=>c != 0)=l at *;have au:∀c∈dm n,c≠0/\c<256:=λc hc=>by
  have :=ae.st.exr c hc;exact this
 have W:dm n=ey n.B (bL s)++l:=V;obtain⟨g1,g2,g3,g4⟩:=ae.st.give (l:=l) (ex':=ey n.B (bL s)) (λb _=>by rw[W,fL];omega) (λc hc=>au c (by rw[W];exact bX _ hc)) (λc hc=>au c (by rw[W];exact bV _ hc));have Zu:=ae.step g1 g2 (by simp);rw[<-aH] at g1 g2 g3 g4 Zu;have aL:og X (az X (cj X ((n.B.drop (bL s)).map Int.toNat))) 4:=og.puts (L:=uE) (by simp[uE]) λp hp=>sI (tJ _ _ _ hp)
 generalize cj X ((n.B.drop (bL s)).map Int.toNat)=J at *;have Cb:=qo hB GC;have G:(jm n.B (bL s)).length=13:=nR hB GC;have U:lF (jm n.B (bL s)):=λk mn=>by
  rw[Cb];split
  ·next ar=>
   refine⟨mQ hf.2.2.2 mn,λav j hj=> ?_⟩;rw[Cb,aB];exact(hf.2.2.2 k mn).2 av j hj
  ·exact⟨by omega,λh=>absurd rfl h⟩
 have ai:dm (qF n (bL s))=ey n.B (bL s):=RF hB GC;have hR:cm { qF n (bL s) with S:=(s:Int) }:=by
  refine AQ ax.right hk rfl rfl rfl rfl G ⟨by show(0:Int)<=(s:Int);omega,by show(s:Int)<=832;omega⟩ (λk z=> ?_) U;show(jm n.B (bL s)).getD k 0=0;rw[Cb,aA ?_];have z:bL (s:Int).toNat<=k:=z;rw[aG] at z;omega
 have Zv:=g1.len;have aF:=g1.w64;have aJ:∀k,k<s->mo (az X J) (qF n (bL s)) k=mo X n k:=λk ag=>by
  have ar:k/64<bL s:=by unfold bL;omega
  unfold mo;show(if (jm n.B (bL s)).getD (k/64) 0=0 then _ else ((rJ ((az X J).getD (1080+8*((jm n.B (bL s)).getD (k/64) 0).toNat+k%64/8) 0).toNat (k%8):Nat):Int))=_;rw[Cb,aB ar];split
  ·rfl
  ·rw[g4 _ (.inr (by omega))]
 have af:=kP (az X J) (qF n (bL s));have ac:=zu af Tx;have ah:=aco af.1 Tx;have aI:∀k,k<s->(iT (az X J) (qF n (bL s))).getD k 0=mo X n k:=λk ag=>by rw[zj _ _ (by omega),aJ k ag]
 generalize iT (az X J) (qF n (bL s))=c0 at *;generalize OY c0 s=c at *;have zS:=OL (n:=qF n (bL s)) (c:=c) G U;obtain⟨Zw,Zx,JE⟩:=Zu.words hi (qs:=ft (qF n (bL s)).B c 13) (λp hp=>⟨(zS p hp).1,by rw[<-ai];exact(zS p hp).2⟩) (zi (n:=qF n (bL s)) aF ac);have UQ:=aa _ _ Zw;have Qk:=λk (z:k<832)=>Hy (X:=az X J) (n:={ qF n (bL s) with S:=(s:Int) }) Zv U ac z
 have aD:=Kq (X:=az X J) (n:={ qF n (bL s) with S:=(s:Int) }) Zv U ac (λk uR ak=>by
  have ak:(s:Int)<=(k:Int):=ak;rw[ah,aA])
 have aC:=OO (X:=az X J) (n:=qF n (bL s)) (c:=c) G U;have Zy:tK (az (az X J) (ft (qF n (bL s)).B c 13)) { qF n (bL s) with S:=(s:Int) }={ M i with D:=yC (M i).D s }:=by
  refine H5 (n:=n) (X:=X) (by rw[h.abs i,hn]) hk rfl rfl rfl ?_;rw[hd];have Cr:(qc (az (az X J) (ft (qF n (bL s)).B c 13)) { qF n (bL s) with S:=(s:Int) }).length=s:=by rw[nY];exact aG s
  apply Dh
  ·rw[Cr,yD]
  ·intro k z
   rw[Cr] at z;have ay:=sH (az (az X J) (ft (qF n (bL s)).B c 13)) { qF n (bL s) with S:=(s:Int) } (k:=k) (by show k<(s:Int).toNat;omega);rw[ay,OP _ _ z,sH X n (by omega)];have :=Qk k (by omega);refine Eq.trans this ?_;show(if (jm n.B (bL s)).getD (k/64) 0=0 then 0 else c.getD k 0)=_;have e1:(jm n.B (bL s)).getD (k/64) 0=n.B.getD (k/64) 0:=by rw[Cb,aB (by unfold bL;omega)]
   have e2:c.getD k 0=mo X n k:=by rw[ah,aB z,aI k z]
   rw[e1,e2];split
   ·next h0=>unfold mo;rw[aB h0]
   ·rfl
 have aM:dv { qF n (bL s) with S:=(s:Int) }<=dv n:=VR (c:=bL s) rfl rfl G Cb;rcases Zw.close hi G hR (by rw[hn];exact UQ) hp (λb _=>by rw[show dm { qF n (bL s) with S:=(s:Int) }=dm (qF n (bL s)) from rfl,ai]) aD with ⟨-,-,h3⟩|⟨h1,T',cW,k1,k2,k3⟩
 ·rw[hn] at h3;omega
 ·refine⟨h1,T',cW,?_,λk z=> ?_,?_⟩
  ·rw[bz,bz,<-Zy];exact k1
  ·rw[bz,bz,k2 k z,JE k (by omega),g4 k (.inl z)]
  ·rw[bz,bz]
   exact((aL.trans aC).trans k3).mono (by omega)
theorem Ic {o:jB}(V:o.K=2\/o.K=3\/o.K=4)(U:(cZ M o.P).2≠0):(kF M o).2=cV (cZ M o.P).2:=by
 rw[Fm V];have z:cZ M o.P=if (cM M o.P).2=0/\(M (cM M o.P).1).K=2 then (0,5) else cM M o.P:=rfl
 unfold BJ;by_cases G:(cM M o.P).2=0
 ·by_cases J:(M (cM M o.P).1).K=2
  ·rw[aB ⟨G,J⟩] at z
   rw[z,aA,aB J]
  ·rw[aA (λh=>J h.2)] at z
   rw[z] at U;exact absurd G U
 ·rw[aA (λh=>G h.1)] at z
  rw[z,aB G]
theorem tU {o:jB}(z:o.K=2)(G:(cZ M o.P).2=0):kF M o=
  if o.O<0 then (M,cV 1) else if 832<o.O\/(832:Int)-o.O<o.D.length then (M,cV 8) else if o.D=[] then (M,fy) else
   (nv M (cM M o.P).1 { M (cM M o.P).1 with D:=xt (M (cM M o.P).1).D o.O.toNat o.D },{ fy with N:=(o.D.length:Int) }):=by
 obtain⟨U,J,-⟩:=pY G;rw[Fm (.inl z)];unfold BJ;rw[aA,aA J,aA (c:=o.K=3) (by omega),aA (c:=o.K=4) (by omega)];by_cases h:o.O<0
 ·rw[aB h,aB (.inl ⟨by omega,h⟩)]
 ·rw[aA h,aA]
theorem Kw {o:jB}(z:o.K=3)(G:(cZ M o.P).2=0):kF M o=
  if o.O<0\/o.N<0 then (M,cV 1) else (M,{ fy with D:=((M (cM M o.P).1).D.drop o.O.toNat).take o.N.toNat }):=by
 obtain⟨U,J,-⟩:=pY G;rw[Fm (.inr (.inl z))];unfold BJ;rw[aA,aA J,aB (c:=o.K=3) z];by_cases h:o.O<0\/o.N<0
 ·rw[aB h,aB]
 ·rw[aA h,aA]
theorem Dp {o:jB}(z:o.K=4)(G:(cZ M o.P).2=0):kF M o=
  if o.N<0 then (M,cV 1) else if 832<o.N then (M,cV 8) else (nv M (cM M o.P).1 { M (cM M o.P).1 with D:=yC (M (cM M o.P).1).D o.N.toNat },fy):=by
 obtain⟨U,J,-⟩:=pY G;rw[Fm (.inr (.inr z))];unfold BJ;rw[aA,aA J,aA (c:=o.K=3) (by omega),aB (c:=o.K=4) z];by_cases h:o.N<0
 ·rw[aB h,aB]
 ·rw[aA h,aA]
theorem Ky {o:jB}(h:o.K=9\/o.K=10)(z:(cM M o.P).2≠0):(kF M o).2=cV (cM M o.P).2:=by
 rw[B0 h];show BK M o=_;unfold BK;rw[aB z]
end
section
variable {P:Program} {ops:Array Oper} {Q:Exit->Act->World->Prop} {md:Region.Mode} {S:World->Prop}
end
section
variable {P:Program} {ops:Array Oper} {Q:Exit->Act->World->Prop} {S:World->Prop}
theorem Jk {id:Nat}{a:Act}{w:World}{l l2:List Oper}{o:Oper}(hm:P.follows .mixedOrders=true)(qp:ops.toList=l++(o::l2))(ht:xk .any ops l.length l.length=true)(ac:xk .any ops ops.size ops.size=true)(hQ:∀d v c a w,Q (.panic c) (Act.put a d v) w->Q (.panic c) a w)(W:S w.drew)
  (J:Region.ready .any ops (eN ops.size l.length)=[l.length]) (aa:Region.ready .any ops (eN ops.size ops.size)=[])
  (h:aU P ops S (wpList P ops (abi (λ_=>True) (λU w'=>∃G:World->Prop,G w'/\aU P ops G (Q .normal) l2 U) Q) [o]) l a):(Code.region id ops true).wp P Q a w:=by
 have af:ops.size=l.length+(l2.length+1):=by rw[<-dL,qp];simp
 refine wp_region_any hm ?_;rw[<-mU];refine oK (S:=λ_=>S) (F:=ops.size) (L:=l.length) _ _ _ ?_ _ W;have z:∀k,ops[k]? =(l++(o::l2))[k]? :=λk=>by rw[<-qp,dG]
 refine JJ (m:=l.length) ht (aH _) (by omega) hQ (E:=λa=>∀w,S w->wpList P ops (abi (λ_=>True) (λU w'=>∃G:World->Prop,G w'/\aU P ops G (Q .normal) l2 U) Q) [o] a w) (λa h=> ?_) l 0 a (by simp) (by omega) (λk hk=>by rw[z,bc,ba hk]) (aU.toB _ _ h);have ho:ops[l.length]? =some o:=by rw[z,aR (aH _),jg];rfl
 rw[show ops.size-l.length=l2.length+1 by omega];refine⟨λh0=>(by rw[J] at h0;cases h0),λi hi V=> ?_,λ_ w W=> ?_⟩
 ·rw[J,au] at hi
  exact absurd hi V
 ·refine wpOp_mono (λU w' h'=> ?_) (Bn ho (h w W))
  obtain⟨-,G,ae,h2⟩:=h';rw[nS];refine oK (S:=λ_=>G) (F:=ops.size) (L:=ops.size) _ _ _ ?_ _ ae;have :=JJ (md:= .any) (m:=ops.size) ac (aH _) (aH _) hQ (E:=λa=>∀w,G w->Q .normal a w) (λa h=>by rw[jg];exact⟨aa,h⟩) l2 (l.length+1) U (by omega) (aH _) (λk hk=>by
   rw[z,aR (by omega),show l.length+1+k-l.length=k+1 by omega,dC]) (aU.toB _ _ h2)
  rwa[show ops.size-(l.length+1)=l2.length by omega] at this
end
def xb (n:Nat) (w:World) (r:mM) (Z:Array Value):Prop:=∃vd h,Z=zI r vd h/\(∃g,Reads w vd g (kT r.D)/\(r.D≠[]->n<=g))/\∃g,bD w h g r.S/\(r.S≠[]->n<=g)
theorem xb.at(h:xb n w r Z):Ji w r Z:=by
 obtain⟨vd,J,V,⟨g,G,-⟩,U,z,-⟩:=h;exact⟨vd,J,V,⟨g,G⟩,U,z⟩
theorem xb.mono{m:Nat}(h:xb n w r Z)(z:m<=n):xb m w r Z:=by
 obtain⟨vd,U,W,⟨g,J,a⟩,V,G,c⟩:=h;exact⟨vd,U,W,⟨g,J,λh=>cE z (a h)⟩,V,G,λh=>cE z (c h)⟩
theorem xb.keep(h:xb n w r Z)(J:ay l w w')(U:∀x∈l,x<n):xb n w' r Z:=by
 obtain⟨vd,ve,h1,⟨g,W,a⟩,g',h3,c⟩:=h;refine⟨vd,ve,h1,⟨g,?_,a⟩,g',h3.keep J (λz G=> ?_),c⟩
 ·by_cases V:r.D=[]
  ·obtain⟨ad,cap,e,b1,b2,-⟩:=W
   exact⟨ad,cap,e,b1,b2,λz=>absurd (by rw[V];rfl) z⟩
  ·exact W.keep J (λG=>by have :=U g G;have :=a V;omega)
 ·have :=U g' G
  have :=c (λe=>z (by rw[e];rfl));omega
def RsP (w:World) (r:mM) (Z:Array Value):Prop:=∀n,xb n w r Z
theorem RsP.plain(w:World){r:mM}(G:r.D=[])(z:r.S=[]):RsP w r (zI r (.slice none 0 0) (.slice none 0 0)):=λn=>⟨_,_,rfl,⟨0,by rw[G];exact tS w 0,λh=>absurd G h⟩,0,by rw[z];exact bD.nil w 0,λh=>absurd z h⟩
def fE (w:World) (b z:Nat) (B:List Int) (R:mM->List (Int×Int)->Prop) (e:Ending) (w':World):Prop:=
 ∃r Z qs h,e= .returned (.agg Z)/\xb w.heap.size w' r Z/\(h=z\/(w.heap.size<=h/\h<w'.heap.size))/\eK w' b h B qs/\ay [b,z] w w'/\qs.length<=100000/\R r qs
theorem yK{W z:World}{g T:Nat}{G:Array Value}(hb:bh W g G T)(hc:G.size=7)(hk:ay l W z)(hg:g∉l)(hD:r.D=[])(hS:r.S=[])(hZ:Z=zI r (.slice none 0 0) (.slice none 0 0)):
  ∃h,(storeVar 34 g (.agg Z)).run prog z= .ok () h/\(loadVar 34 g).run prog h= .ok (.agg Z) h/\RsP h r Z/\ay [g] z h:=by
 have hz:Ji z r Z:=by rw[hZ];exact Zz z hD hS
 have J:∀wz,RsP wz r Z:=λwz=>by rw[hZ];exact RsP.plain wz hD hS
 have U:=hb.keep hk hg;have h1:=hz.one;have V:=hz.size;obtain⟨zl⟩:=Z;simp only[bN] at V;obtain⟨h,s1,s2,s3⟩:=bH (P:= prog) (ty:= 34) (cs:=zl) (by rw[V];exact Fl) U (by rw[hc,V]) h1;exact⟨h,s1,zo s2 (J h 0).at,J h,s3⟩
theorem mH (w:World)(J h:Array Value):∃W,(w.alloc (.cells J 79)).alloc (.cells h 34)=W/\ay [] w W/\bh W w.heap.size J 79/\bh W (w.heap.size+1) h 34/\W.heap.size=w.heap.size+2:=
 ⟨_,rfl,((ay.refl _ _).alloc _).alloc _,(bh.new w _ _).alloc _,bh.new2 w _ _ _ _,by rw[aX,aX]⟩
section
variable {w w':World} {b gp gI:Nat} {B:List Int} {ps qs:List (Int×Int)} {T T':List (bT×Value)} {own cW:Nat->List Nat} {ex ex':List Nat} {M M':Nat->Nd}
theorem fE.none{R:mM->List (Int×Int)->Prop}{r:mM}{Z:Array Value}(h:rB w b gp B [] T own ex M)(z:ay [] w w')(J:RsP w' r Z)(G:R r []):fE w b gp B R (.returned Z) w':=
 ⟨r,Z,[],gp,rfl,J _,.inl rfl,h.sh.keep z (by simp) (by simp),z.mono (by simp),by simp,G⟩
theorem fE.noneAt{R:mM->List (Int×Int)->Prop}{r:mM}{Z:Array Value}(h:rB w b gp B [] T own ex M)(z:ay [] w w')(J:xb w.heap.size w' r Z)(G:R r []):fE w b gp B R (.returned Z) w':=
 ⟨r,Z,[],gp,rfl,J,.inl rfl,h.sh.keep z (by simp) (by simp),z.mono (by simp),by simp,G⟩
theorem fE.some{R:mM->List (Int×Int)->Prop}{r:mM}{Z:Array Value}{m:Nat}{Rq:Int->List (Int×Int)->Prop}{wa G wc:World}{x:Int}(aa:b<w.heap.size/\gp<w.heap.size)(z:ay [] w wa)(ac:w.heap.size+2<=wa.heap.size)(U:cO wa b gp B [] m Rq (.returned x) G)(hm:m<=100000)(h:ay [w.heap.size+1] G wc)(hr:RsP wc r Z)(W:∀qs,Rq x qs->R r qs):fE w b gp B R (.returned Z) wc:=by
 obtain⟨x',qs,gI,V,h1,h2,h3,h4,h5⟩:=U;cases V;have J:=h.size;refine⟨r,Z,qs,gI,rfl,hr _,by omega,h2.keep h (by rw[au];omega) (by rw[au];omega),((z.mono (by simp)).trans' h3).trans h (λy hy=>by rw[au] at hy;omega),by omega,W _ h5⟩
end
theorem Wd{G:Nat}(h:rB w b G B [] T own [] M){o:jB}{U vq vd:Value}(hK:¬(0<=o.K/\o.K<=12)):
  Calls prog 66 #[cA b o U vq vd] w (fE w b G B (lu B M o)):=by
 obtain⟨W,hW,cJ,jR,jP,z⟩:=mH w (cA b o U vq vd) (zI fy (.slice none 0 0) (.slice none 0 0));obtain⟨wy,s1,s2,s3,s4⟩:=yK jP rfl (ay.refl [] W) (by simp) (r:=cV 1) rfl rfl rfl;have HF:Hid (fE w b G B (lu B M o) (.returned (zI (cV 1) (.slice none 0 0) (.slice none 0 0))) wy):=fE.none h (cJ.trans s4 (by intro y hy;rw[au] at hy;omega)) s3 (.inr (.inl ⟨by show(1:Int)≠0;omega,by rw[ach hK];rfl⟩));obtain⟨V,HL⟩:=hh2 s1 s2;have Gj:=l6;clear h cJ jR jP z s1 s2 s3 s4;have e0:zI fy (.slice none 0 0) (.slice none 0 0)= #[.int .i64 0,.int .i64 0,.int .i64 0,.int .i64 0,.int .i64 0,.slice none 0 0,.slice none 0 0]:=rfl;have e1:zI (cV 1) (.slice none 0 0) (.slice none 0 0)= #[.int .i64 1,.int .i64 0,.int .i64 0,.int .i64 0,.int .i64 0,.slice none 0 0,.slice none 0 0]:=rfl;rw[e0] at hW Gj;rw[e1] at V HL HF;clear e0 e1;generalize cA b o U vq vd=J at *;go_in;go_wp2_with(with_reducible refine gS 34 V.out ?_);exact aI (bA results66 rfl HL.out) rfl HF.out
structure Ie (w:World) (o:jB) (vp vq vd:Value):Prop where
 p:∃g,gN w vp g o.P
 ps:∀s∈o.P,s.size<=9223372036854775807
 q:∃g,gN w vq g o.Q
 qs:∀s∈o.Q,s.size<=9223372036854775807
 d:∃g,Reads w vd g (kT o.D)
 ds:∀x∈o.D,0<=x/\x<256
theorem Ie.keep{G vq vd:Value}(h:Ie w o G vq vd)(z:ay [] w w'):Ie w' o G vq vd:=by
 obtain⟨⟨J,h1⟩,h2,⟨g3,V⟩,W,⟨g5,h5⟩,U⟩:=h;exact⟨⟨J,h1.keep z (by simp)⟩,h2,⟨g3,V.keep z (by simp)⟩,W,⟨g5,h5.keep z (by simp)⟩,U⟩
theorem fe{P:Program}{f:FuncId}{fn:Func}(G:P.funcs[f]? =some fn)(z:(fn.name == "runtime.NumGoroutine")=false)(h:fn.body.isNone=false)(args:Array Value)(w:World):(callFunc f args).run P w= .ok (.enter f args) w:=by
 have U:fn.name≠ "runtime.NumGoroutine" :=by simpa using z
 have J:fn.body≠none:=λe=>by rw[e] at h;cases h
 unfold callFunc;simp[go_sem,G,U,J]
def Fp (M:Nat->Nd) (o:jB):Prop:=∀(w:World) (b G:Nat) (B:List Int) (T:List (bT×Value)) (own:Nat->List Nat) (h vq vd:Value),rB w b G B [] T own [] M->dw M->Ie w o h vq vd->
 Calls prog 27 #[cA b o h vq vd] w λe w'=>∃fn,e= .returned (.func (.func fn) #[cA b o h vq vd] #[])/\ay [] w w'/\(∀J,(callFunc fn #[cA b o h vq vd]).run prog J= .ok (.enter fn #[cA b o h vq vd]) J)/\∀z,ay [] w z->Calls prog fn #[cA b o h vq vd] z (fE z b G B (lu B M o))
theorem Ig (h:fw w b gn gl gf s)(hp:∀k:Nat,k<s.now.length->s.refusal (k:Int)=0/\s.load (k:Int)=s.now.getD k 0):
  Calls prog 25 #[b] w (uD w s.now):=by
 obtain⟨H,G⟩:=hh2 h hp;have hm:=h.n9;have IA:=ar (PQ h);generalize ac:s.now=xs at *;obtain⟨m,z⟩:∃m,xs.length=m:=⟨_,rfl⟩;rw[z] at IA G hm;have af:=A0 m (by omega) (m:Int) rfl m (.inr rfl) w;have W:=Ho w m (by omega);rw[show List.replicate m (0:Int)=dS 0 xs 0 by rw[lJ,z]] at W;obtain⟨W,U⟩:=hh2 W z;generalize madeCells #[Value.int .u64 0] m=mc at *;clear h hp ac z;go_in;go_wp2_with(go_at_call 46;refine C' IA.out ?_);go_loopg [5,6,7,15] m (λgh s5 s6 s7 s15 wx=>∃k:Nat,k+gh=m/\s15= .int .i64 (k:Int)/\
  Hid (fp wx (.slice w.heap.size m m) w.heap.size 56 1 m (aY (dS 0 xs k))/\ay [] w wx))
 case atStart=>exact⟨0,by omega,rfl,W.out,(ay.refl _ _).alloc _⟩
 case round=>
  obtain⟨k,hk,rfl,J⟩:=hrel;cases gk with
  |zero=>
   obtain rfl:k=m:=by omega
   have ae:¬(k:Int)<(k:Int):=by omega
   have aa:Hid (uD w xs (.returned (.tuple #[.slice w.heap.size k k,(0:Int)])) wr):=by
    obtain⟨ho,fW⟩:=J.out;have e:dS 0 xs k=xs:=by
     have :=mz (0:Int) xs;rwa[U.out] at this
    rw[e] at ho;exact⟨_,_,rfl,ho.reads,aH _,fW⟩
   go_wp2_with fail;go_ret2;exact aa.out
  |succ gg=>
   have ae:(k:Int)<(m:Int):=by omega
   have hL:=KN (H.out.keep J.out.2 (by simp) (by simp)) (k:Int);rw[(G.out k (by omega)).1,(G.out k (by omega)).2] at hL;have HL:=ar hL;have hl:=lR (0:Int) xs k (by rw[U.out];omega);rw[U.out] at hl;obtain⟨-,-,hc,hf⟩:=J.out.1.cell (by omega);have d0:=(hc k (by omega)).trans (dO (l:=dS 0 xs k) (by omega));have f0:=hf k;have HE:=ar (lK (0:Int) xs k (by rw[U.out];omega) (xs.getD k 0) (by simp[show k<xs.length by rw[U.out];omega]));generalize (dS 0 xs k).getD k 0=o1 at *;have V:=J.out.1.set k (.int .u64 (xs.getD k 0));rw[mI] at V;obtain⟨V,jA⟩:=hh2 V J.out.2;generalize xs.getD k 0=x at *;clear hc hf hl J hL;go_wp2_with(go_at_call 52;refine C' HL.out ?_);go_roundg gg;case measure=>omega
   case rel=>
    refine⟨k+1,by omega,by go_num,?_,jA.out.setCell (.inr (aH _)) _⟩;rw[<-HE.out];exact V.out
def ZY (w:World) (f b:Nat):Prop:=bh w f #[b] 75
theorem RG{f:Nat}(V:ZY w f b)(h:fw w b gn gl gf s)(hn:s.now.length=3128)(hp:∀k:Nat,k<s.now.length->s.refusal (k:Int)=0/\s.load (k:Int)=s.now.getD k 0):
  Calls prog 16 #[f] w (yP w s.now):=by
 have c0:w.cell? f=some (.pointer (some ⟨b,0,none⟩)):=by rw[V.cell];rfl
 have HL:=ar (Ig h hp);have OZ:kU s.now=s.now:=by
  apply cU (by rw[iF,hn]);intro k J G;have :=uT s.now k;rw[aj,aD J,eZ] at this;rw[this,aB,aj,aD G];rfl
 have z:=ar OZ;clear V h hn hp OZ;go_in;go_wp2_with fail;refine HL.out.mono ?_;rintro e w1 ⟨v,g,rfl,hr,hg,hk⟩;obtain⟨W,HK⟩:=hh2 (Bb hr) hk;clear HL hr hg hk;go_wp2_with fail;refine W.out.mono ?_;rintro e w2 ⟨b2,rfl,J,G,U⟩;have HE:Hid (yP w s.now (.returned b2) w2):=by
  rw[z.out] at G;exact⟨b2,rfl,cE HK.out.size J,G,HK.out.trans' U⟩
 clear J G U W z;go_wp2_with fail;go_ret;exact HE.out
theorem O0 (X:List Int)(k:Nat)(hx:X.length=3128)(z:k<3128)(w:World):(Instr.index 116 (.agg (aY X).toArray) (.int .i64 (k:Int))).run prog w= .ok (.int .u64 (X.getD k 0)) w:=by
 have hu:=dA (P:= prog) underlying116;have U:=dA (P:= prog) underlying56;obtain⟨i0,hi,G,h,V⟩:=dc Tryz.info_u64;have W:(aY X)[k]? =some (.int .u64 (X.getD k 0)):=dO (by omega);have J:(0:Int)<=(k:Int):=by omega
 generalize X.getD k 0=x at *;simp[Instr.index,asIntOf,hu,J,z,sizeOf,typeInfo,hi,h,part,isAgg,U,W]
theorem O3{X:List Int}{us:List (Int×Int)}(h:kW w b gp B X us):
  Calls prog 29 #[b] w (kQ w (dg B X 3128)):=by
 obtain⟨i0,hi,ag,ah,ac⟩:=dc Tryz.info_pair;obtain⟨H,af⟩:=hh2 h h.lx;have ai:=h.lt;obtain⟨lb,lx,vp,h1,h2,h3⟩:=h;have HL:=ar (FJ h1 lb lx);clear lb lx h1 h2 h3 vp;have ae:=ar (λ(k:Nat) (hk:k<3128)=>O0 X k af.out hk);generalize (aY X).toArray=Y at *;go_in;go_wp2_with(with_reducible refine gL 116 HL.out ?_);clear HL;go_loopg [3,10] 3128 (λgh s3 Xt wx=>∃k:Nat,k+gh=3128/\Xt= .int .i64 (k:Int)/\
  Hid (wx.ownsRow w.heap.size 58 2 s3 (dg B X k).length (jd (dg B X k))/\ay [] w wx))
 case atStart=>exact⟨0,by omega,rfl,⟨rfl,.inl ⟨rfl,rfl⟩⟩,ay.refl _ _⟩
 case round=>
  obtain⟨k,hk,rfl,HR⟩:=hrel;cases gk with
  |zero=>
   obtain rfl:k=3128:=by omega
   have HM:Hid (kQ w (dg B X 3128) (.returned u3) wr):=by
    obtain⟨hr,V⟩:=HR.out;obtain⟨g',ho,hb⟩:=fp.of_row hr;by_cases e:(dg B X 3128).length=0
    ·exact kQ.mk (ho.anyG e w.heap.size) rfl (aH _) V
    ·exact kQ.mk ho rfl (hb e).1 V
   clear hk;go_wp2_with fail;go_ret;exact HM.out
  |succ gg=>
   have aa:k<3128:=by omega
   have au:(k:Int)<3128:=by omega
   have cJ:(0:Int)<=(k:Int):=by omega
   obtain⟨U,V⟩:=HR.out;have c0:=(H.out.keep V (by simp) (by simp)).cell0 (i:=k) aa;have Iv:=ae.out k aa;have ak:=PX B X k;have aj:=V.size;obtain⟨G,jA⟩:=hh2 U V;clear U V HR;by_cases W:X.getD k 0=B.getD k 0
   ·have HD:=ar (DD B X k W)
    have e1:(X.getD k 0 != B.getD k 0)=false:=by simpa using W
    clear W;generalize X.getD k 0=x,B.getD k 0=y at *;go_wp2_with fail;go_roundg gg;case measure=>omega
    case rel=>exact⟨k+1,by omega,by go_num,by rw[HD.out];exact G.out,jA.out⟩
   ·have HD:=ar (PW B X k W)
    have e1:(X.getD k 0 != B.getD k 0)=true:=by simpa using W
    clear W;generalize X.getD k 0=x,B.getD k 0=y at *;go_wp2_with(at_builtin;refine eU _ rfl _ _ 54 rfl w.heap.size 58 i0 (.agg #[(0:Int),.int .u64 0]) 2 16 underlying54 hi ag ah ac rfl (by decide) u3 (dg B X k).length _ rfl (G.out.alloc _) ⟨wr.heap.size,0,none⟩ 1 1 [.int .i64 (k:Int),.int .u64 x] rfl rfl ?c1 ?c2 (by unfold maxLen;omega) (by omega) (by simp;omega) ?_);case c1=>exact lI _ [_,_] _ _ rfl
    case c2=>simp[Value.oneCell']
    intro v' w1 J z _;obtain⟨MO,jK⟩:=hh2 J ((jA.out.alloc _).grown z (dP G.out));clear J z;go_wp2_with fail;go_roundg gg;case measure=>omega
    case rel=>
     refine⟨k+1,by omega,by go_num,?_,jK.out⟩;have :=MO.out;rw[HD.out,aC,uF];exact this
theorem RH{z:Nat}(h:eK w b z B ps):
  Calls prog 29 #[b] w (kQ w (dg B (az B ps) 3128)):=O3 h.raw
end Go.Proofs.YtepbpdipenedhaaGreatDoor
