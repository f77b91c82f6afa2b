/- Lemmas. -/
import Derived.Test.YtepbpdipenedhaaGreatDoorR30
set_option maxHeartbeats 1000000
set_option maxRecDepth 100000
namespace Go.Proofs.YtepbpdipenedhaaGreatDoor
open Go.RowKit
variable{w:World}{b:Nat}{B:List Int}{T:List (bP×Value)}{own:Nat->List Nat}{M:Nat->Nd}
theorem Vg{U:Nat}(h:wH w b U B [] T own [] M)(hT:eo M)(o:kM)(z vq vd:Value){d:Nat}{nm:ByteArray}{f:Int}(hf:cz (M d).E nm=f)(av:0<=f)(th:Bool):
  Calls Tryz.prog 112 #[.agg (dZ b o z vq vd),.agg (fU d nm th f)] w (cO w b U B [] 1400 (λr qs=>r=0/\Bi B qs (K2 M d nm))):=by
 obtain⟨W,hW,dt,oZ,uM,ar⟩:∃W,(w.alloc (.cells (dZ b o z vq vd) 79)).alloc (.cells (fU d nm th f) 165)=W/\az [] w W/\bh W w.heap.size (dZ b o z vq vd) 79/\bh W (w.heap.size+1) (fU d nm th f) 165/\W.heap.size=w.heap.size+2:=
  ⟨_,rfl,((az.refl _ _).alloc _).alloc _,(bh.new w _ _).alloc _,bh.new2 w _ _ _ _,by rw[br,br]⟩
 have aa:=h.lt;obtain⟨j,rfl⟩:∃j:Nat,f=(j:Int):=⟨f.toNat,by omega⟩;have Oe:=pK hT (d:=d) (nm:=nm) (by omega);rw[hf,aH] at Oe;have Zx:=hT.notSelf Oe.1;have af:=(hT.dir Oe.1).1;have ac:sA M d (lW (M d).E nm) j=M j:=by rw[Qj,aB (dK Zx)]
 have hL:=(Yr hT (h.nd.snd hT).few Oe.2.1).1;have ah:Hid (Calls Tryz.prog 153 #[.agg (dZ b o z vq vd),.agg (fU d nm th (j:Int))] W λe w1=>e= .returned (.int .i64 0)/\az [b,U] W w1/\
   Calls Tryz.prog 154 #[.agg (dZ b o z vq vd),.int .i64 (j:Int)] w1 λe w2=>e= .returned (.int .i64 0)/\cO w b U B [] 1400 (λr qs=>r=0/\Bi B qs (K2 M d nm)) (.returned (.int .i64 0)) w2):=by
  refine(Yo (h.keep0 dt) (by simp) o z vq vd af nm th (j:Int)).mono ?_;rintro e w1 ⟨r,q1,kX,rfl,h1,h2,h3,h4,rfl,ak,o9⟩;refine⟨rfl,h3,?_⟩;obtain⟨T1,aA,g1,-⟩:=id ak;have ax:=(h.keep0 dt).go h2 h3 h1 g1;refine(UO ax (by rw[bY];omega) o z vq vd (i:=j) (by rw[ac];exact Oe.2.1) (by rw[ac];exact hL)).mono ?_;rintro e w2 ⟨r,q2,pq,rfl,e1,e2,e3,e4,e5⟩;have aj:=e5;rw[bD] at aj;obtain⟨rfl,hl⟩:=KF (by rw[hf,aH]) (dK Zx) ak aj;have hs:=h3.size;have aC:=e3.size;refine⟨rfl,0,q1++q2,pq,rfl,by omega,by rw[<-ba];exact e2,((dt.mono (by simp)).trans' h3).trans e3 (λy hy=> ?_),by rw[aD];omega,rfl,hl⟩;simp only[aP,aM,bz] at hy ⊢;omega
 have sx:Hid (∀G,az [b,U] W G->(loadVar 79 ⟨w.heap.size,0,none⟩).run Tryz.prog G= .ok (.agg (dZ b o z vq vd)) G):=λG hk=>ny (oZ.keep hk (gZ aa (by omega)))
 have ag:=au (rA uM);have ae:Hid (∀G,az [b,U] W G->G.cell? ⟨w.heap.size+1,3,none⟩=some (.int .i64 (j:Int))):=λG hk=>by
  rw[(uM.keep hk (gZ aa (by omega))).cell];rfl
 have tq:=au (sx.out W (az.refl _ _));clear h hT dt oZ uM ar aa Oe Zx af ac hL hf av;generalize cO w b U B [] 1400 (λr qs=>r=0/\Bi B qs (K2 M d nm))=Q at *;generalize dZ b o z vq vd=J at *;generalize fU d nm th (j:Int)=Zs at *;generalize (j:Int)=ji at *;go_enter Tryz.func112,Tryz.ntmps112;go_wp2_with(first|(with_reducible refine gL 79 tq.out ?_)|(with_reducible refine gL 165 ag.out ?_));refine ah.out.mono ?_;rintro e w1 ⟨rfl,V,ai⟩;have HU:=au ai;have ay:=au (sx.out w1 V);have c1:=ae.out w1 V;clear V ai sx ae ah tq ag hW;go_wp2_with(with_reducible refine gL 79 ay.out ?_);refine HU.out.mono ?_;rintro e w2 ⟨rfl,hq⟩;have HF:=au hq;clear hq HU;go_wp2_with fail
 first|exact HF.out|(go_ret;exact HF.out)
structure ad8 (w:World) (b gp:Nat) (B:List Int) (M:Nat->Nd) (o:kM) (J:Array Value) (W:World):Prop where
 err:∀r,r≠0->(oV M o).2=fy r->∀w1,az [] W w1->∃wy,(storeVar 34 ⟨w.heap.size+1,0,none⟩ (.agg #[.int .i64 r,.int .i64 0,.int .i64 0,.int .i64 0,.int .i64 0,.slice none 0 0,.slice none 0 0])).run Tryz.prog w1= .ok () wy/\(loadVar 34 ⟨w.heap.size+1,0,none⟩).run Tryz.prog wy= .ok (.agg #[.int .i64 r,.int .i64 0,.int .i64 0,.int .i64 0,.int .i64 0,.slice none 0 0,.slice none 0 0]) wy/\jA w b gp B (pQ B M o) (.returned (.agg #[.int .i64 r,.int .i64 0,.int .i64 0,.int .i64 0,.int .i64 0,.slice none 0 0,.slice none 0 0])) wy
 run:oV M o=(K2 M (dJ M o.P).1 (cL o.P),jf)->adQ M o.P=0->∀w1,az [] W w1->Calls Tryz.prog 112 #[.agg J,.agg (fU (dJ M o.P).1 (cL o.P) true (cz (M (dJ M o.P).1).E (cL o.P)))] w1 λe w2=>∃wy,e= .returned (.int .i64 0)/\
  (storeVar 34 ⟨w.heap.size+1,0,none⟩ (.agg #[.int .i64 0,.int .i64 0,.int .i64 0,.int .i64 0,.int .i64 0,.slice none 0 0,.slice none 0 0])).run Tryz.prog w2= .ok () wy/\(loadVar 34 ⟨w.heap.size+1,0,none⟩).run Tryz.prog wy= .ok (.agg #[.int .i64 0,.int .i64 0,.int .i64 0,.int .i64 0,.int .i64 0,.slice none 0 0,.slice none 0 0]) wy/\jA w b gp B (pQ B M o) (.returned (.agg #[.int .i64 0,.int .i64 0,.int .i64 0,.int .i64 0,.int .i64 0,.slice none 0 0,.slice none 0 0])) wy
 load:∀wx,az [] W wx->(loadVar 79 ⟨w.heap.size,0,none⟩).run Tryz.prog wx= .ok (.agg J) wx
theorem RY{W:World}{V:Nat}(h:wH w b V B [] T own [] M)(hT:eo M){o:kM}{vp vq vd:Value}{G:Array Value}(dt:az [] w W)(oZ:bh W w.heap.size (dZ b o vp vq vd) 79)(mq:bh W (w.heap.size+1) G 34)(hc:G.size=7)(ac:W.heap.size=w.heap.size+2):ad8 w b V B M o (dZ b o vp vq vd) W:=by
 have U:=h.lt;refine⟨λr aa J w1 z=> ?_,λJ hn w1 z=> ?_,λwx z=>ny (oZ.keep z (by simp))⟩
 ·obtain⟨wy,s1,s2,s3,s4⟩:=nz mq hc z (by simp) r
  exact⟨wy,s1,s2,jA.none h ((dt.trans' z).trans s4 (by intro y hy;rw[ay] at hy;omega)) s3 (.inr (.inl ⟨aa,J⟩))⟩
 ·obtain⟨n1,n2⟩:=abH hn
  refine(Vg (h.keep0 (dt.trans' z)) hT o vp vq vd rfl n2 true).mono ?_;rintro e w2 ⟨r,qs,kX,rfl,h1,h2,h3,h4,rfl,h5⟩;have ou:az [b,V] W w2:=(z.mono (by simp)).trans' h3;obtain⟨wy,s1,s2,s3,s4⟩:=CD (r:=jf) mq hc ou (gZ U (by omega)) rfl rfl rfl;have hs:=z.size;refine⟨wy,rfl,s1,s2,jA.some U dt (by omega) (Rq:=λr qs=>pQ B M o jf qs) (m:=1400) ⟨0,qs,kX,rfl,by omega,h2,ou,h4,.inr (.inr ⟨rfl,by rw[J];rfl,.inl (by rw[J]),?_⟩)⟩ (by omega) s4 s3 λqs hq=>hq⟩;rw[J];exact h5
end Go.Proofs.YtepbpdipenedhaaGreatDoor
namespace Go.Proofs.YtepbpdipenedhaaGreatDoor
open Go.RowKit
open Go.RowKit
variable{w:World}{b:Nat}{B:List Int}{T:List (bP×Value)}{own:Nat->List Nat}{M:Nat->Nd}
end Go.Proofs.YtepbpdipenedhaaGreatDoor
namespace Go.Proofs.YtepbpdipenedhaaGreatDoor
open Go.RowKit
variable{w:World}{b:Nat}{B:List Int}{T:List (bP×Value)}{own:Nat->List Nat}{M:Nat->Nd}
section
variable {M:Nat->Nd} {o:kM}
end
end Go.Proofs.YtepbpdipenedhaaGreatDoor
