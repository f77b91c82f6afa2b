/- Lemmas. -/
import Derived.Test.YtimcfdnbpkiniaaGreatDoorM30
import Derived.Test.YtimcfdnbpkiniaaGreatDoorM27
set_option maxHeartbeats 2000000
set_option maxRecDepth 100000
namespace Go.Proofs.YtimcfdnbpkiniaaGreatDoor
open Go.Proofs.Tryz
open Go.RowKit
variable{w:World}{b f g gf gl gn gp t:Nat}{B X:List Int}{T:List (bS×Value)}{own:Nat->List Nat}{M:Nat->Nd}{v:Value}{n:bS}
theorem Pm (h:rz w b gp B [] T own [] M)(hT:dB M){o:iP}{vp vq vd:Value}{g:Nat}(hP:fU w vp g o.P)(hs:∀s∈o.P,s.size<=9223372036854775807)(hK:o.K=4):
  Calls prog 68 #[cC b o vp vq vd] w (fH w b gp B (kY B M o)):=by
 obtain⟨W,hW,cM,jK,jI,ac⟩:=mq w (cC b o vp vq vd) (tU fh (.slice none 0 0) (.slice none 0 0));obtain⟨qN,nU⟩:=hh2 (zi (vq:=vq) (vd:=vd) (h.keep0 cM) hT (hP.keep cM) hs) (wU h hT cM jK jI rfl ac);have av:=h.lt;obtain⟨lJ,AH⟩:=hh2 ac av;have pX:Hid (∀wx,ay [b,gp] W wx->wx.cell? w.heap.size=some (.pointer (some ⟨b,0,none⟩))/\wx.cell? ⟨w.heap.size,5,none⟩=some (.int .i64 o.N)):=λwx hk=>by
  have h1:=jK.keep hk (eF av (by omega));exact⟨by rw[h1.cell];rfl,by rw[h1.cell];rfl⟩
 have lN:Hid (∀wx,ay [b,gp] W wx->(loadVar 91 w.heap.size).run prog wx= .ok (.agg (cC b o vp vq vd)) wx):=λwx hk=>jC (jK.keep hk (eF av (by omega)))
 have tP:Hid ((dc M o.P).2≠0->(iJ M o).2=cW (dc M o.P).2):=Hr (.inr (.inr hK));have ry:Hid ((dc M o.P).2=0->o.N<0->(iJ M o).2=cW 1):=λhe hn=>by rw[Dh hK he,aB hn]
 have xf:Hid ((dc M o.P).2=0->¬o.N<0->832<o.N->(iJ M o).2=cW 8):=λhe hn aM=>by rw[Dh hK he,aA hn,aB aM]
 have nP:Hid ((dc M o.P).2=0->(nT T (dc M o.P).1).B.length=13/\(nT T (dc M o.P).1).E=[]):=λhe=>by
  obtain⟨f1,f2,f3,f4,-⟩:=mN h hT he;exact⟨f2,f4⟩
 have ai:Hid ((dc M o.P).2=0->∀s:Nat,o.N=(s:Int)->s<=832->(nT T (dc M o.P).1).S<=(s:Int)->∀w4,ay [] W w4->∀v g,bD w4 v g (nT T (dc M o.P).1).E->
   Calls prog 48 #[b,((dc M o.P).1:Int),.agg (aL { nT T (dc M o.P).1 with S:=(s:Int) } v)] w4 (yD w b gp B (kY B M o))):=λhe s hN Py aC w4 hk v g hr=>size_grow h hT hK cM jI rfl ac he hN Py aC hk hr
 have aj:Hid ((dc M o.P).2=0->∀s:Nat,o.N=(s:Int)->s<=832->(s:Int)<(nT T (dc M o.P).1).S->∀z,ay [] W z->∀v:Value,v.oneCell'=true->
   Calls prog 120 #[cC b o vp vq vd,aL (nT T (dc M o.P).1) v,(s:Int)] z λe w3=>∃m:bS,e=aL m v/\m.B.length=13/\ay [b,gp] z w3/\∀y w4,W.heap.size<=y->y<z.heap.size->ay [y] w3 w4->bD w4 v 0 []->
   Calls prog 48 #[b,((dc M o.P).1:Int),.agg (aL { m with S:=(s:Int) } v)] w4 (yD w b gp B (kY B M o))):=λhe s hN Py aC z hk v hv=>aaM h hT hK vp vq vd cM jI rfl ac he hN Py aC hk hv
 have EU:=lD;have rq:=dC;have jO:=ar nU.out.err;clear h hT hP hs cM jK jI ac hK av nU;unfold AE at qN;unfold yD at ai aj;rw[lF] at *;generalize fH w b gp B (kY B M o)=Q,cC b o vp vq vd=J,iJ M o=DM,o.N=N,aF:aL bY (.slice none 0 0)=Z0 at *;have jt:=ar aF;clear aF;generalize dc M o.P=F at *;obtain⟨x,ee⟩:=F
 dsimp only at *
 have jl:=ar (lN.out W (ay.refl _ _));go_in;go_wp2_with(with_reducible refine gL 91 jl.out ?_);refine qN.out.mono ?_;rintro e U ⟨G,⟨he,rfl⟩|⟨rfl,v,g,rfl,hE,hg⟩⟩
 ·obtain⟨z,q1,q2,q3⟩:=cr (n:=bY) (v:= .slice none 0 0) (bc.new U Z0 75) (by rw[<-jt.out];rfl) rfl rfl
  have eP:ay [] U z:=((ay.refl _ _).alloc _).trans q3 (by intro x hx;rw[au] at hx;omega);obtain⟨wy,s1,s2,s3⟩:=jO.out ee he (tP.out he) z (G.trans' eP);obtain⟨-,c2⟩:=pX.out z ((G.trans' eP).mono);rw[jt.out] at q1;obtain⟨jh,HS,HL,HF⟩:=hh4 q1 s1 s2 s3;have b1:(ee != 0)=true:=by simpa using he
  clear hW q1 q2 q3 G eP s1 s2 s3 he jO tP ry xf nP ai aj qN pX lN jl lJ AH jt;go_wp2_with(with_reducible first|refine gS 75 jh.out ?_|refine gS 38 HS.out ?_);exact aH (bu results68 rfl HL.out) rfl HF.out
 ·obtain⟨aa,V⟩:=nP.out rfl
  obtain⟨Eo,PF,ae,af⟩:=hh4 (ry.out rfl) (xf.out rfl) (ai.out rfl) (aj.out rfl);clear tP ry xf ai aj nP;generalize nT T x=n,(x:Int)=xi at *;obtain⟨z,q1,q2,q3⟩:=cr (n:=n) (v:=v) (bc.new U Z0 75) (by rw[<-jt.out];rfl) aa hE.one;have eP:ay [] U z:=((ay.refl _ _).alloc _).trans q3 (by intro x hx;rw[au] at hx;omega);have jY:=G.trans' eP;have aK:w.heap.size+2<=U.heap.size:=by have :=G.size;have :=lJ.out;omega
  have aD:U.heap.size<z.heap.size:=by have :=q3.size;rw[aU] at this;omega
  obtain⟨jh,vL⟩:=hh2 q1 (lN.out z (jY.mono));obtain⟨c1,c2⟩:=pX.out z (jY.mono);by_cases aN:N<0
  ·obtain⟨wy,s1,s2,s3⟩:=jO.out 1 (by omega) (Eo.out aN) z jY
   obtain⟨HS,HL,HF⟩:=hh3 s1 s2 s3;clear hW q1 q2 q3 G eP jY s1 s2 s3 jO Eo PF ae af qN pX lN jl lJ AH jt aK aD hE hg V aa vL;generalize aL n v=Zn at *;go_wp2_with(with_reducible first|refine gS 75 jh.out ?_|refine gS 38 HS.out ?_);exact aH (bu results68 rfl HL.out) rfl HF.out
  ·by_cases aO:832<N
   ·obtain⟨wy,s1,s2,s3⟩:=jO.out 8 (by omega) (PF.out (by omega) (by omega)) z jY
    obtain⟨HS,HL,HF⟩:=hh3 s1 s2 s3;clear hW q1 q2 q3 G eP jY s1 s2 s3 jO Eo PF ae af qN pX lN jl lJ AH jt aK aD hE hg V aa vL;generalize aL n v=Zn at *;go_wp2_with(with_reducible first|refine gS 75 jh.out ?_|refine gS 38 HS.out ?_);exact aH (bu results68 rfl HL.out) rfl HF.out
   ·obtain⟨s,rfl⟩:=cz (show 0<=N by omega)
    have Py:s<=832:=by omega
    have d3:z.cell? ⟨U.heap.size,3,none⟩=some (.int .i64 n.S):=by rw[q2.cell];exact(fT v aa).f3
    by_cases hcut:(s:Int)<n.S
    ·have Mc:=ar (af.out s rfl Py hcut z jY v hE.one)
     obtain⟨aI,oD⟩:=hh2 (bZ q2 aa) q2;have aG:Hid (bD z v 0 []):=by
      have :=(hE.keep eP).anyG (by rw[V];rfl) 0;rw[V] at this;exact this
     obtain⟨mK,SC,aJ⟩:=hh3 jY hE.one G.size;clear hW q1 q2 q3 G eP jY jO Eo PF ae af qN jl jt hE hg V;generalize Xb:aL n v=Zn at *;have W4:=ar Xb;clear Xb;go_wp2_with(with_reducible first|refine gS 75 jh.out ?_|refine gL 91 vL.out ?_|refine gL 75 aI.out ?_);refine Mc.out.mono ?_;rintro e w3 ⟨m,rfl,hm,ak,ax⟩;have hl:=AH.out;obtain⟨w5,q1,q2,q3⟩:=cr (n:=m) (v:=v) (oD.out.keep ak (eF hl (by omega))) (by rw[<-W4.out];exact zg aa) hm SC.out;have d1:w5.cell? ⟨U.heap.size,3,none⟩=some (.int .i64 m.S):=by rw[q2.cell];exact(fT v hm).f3
     have tX:=H4 q2 (s:Int);have oZ:=q2.frozen 3;have Dq:ay [U.heap.size] w3 (w5.setCell ⟨U.heap.size,3,none⟩ (.int .i64 (s:Int))):=q3.setCell (.inl (by simp)) _;have ag:bD (w5.setCell ⟨U.heap.size,3,none⟩ (.int .i64 (s:Int))) v 0 []:=(aG.out.keep ak (λh0=>absurd rfl h0)).keep Dq (λh0=>absurd rfl h0);have ah:=ar (ax U.heap.size _ aJ.out aD Dq ag);have zz:ay [b,gp] W (w5.setCell ⟨U.heap.size,3,none⟩ (.int .i64 (s:Int))):=((mK.out.mono).trans' ak).trans Dq (λy hy=>by rw[au] at hy;have :=aJ.out;omega);obtain⟨d0,-⟩:=pX.out _ zz;obtain⟨rp,Ig⟩:=hh2 q1 (bZ tX (by exact hm));clear q1 q2 q3 tX Dq zz ag ax ak hl oD aG mK aI vL Mc pX lN W4 jh;generalize aL { m with S:=(s:Int) } v=Z6,aL m v=Zm at *;go_wp2_with(with_reducible first|refine gS 75 rp.out ?_|refine gL 75 Ig.out ?_);refine ah.out.mono ?_;rintro e w7 ⟨r,wy,rfl,s1,s2,s3⟩;obtain⟨HS,HL,HF⟩:=hh3 s1 s2 s3;clear s1 s2 s3 ah;go_wp2_with(with_reducible refine gS 38 HS.out ?_);exact aH (bu results68 rfl HL.out) rfl HF.out
    ·have tX:=H4 q2 (s:Int)
     have oZ:=q2.frozen 3;have az:ay [U.heap.size] z (z.setCell ⟨U.heap.size,3,none⟩ (.int .i64 (s:Int))):=(ay.refl _ _).setCell (.inl (by simp)) _;have zz:ay [] W (z.setCell ⟨U.heap.size,3,none⟩ (.int .i64 (s:Int))):=jY.trans az (λy hy=>by rw[au] at hy;have :=G.size;omega);have ag:bD (z.setCell ⟨U.heap.size,3,none⟩ (.int .i64 (s:Int))) v g n.E:=(hE.keep eP).keep az (λh0=>absurd (by rw[V];rfl) h0);have ah:=ar (ae.out s rfl Py (by omega) _ zz v g ag);obtain⟨d0,-⟩:=pX.out _ (zz.mono);have Ig:=ar (bZ tX (by exact aa));clear hW q1 q2 q3 G eP jY tX az zz ag jO Eo PF ae af qN jl jt hE hg V pX lN vL;generalize aL { n with S:=(s:Int) } v=Z6,aL n v=Zn at *;go_wp2_with(with_reducible first|refine gS 75 jh.out ?_|refine gL 75 Ig.out ?_);refine ah.out.mono ?_;rintro e w7 ⟨r,wy,rfl,s1,s2,s3⟩;obtain⟨HS,HL,HF⟩:=hh3 s1 s2 s3;clear s1 s2 s3 ah;go_wp2_with(with_reducible refine gS 38 HS.out ?_);exact aH (bu results68 rfl HL.out) rfl HF.out
def TB (w:World) (xs:List Int) (e:Ending) (w':World):Prop:=
 ∃v g,e=(v:Value)/\fw w' v g 5 1 xs.length (ky xs)/\(xs.length≠0->w.heap.size<=g/\g<w'.heap.size)/\ay [] w w'
theorem WC{xs:List Int}(h:Reads w v g (ky xs))(hn:xs.length<=10000):
  Calls prog 119 #[v] w (TB w xs):=by
 obtain⟨a,cap,rfl,h1,h2,h3⟩:=h;have e1:=λ(wz:World) (a:Option Addr) (n c:Nat)=>Lib.run_eql_slice_nil (P:= prog) wz 29 5 a n c 0 0 underlying29
 cases a with
 |none=>
  have hz:xs=[]:=by
   by_cases hx:ky xs=[]
   ·cases xs<;>simp_all[ky]
   ·obtain⟨-,off,V,-⟩:=h3 hx;cases V
  subst hz;clear h3;go_in;go_wp2;go_ret;exact⟨_,0,rfl,fw.nil _ _ _ _,λh=>absurd rfl h,ay.refl _ _⟩
 |some ad=>
  obtain⟨i0,hi,ah,ac,ae⟩:=df acZ;have J:∀j u,(ky xs)[j]? =some u->(w.alloc (.cells #[] 5)).cell? (ad.add j)=some u:=by
   intro j u hu;have hj:j<(ky xs).length:=(List.getElem?_eq_some_iff.1 hu).1;obtain⟨hg,off,V,hc⟩:=h3 (by intro e;rw[e] at hj;simp at hj);cases V;have W:(⟨g,off,none⟩:Addr).add j=⟨g,off+j,none⟩:=by unfold Addr.add;split<;>simp_all
   rw[W,aO (w:=w) (jF _ _ _ hg),hc j hj,hu]
  have U:(w.alloc (.cells #[] 5)).ownsRow w.heap.size 5 1 (.slice w.heap.size 0 0) 0 []:=World.ownsRow_made w #[] 0 (aI _) (by simp[maxLen]) (by simp);obtain⟨HC,HO⟩:=hh2 J U;clear J U h3;rw[fq] at h1 ⊢;go_in;go_wp2_with(at_builtin;refine eO _ rfl _ _ 29 rfl w.heap.size 5 i0 (.int .u8 0) 1 1 underlying29 hi ah ac ae rfl (by decide) (.slice w.heap.size 0 0) _ _ rfl HO.out ad xs.length cap (ky xs) rfl (by rw[fq];omega) HC.out (wV xs) (by unfold maxLen;omega) (by omega) (by simp) ?_;intro v' w1 z G _);obtain⟨g',V,aa⟩:=fw.of_row z;have H:TB w xs (.returned v') w1:=by
   refine⟨v',g',rfl,by simpa using V,λag=> ?_,?_⟩
   ·have :=aa (by omega)
    exact⟨this.1,((by simpa using V:fw w1 v' g' 5 1 xs.length (ky xs)).cell ag).1⟩
   ·have hk:=ay.of_grown (l:=[]) (((World.grownBy_alloc w (.cells #[] 5) none))) (by simp)
    have af:ay [w.heap.size] (w.alloc (.cells #[] 5)) w1:=ay.of_grown G (by intro k hk;simp[Value.ownBlock] at hk;subst hk;simp);exact hk.trans af
  have HH:=ar H;clear z G V aa H;go_wp2;go_ret;exact HH.out
theorem aaO{W U:World}{T n gd:Nat}{V:Array Value}{z:List Int}(hb:bc W g V T)(hc:V.size=7)(hk:ay [] W U)(hr:Reads U v gd (ky z))(aa:z≠[]->n<=gd/\gd≠g):
  ∃G,(storeVar 38 g (.agg (tU { fh with D:=z } v (.slice none 0 0)))).run prog U= .ok () G/\(loadVar 38 g).run prog G= .ok (.agg (tU { fh with D:=z } v (.slice none 0 0))) G/\tO n G { fh with D:=z } (tU { fh with D:=z } v (.slice none 0 0))/\ay [g] U G:=by
 have J:∀wz,ay [g] U wz->tO n wz { fh with D:=z } (tU { fh with D:=z } v (.slice none 0 0)):=λwz ac=>by
  refine⟨_,_,rfl,⟨gd,?_,λh=>(aa h).1⟩,0,bD.nil _ 0,λh=>absurd rfl h⟩;by_cases hD:z=[]
  ·subst hD
   obtain⟨ad,cap,e,b1,b2,-⟩:=hr;exact⟨ad,cap,e,b1,b2,λh0=>absurd rfl h0⟩
  ·exact hr.keep ac (by rw[au];exact(aa hD).2)
 have hz:=(J U (ay.refl _ _)).at;have h1:=hz.one;have h2:=hz.size;have ae:=hb.keep hk;generalize af:tU { fh with D:=z } v (.slice none 0 0)=Z at *;obtain⟨zl⟩:=Z;simp only[bP] at h2;obtain⟨G,s1,s2,s3⟩:=bE (P:= prog) (ty:= 38) (cs:=zl) (by rw[h2];exact Ff) ae (by rw[hc,h2]) h1;exact⟨G,s1,wQ s2 (J G s3).at,J G s3,s3⟩
theorem WG{a:Nat}{O N:Int}(h0:0<=O)(J:0<=N)(G:0<=n.S)(U:n.S<=832)(V:min O n.S=(a:Int))(W:(a:Int)+min N (n.S-(a:Int))=(t:Int)):
  ((iL X n).drop a).take (t-a)=((pW X n).drop O.toNat).take N.toNat:=by
 have e:pW X n=(iL X n).take n.S.toNat:=by
  unfold pW iL;rw[<-j0,List.take_range,cZ (by omega)]
 rw[e,List.drop_take,List.take_take];by_cases z:O<=n.S
 ·have h:a=O.toNat:=by omega
  rw[h]
  congr 1
  omega
 ·rw[show t-a=0 by omega,show min N.toNat (n.S.toNat-O.toNat)=0 by omega,eW,eW]
theorem Pn (b f t:Nat)(U:f<=t)(W:t<=832)(w:World):∃off,(Instr.sliceAt 166 (.pointer (some ⟨b,0,none⟩)) (some (.int .i64 (f:Int))) (some (.int .i64 (t:Int))) none).run prog w= .ok (.slice (some ⟨b,off,none⟩) (t-f) (832-f)) w/\(f<t->off=f):=by
 have J:∀w,(sizeOf (prog.elem 166)).run prog w= .ok 1 w:=λw=>by show Sem.run _ _ _=_;kernel_rfl
 have G: prog.arrayLen 166 =832:=by kernel_rfl
 have z:=run_sliceAt_array_lh (P:= prog) w 166 ⟨b,0,none⟩ (by kernel_rfl) .i64 .i64 (f:Int) (t:Int) (by omega) (by omega) (by rw[G];omega);rw[J,G,aF,aF] at z;by_cases h:f=832
 ·refine⟨0,?_,λV=>by omega⟩
  rw[z];subst h;show Result.ok (Value.slice (some (if 832=832 then _ else _)) (t-832) (832-832)) w=_;rw[aB rfl]
 ·refine⟨f,?_,λ_=>rfl⟩
  rw[z];show Result.ok (Value.slice (some (if 832=f then _ else _)) (t-f) (832-f)) w=_;rw[aA,iE,add_plain,bp]
theorem ac0{T off:Nat}{C:List Int}(G:bc w g (ky C).toArray T)(hl:C.length=832)(V:f<=t)(W:t<=832)(U:f<t->off=f):Reads w (.slice (some ⟨g,off,none⟩) (t-f) (832-f)) g (ky ((C.drop f).take (t-f))):=by
 have h:((C.drop f).take (t-f)).length=t-f:=by rw[aJ,bV];omega
 refine⟨_,832-f,by rw[fq,h],by rw[fq,h];omega,by unfold maxLen;omega,λJ=>⟨G.lt,off,rfl,λj z=> ?_⟩⟩;rw[fq,h] at z;obtain rfl:=U (by omega);rw[G.cell,aG];simp only[ky,bO,bU,cj];rw[aB z]
theorem Po (h:rz w b gp B [] T own [] M)(hT:dB M){o:iP}{vp vq vd:Value}{g:Nat}(hP:fU w vp g o.P)(hs:∀s∈o.P,s.size<=9223372036854775807)(hK:o.K=3):
  Calls prog 67 #[cC b o vp vq vd] w (fH w b gp B (kY B M o)):=by
 obtain⟨W,hW,cM,jK,jI,ai⟩:=mq w (cC b o vp vq vd) (tU fh (.slice none 0 0) (.slice none 0 0));obtain⟨qN,nU,lJ⟩:=hh3 (zi (vq:=vq) (vd:=vd) (h.keep0 cM) hT (hP.keep cM) hs) (wU h hT cM jK jI rfl ai) ai;have pX:Hid (∀G,ay [] W G->G.cell? ⟨w.heap.size,4,none⟩=some (.int .i64 o.O)/\G.cell? ⟨w.heap.size,5,none⟩=some (.int .i64 o.N)):=λG hk=>by
  have h1:=jK.keep hk;exact⟨by rw[h1.cell];rfl,by rw[h1.cell];rfl⟩
 have lN:Hid (∀G,ay [] W G->(loadVar 91 w.heap.size).run prog G= .ok (.agg (cC b o vp vq vd)) G):=λG hk=>jC (jK.keep hk)
 have tP:Hid ((dc M o.P).2≠0->(iJ M o).2=cW (dc M o.P).2):=Hr (.inr (.inl hK));have ry:Hid ((dc M o.P).2=0->o.O<0\/o.N<0->(iJ M o).2=cW 1):=λU hn=>by rw[Kn hK U,aB hn]
 have nP:Hid ((dc M o.P).2=0->(nT T (dc M o.P).1).B.length=13/\0<=(nT T (dc M o.P).1).S/\(nT T (dc M o.P).1).S<=832):=λU=>by
  obtain⟨f1,f2,f3,f4,f5,f6,f7⟩:=mN h hT U;exact⟨f2,f6,f7⟩
 have K7:Hid ((dc M o.P).2=0->∀z,ay [] W z->∀v:Value,Calls prog 116 #[cC b o vp vq vd,aL (nT T (dc M o.P).1) v] z λe w'=>e=(ky (iL (az B []) (nT T (dc M o.P).1))).toArray/\ay [] z w'):=λU z hk v=>by
  obtain⟨f1,f2,f3,-⟩:=mN h hT U;have aV:=hk.size;have :=h.lt;exact wX (h.sh.keep (cM.trans' hk)) (by omega) h.nd.st.w64 f2 f3 o vp vq vd v
 have Hz:Hid ((iL (az B []) (nT T (dc M o.P).1)).length=832):=(kH _ _).1;have aj:Hid ((dc M o.P).2=0->∀a t:Nat,0<=o.O->0<=o.N->min o.O (nT T (dc M o.P).1).S=(a:Int)->(a:Int)+min o.N ((nT T (dc M o.P).1).S-(a:Int))=(t:Int)->
   ∀G v gd,ay [] W G->Reads G v gd (ky (((iL (az B []) (nT T (dc M o.P).1)).drop a).take (t-a)))->(((iL (az B []) (nT T (dc M o.P).1)).drop a).take (t-a)≠[]->W.heap.size<=gd)->
   vI (w.heap.size+1) #[(0:Int),(0:Int),(0:Int),(0:Int),(0:Int),v,()] (fH w b gp B (kY B M o)) G):=λU a t hO hN ha ht G v gd hk hr aO=>by
  obtain⟨f1,f2,f3,f4,f5,f6,f7⟩:=mN h hT U;have Si:=WG (X:=az B []) (n:=nT T (dc M o.P).1) hO hN f6 f7 ha ht;rw[Si] at hr aO;obtain⟨wy,s1,s2,s3,s4⟩:=aaO (n:=w.heap.size) jI rfl hk hr (λax=>by have :=aO ax;omega);refine⟨wy,s1,s2,fH.noneAt h ((cM.trans' hk).trans s4 (by intro y hy;rw[au] at hy;omega)) s3 ?_⟩;have hd:=Kn hK U;rw[aA] at hd;have hD:(M (cO M o.P).1).D=pW (az B []) (nT T (dc M o.P).1):=by
   rw[<-f5];exact(h.nd.fileAt f1).2.2.2.2.2.1
  refine .inr (.inr ⟨rfl,by rw[hd];rfl,.inl (by rw[hd,hD]),by rw[hd];exact h.nd.stay⟩)
 have EU:=lD;have rq:=dC;have jO:=ar nU.out.err;clear h hT hP hs cM jK jI ai hK nU;unfold AE at qN;rw[lF] at *;generalize fH w b gp B (kY B M o)=Q,cC b o vp vq vd=J,iJ M o=DM,o.N=N,o.O=O,aG:aL bY (.slice none 0 0)=Z0 at *;have jt:=ar aG;clear aG;generalize dc M o.P=F at *;obtain⟨x,ee⟩:=F
 dsimp only at *
 generalize iL (az B []) (nT T x)=CL at *;have jl:=ar (lN.out W (ay.refl _ _));go_in;go_wp2_with(with_reducible refine gL 91 jl.out ?_);refine qN.out.mono ?_;rintro e w1 ⟨aa,⟨U,rfl⟩|⟨rfl,v,g,rfl,hE,hg⟩⟩
 ·obtain⟨z,q1,q2,q3⟩:=cr (n:=bY) (v:= .slice none 0 0) (bc.new w1 Z0 75) (by rw[<-jt.out];rfl) rfl rfl
  have eP:ay [] w1 z:=((ay.refl _ _).alloc _).trans q3 (by intro x hx;rw[au] at hx;omega);obtain⟨wy,s1,s2,s3⟩:=jO.out ee U (tP.out U) z (aa.trans' eP);rw[jt.out] at q1;obtain⟨jh,HS,HL,HF⟩:=hh4 q1 s1 s2 s3;have b1:(ee != 0)=true:=by simpa using U
  clear hW q1 q2 q3 aa eP s1 s2 s3 U jO tP ry nP K7 Hz aj qN pX lN jl lJ jt;go_wp2_with(with_reducible first|refine gS 75 jh.out ?_|refine gS 38 HS.out ?_);exact aH (bu results67 rfl HL.out) rfl HF.out
 ·obtain⟨ac,aK,aF⟩:=nP.out rfl
  obtain⟨Eo,af,ae⟩:=hh3 (ry.out rfl) (K7.out rfl) (aj.out rfl);clear tP ry K7 aj nP;generalize nT T x=n,(x:Int)=xi at *;obtain⟨z,q1,q2,q3⟩:=cr (n:=n) (v:=v) (bc.new w1 Z0 75) (by rw[<-jt.out];rfl) ac hE.one;have eP:ay [] w1 z:=((ay.refl _ _).alloc _).trans q3 (by intro x hx;rw[au] at hx;omega);have jY:=aa.trans' eP;obtain⟨jh,vL⟩:=hh2 q1 (lN.out z jY);obtain⟨c1,c2⟩:=pX.out z jY;by_cases ag:O<0
  ·obtain⟨wy,s1,s2,s3⟩:=jO.out 1 (by omega) (Eo.out (.inl ag)) z jY
   obtain⟨HS,HL,HF⟩:=hh3 s1 s2 s3;have b2:decide (O<0)=true:=bq ag;clear hW q1 q2 q3 aa eP jY s1 s2 s3 jO Eo af ae Hz qN pX lN jl lJ jt hE hg ac vL aK aF;generalize aL n v=Zn at *;go_wp2_with(with_reducible first|refine gS 75 jh.out ?_|refine gS 38 HS.out ?_);exact aH (bu results67 rfl HL.out) rfl HF.out
  ·by_cases XT:N<0
   ·obtain⟨wy,s1,s2,s3⟩:=jO.out 1 (by omega) (Eo.out (.inr XT)) z jY
    obtain⟨HS,HL,HF⟩:=hh3 s1 s2 s3;have b2:decide (O<0)=false:=aP ag;have b3:decide (N<0)=true:=bq XT;clear hW q1 q2 q3 aa eP jY s1 s2 s3 jO Eo af ae Hz qN pX lN jl lJ jt hE hg ac vL aK aF;generalize aL n v=Zn at *;go_wp2_with(with_reducible first|refine gS 75 jh.out ?_|refine gS 38 HS.out ?_);exact aH (bu results67 rfl HL.out) rfl HF.out
   ·have aU:z.cell? ⟨w1.heap.size,3,none⟩=some (.int .i64 n.S):=by rw[q2.cell];exact(fT v ac).f3
    obtain⟨a,ha⟩:∃a:Nat,min O n.S=(a:Int):=⟨(min O n.S).toNat,by omega⟩;obtain⟨t,ht⟩:∃t:Nat,(a:Int)+min N (n.S-(a:Int))=(t:Int):=⟨((a:Int)+min N (n.S-(a:Int))).toNat,by omega⟩;have aI:a<=t/\t<=832:=by omega
    have b2:decide (O<0)=false:=aP ag;have b3:decide (N<0)=false:=aP XT;have aR:IntKind.i64.wrap (n.S-(a:Int))=n.S-(a:Int):=by rw[cB];omega
    have aT:IntKind.i64.wrap (t:Int)=(t:Int):=by rw[cB];omega
    obtain⟨aN,aQ,Mc,mK,V⟩:=hh5 (ae.out a t (by omega) (by omega) ha ht) (bZ q2 ac) (af.out z jY v) jY aI;obtain⟨Z8,ak⟩:∃Z8,(ky (List.replicate 832 0)).toArray=Z8:=⟨_,rfl⟩;have aS:=zk;rw[ak] at aS;have xz:Hid (Z8.size=832):=by rw[<-ak];unfold Hid;rw[bP,fq,bJ]
    clear ak hW q1 q2 q3 aa eP jY jO Eo af ae qN pX lN jl jt hE hg ac aI;generalize aL n v=Zn,n.S=S at *;go_wp2_with(with_reducible first|refine gS 75 jh.out ?_|refine gL 91 vL.out ?_|refine gL 75 aQ.out ?_);refine Rr Mc.out λw4 aC=> ?_;obtain⟨w5,q1,q2,q3⟩:=bE (P:= prog) (ty:= 166) (cs:=ky CL) (by rw[fq,Hz.out];exact vM) (bc.new w4 Z8 166) (by rw[fq,Hz.out,xz.out]) (wV _);obtain⟨off,aW,ah⟩:=Pn w4.heap.size a t V.out.1 V.out.2 w5;have RQ:ay [] z w5:=((aC.alloc (.cells Z8 166))).trans q3 (by intro x hx;rw[au] at hx;have :=aC.size;omega);have BV:=ac0 q2 Hz.out V.out.1 V.out.2 ah;have L8:((CL.drop a).take (t-a)).length<=10000:=by rw[aJ];have :=V.out;omega
    obtain⟨Me,rp,aM⟩:=hh3 (WC BV L8) q1 RQ;generalize (CL.drop a).take (t-a)=dd at *;generalize t-a=ta,832-a=ca at *;clear q1 q2 q3 aC RQ BV L8 ah Mc aQ vL jh xz Hz V ha ht aR aT;generalize (ky CL).toArray=ZC at *;go_wp2_with(first|(with_reducible refine gS 166 rp.out ?_));refine Me.out.mono ?_;rintro e w6 ⟨v6,g6,rfl,av,aD,jE⟩;obtain⟨a6,c6,rfl,-,-⟩:=av.val;obtain⟨wy,s1,s2,s3⟩:=aN.out w6 _ g6 (mK.out.trans' (aM.out.trans' jE)) av.reads (λax=>by
     have h1:=(aD (λe=>ax (bg e))).1;have h2:=(mK.out.trans' aM.out).size;omega)
    obtain⟨HS,HL,HF⟩:=hh3 s1 s2 s3;clear s1 s2 s3 av aD jE aN Me;go_wp2_with(with_reducible refine gS 38 HS.out ?_);exact aH (bu results67 rfl HL.out) rfl HF.out
section
variable {X:List Int} {T:List (bS×Value)} {own:Nat->List Nat} {M:Nat->Nd}
theorem ac1 (h:nC X T own [] M){i:Nat}(hK:(M i).K=1){o m:Nat}(ho:o+m<=832)(oZ:(fJ (nT T i).B (o/64) (bF (o+m))).length<=(aY X).length):lh (Tj X (nT T i) o m).B/\(Tj X (nT T i) o m).B.length=13:=by
 obtain⟨ay,hk,hf,ht,hi,hd,hB⟩:=h.fileAt hK;have hS:=hf.1;have ak:bF (o+m)<=13:=by unfold bF;omega
 generalize hn:nT T i=n at *;generalize Ro:fJ n.B (o/64) (bF (o+m))=z at *;have aa:∀k,k∈z↔k<bF (o+m)/\o/64<=k/\n.B.getD k 0=0:=λk=>by rw[<-Ro];exact zb
 have Il:z.Nodup:=by rw[<-Ro];exact Ei _ _ _
 have aH:z.length<=13:=by rw[<-Ro];exact cL (vH _ _ _) ak
 have U:=h.opened hi;rw[hn] at U;obtain⟨t1,t2,t3,t4,t5⟩:=U.st.take z.length;have ZV:=U.step t1 t2 (by simp);have af:∀c∈(aY X).take z.length,c≠0/\c<256:=qm;have L8:((aY X).take z.length).Nodup:=su;have ar:∀c∈(aY X).take z.length,dn X c=false:=λc hc=>(j5.1 (bL hc)).2.2
 have ae:((aY X).take z.length).length=z.length:=by rw[aJ];omega
 have hw:(Tj X n o m).B=jB n.B z ((aY X).take z.length) z.length:=by unfold Tj;rw[Ro]
 rw[hw];clear hw;have ag:∀k,k∉z->(jB n.B z ((aY X).take z.length) z.length).getD k 0=n.B.getD k 0:=λk G=>zf (aI _) (by rw[gi];exact G)
 have ah:∀m,m<z.length->(jB n.B z ((aY X).take z.length) z.length).getD (z.getD m 0) 0=((((aY X).take z.length).getD m 0:Nat):Int):=λm hm=>LK Il (λk G=>by have :=((aa k).1 G).1;omega) (aI _) hm
 have av:=nZ n.B z ((aY X).take z.length) z.length;have au:=λb=>AA (l:=(aY X).take z.length) hB Il (λk G=>by have :=(aa k).1 G;exact⟨by omega,this.2.2⟩) ae (λc hc=>(af c hc).1) b (j:=z.length) (aI _)
 have aG:nS X (az X (dt X ((aY X).take z.length))) 108:=nS.puts (L:=uy++Eh ((aY X).take z.length)) (by rw[aC,vG,ae];simp[uy];omega) λp hp=>by
  rw[aR];rcases qw _ _ p hp with h6|h6
  ·exact .inl (sD h6)
  ·exact .inr (y8 h6.1 h6.2)
 generalize hl:(aY X).take z.length=l at *;generalize aB:az X (dt X l)=X1,aA:jB n.B z l z.length=B' at *;rw[aW (by omega)] at au
 -- what each place has
 have J:∀k,k<13->(B'.getD k 0=n.B.getD k 0/\k∉z)\/(n.B.getD k 0=0/\∃q,q<z.length/\z.getD q 0=k/\B'.getD k 0=((l.getD q 0:Nat):Int)/\l.getD q 0∈l):=λk G=>by
  by_cases hm:k∈z
  ·right
   obtain⟨m,SN,ax⟩:=b9 hm;have W:z.getD m 0=k:=by rw[<-ax];simp[SN]
   refine⟨((aa k).1 hm).2.2,m,SN,W,by rw[<-W];exact ah m SN,?_⟩;rw[aj,aD (by omega)];exact bM _
  ·exact .inl ⟨ag k hm,hm⟩
 have Ec:∀k,k<13->n.B.getD k 0≠0->(n.B.getD k 0).toNat∉l:=λk G hb hc=>by
  have h1:=ar _ hc;have h2:=U.st.usedEx (Hk hB G hb);rw[h1] at h2;cases h2
 have ai:lh B':=λk G=>by
  have hr:=mG hf.2.2.2 G;rcases J k G with ⟨W,-⟩|⟨e0,m,hm,e2,W,JP⟩
  ·refine⟨by rw[W];exact hr,λV j hj=> ?_⟩
   rw[W] at V ⊢;rcases J j (by omega) with ⟨f1,-⟩|⟨-,m',-,-,f1,ac⟩
   ·rw[f1];exact(hf.2.2.2 k G).2 V j hj
   ·rw[f1]
    intro e3;exact Ec k G V (by rw[<-e3,aF];exact ac)
  ·have :=af _ JP
   refine⟨by rw[W];omega,λV j hj=> ?_⟩;rw[W];rcases J j (by omega) with ⟨f1,-⟩|⟨-,m',aK,f2,f1,ac⟩
   ·rw[f1]
    intro e3;exact Ec j (by omega) (by omega) (by rw[e3,aF];exact JP)
   ·rw[f1]
    intro e3;have e4:l.getD m' 0=l.getD m 0:=by omega
    rw[aj,aD (by omega),aj,aD (by omega)] at e4;have :=ze L8 _ _ e4;subst this;omega
 exact⟨ai,by rw[av,hB]⟩
end
def aaP (w:World) (b z:Nat) (B:List Int) (c:Int) (R:lX->List (Int×Int)->Prop) (e:Ending) (G:World):Prop:=
 ∃r h,e=(r:Int)/\(storeVar 38 (w.heap.size+1:Nat) (.agg #[(r:Int),c,(0:Int),(0:Int),(0:Int),(),()])).run prog G= .ok () h/\(loadVar 38 (w.heap.size+1:Nat)).run prog h= .ok (.agg #[(r:Int),c,(0:Int),(0:Int),(0:Int),(),()]) h/\fH w b z B R (.returned (.agg #[(r:Int),c,(0:Int),(0:Int),(0:Int),(),()])) h
section
variable {w W:World} {b gp:Nat} {B:List Int} {T:List (bS×Value)} {own:Nat->List Nat} {M:Nat->Nd} {o:iP} {cur:Array Value}
theorem WH (h:rz w b gp B [] T own [] M)(cM:ay [] w W)(jI:bc W (w.heap.size+1) cur 38)(hc:cur.size=7)(ae:W.heap.size=w.heap.size+2){G:World}{ps:List (Int×Int)}(z:ay [b,gp] W G){J:Nat}(af:J=gp\/(W.heap.size<=J/\J<G.heap.size))(aa:eN G b J B ps)(ah:ps.length<=2000)(V:In64 (az B ps)){i:Nat}{n:bS}{v:Value}(hB:n.B.length=13)(hE:n.E=[])(hr:bD G v 0 n.E){c:Int}
  (hR:∀r qs,nK (az B ps) (i:Int) n r qs->kY B M o { fh with E:=r,N:=c } (ps++qs)):
  Calls prog 48 #[b,(i:Int),aL n v] G (aaP w b gp B c (kY B M o)):=by
 have U:=h.lt;have ai:=z.size;have hT:∀wx,ay [b,J] G wx->ku wx:=H5 h.tab ((cM.mono).trans' z) (by omega);refine(sy aa V hT (by omega) (by omega) (i:Int) n v 0 hB hr (λk hk=>by rw[hE] at hk;simp at hk) (λh0=>by rw[hE] at h0;simp at h0)).mono ?_;rintro e w5 ⟨r,qs,ac,rfl,e1,e2,e3,e4,e5⟩;have ag:=e3.size;have kr:ay [b,gp] W w5:=z.trans e3 λx hx=>by
  simp only[aM,aK,bC] at hx ⊢;omega
 obtain⟨wy,s1,s2,s3,s4⟩:=yA (r:={ fh with E:=r,N:=c }) (Z:= #[.int .i64 r,.int .i64 c,.int .i64 0,.int .i64 0,.int .i64 0,.slice none 0 0,.slice none 0 0]) jI hc kr (eF U (by omega)) rfl rfl rfl;refine⟨r,wy,rfl,s1,s2,fH.some U cM (by omega) (Rq:=λ_ q=>kY B M o { fh with E:=r,N:=c } q) (m:=2700) ⟨r,ps++qs,ac,rfl,by omega,by rw[bN];exact e2,kr,by rw[aC];omega,hR r qs e5⟩ (by omega) s4 s3 λ_ hq=>hq⟩
theorem RY (J:o.K=2)(z:(dc M o.P).2=0){f:Nat}(V:o.O=(f:Int))(U:o.D≠[])(hf:f+o.D.length<=832){qs:List (Int×Int)}(G:Goes B qs [] (na M (dc M o.P).1 { M (dc M o.P).1 with D:=xg (M (dc M o.P).1).D f o.D }) 400):kY B M o { fh with E:=0,N:=(o.D.length:Int) } qs:=by
 have h:=tN J z;rw[aA,aA,aA U,V,aF] at h;rw[(pK z).2.2] at G;exact .inr (.inr ⟨rfl,by rw[h];rfl,.inl (by rw[h];rfl),by rw[h];exact G.lands (aI _)⟩)
theorem H9 (z:o.K=2)(J:(dc M o.P).2=0){f:Nat}(hO:o.O=(f:Int))(U:o.D≠[])(V:f+o.D.length<=832)(G:(aY B).length<40){qs:List (Int×Int)}(c:Int):kY B M o { fh with E:=7,N:=c } qs:=by
 have h:=tN z J;rw[aA,aA,aA U] at h;exact .inl ⟨rfl,by rw[z];rfl,.inl (by rw[h];rfl),.inl G⟩
theorem WI (h:rz w b gp B [] T own [] M)(hT:dB M)(hK:o.K=2)(vp vq vd:Value)(cM:ay [] w W)(jI:bc W (w.heap.size+1) cur 38)(hc:cur.size=7)(aa:W.heap.size=w.heap.size+2)(he:(dc M o.P).2=0){f:Nat}(hO:o.O=(f:Int))(ZK:o.D≠[])(V:f+o.D.length<=832)(U:∀x∈o.D,0<=x/\x<256)
  (oZ:(fJ (nT T (dc M o.P).1).B (f/64) (bF (f+o.D.length))).length<=(aY (az B [])).length) {wf w4 w5:World} (J:ay [] W wf) {y:Nat} (hy:W.heap.size<=y) (aA:y<wf.heap.size) (hp:vO wf w4 b gp B ([]++dt (az B []) ((aY (az B [])).take (fJ (nT T (dc M o.P).1).B (f/64) (bF (f+o.D.length))).length))) (kr:ay [y] w4 w5) {v:Value} (hr:bD w5 v 0 []):
  Calls prog 118 #[cC b o vp vq vd,aL (Tj (az B []) (nT T (dc M o.P).1) f o.D.length) v,(ky (tL (iL (az B []) (nT T (dc M o.P).1)) f o.D)).toArray] w5 λe z=>e= .returned (.tuple #[])/\ay [b,gp] W z/\(∀{C:Array Value} {t:Nat},bc w5 y C t->bc z y C t)/\
   Calls prog 48 #[(b:Nat),((dc M o.P).1:Int),aL (Tj (az B []) (nT T (dc M o.P).1) f o.D.length) v] z (aaP w b gp B (o.D.length:Int) (kY B M o)):=by
 obtain⟨f1,f2,f3,f4,f5,f6,f7⟩:=mN h hT he;obtain⟨n1,n2⟩:=ac1 h.nd f1 V oZ;have aj:=h.lt;have G:=El (kH (az B []) (nT T (dc M o.P).1)) V U;obtain⟨g4,p1,p2,p3⟩:=hp;rw[bN] at p2;have ai:=J.size;have ar:=p3.size;have ag:=kr.size;have af:=p2.keep kr (by rw[au];omega) (by rw[au];omega);have ak:=h.nd.st.w64;obtain⟨t1,-⟩:=(h.nd.opened (h.nd.rng (i:=(dc M o.P).1) (by omega))).st.take (fJ (nT T (dc M o.P).1).B (f/64) (bF (f+o.D.length))).length;have ac:=t1.w64;have ax:(dt (az B []) ((aY (az B [])).take (fJ (nT T (dc M o.P).1).B (f/64) (bF (f+o.D.length))).length)).length<=1000:=by
  rw[qb _ _ (λb hb=>qm b hb)];have h1:=vH (nT T (dc M o.P).1).B (f/64) (bF (f+o.D.length));have h2:bF (f+o.D.length)<=13:=by unfold bF;omega
  rw[aJ];omega
 refine Rr (zS af (by omega) (by omega) n2 n1 G o vp vq vd v) ?_;rintro z ⟨g6,e1,e2,e3⟩;have ah:=e3.size;have jE:ay [b,gp] W z:=(((J.mono).trans' p3).trans kr (λx hx=>by rw[au] at hx;omega)).trans e3 (λx hx=>by
  simp only[aM,aK,bC] at hx ⊢;omega)
 refine⟨rfl,jE,λ{C t} hb=>hb.keep e3 (by simp only[aM,aK,bC];omega),?_⟩;have av:=tK (Tj (az B []) (nT T (dc M o.P).1) f o.D.length).B (tL (iL (az B []) (nT T (dc M o.P).1)) f o.D) 13;refine WH h cM jI hc aa jE (by omega) e2 (by rw[aC];omega) (by rw[br];exact y9 (n:=Tj (az B []) (nT T (dc M o.P).1) f o.D.length) ac G) n2 f4 (by show bD z v 0 (nT T (dc M o.P).1).E;rw[f4];exact hr.keep e3 (λh0=>absurd rfl h0)) λr qs hp=> ?_
 rw[br] at hp;rcases h.nd.write f1 ZK U V oZ hp with ⟨rfl,ae⟩|⟨rfl,hg⟩
 ·exact H9 hK he hO ZK V ae _
 ·rw[aV]
  exact RY hK he hO ZK V hg
end
theorem Dr{T:Nat}{h:Array Value}(z:aL n v=h)(J:bc w g h T)(G:n.B.length=13):(loadVar 75 g).run prog w= .ok (.agg h) w:=by
 subst z;exact bZ J G
theorem LY (h:rz w b gp B [] T own [] M)(hT:dB M){o:iP}{vp vq vd:Value}{g:Nat}(hP:fU w vp g o.P)(hs:∀s∈o.P,s.size<=9223372036854775807)(hK:o.K=2){gd:Nat}(aM:Reads w vd gd (ky o.D))(bj:∀x∈o.D,0<=x/\x<256):
  Calls prog 66 #[cC b o vp vq vd] w (fH w b gp B (kY B M o)):=by
 obtain⟨W,hW,cM,jK,jI,aD⟩:=mq w (cC b o vp vq vd) (tU fh (.slice none 0 0) (.slice none 0 0));obtain⟨qN,nU,lJ⟩:=hh3 (zi (vq:=vq) (vd:=vd) (h.keep0 cM) hT (hP.keep cM) hs) (wU h hT cM jK jI rfl aD) aD;have aG:=h.lt;have AH:=ar aG;have pX:Hid (∀z,ay [b,gp] W z->z.cell? w.heap.size=some (.pointer (some ⟨b,0,none⟩))/\z.cell? ⟨w.heap.size,4,none⟩=some (.int .i64 o.O)/\z.cell? ⟨w.heap.size,6,none⟩=some vd):=λz V=>by
  have h1:=jK.keep V (eF aG (by omega));exact⟨by rw[h1.cell];rfl,by rw[h1.cell];rfl,by rw[h1.cell];rfl⟩
 have lN:Hid (∀z,ay [b,gp] W z->(loadVar 91 w.heap.size).run prog z= .ok (.agg (cC b o vp vq vd)) z):=λz V=>jC (jK.keep V (eF aG (by omega)))
 have tP:Hid ((dc M o.P).2≠0->(iJ M o).2=cW (dc M o.P).2):=Hr (.inl hK);have ry:Hid ((dc M o.P).2=0->o.O<0->(iJ M o).2=cW 1):=λU hn=>by rw[tN hK U,aB hn]
 have xf:Hid ((dc M o.P).2=0->0<=o.O->832-(o.D.length:Int)<o.O->(iJ M o).2=cW 8):=λU hn bH=>by rw[tN hK U,aA,aB]
 have Gk:Hid ((dc M o.P).2=0->0<=o.O->¬832-(o.D.length:Int)<o.O->o.D.length=0->∀z,ay [] W z->vI (w.heap.size+1) #[(0:Int),(0:Int),(0:Int),(0:Int),(0:Int),(),()] (fH w b gp B (kY B M o)) z):=λU hn bH hl z V=>by
  obtain⟨wy,s1,s2,s3,s4⟩:=lG jI rfl V (by simp) 0;have hd:=tN hK U;have bo:=bg hl;rw[aA,aA,aB bo] at hd;exact⟨wy,s1,s2,fH.none h ((cM.trans' V).trans s4 (by intro y hy;rw[au] at hy;omega)) s3 (.inr (.inr ⟨rfl,by rw[hd];rfl,.inl (by rw[hd];rfl),by rw[hd];exact h.nd.stay⟩))⟩
 have bf:Hid ((dc M o.P).2=0->∀f:Nat,o.O=(f:Int)->o.D.length≠0->f+o.D.length<=832->(aY (az B [])).length<40->∀z,ay [] W z->vI (w.heap.size+1) #[(7:Int),(0:Int),(0:Int),(0:Int),(0:Int),(),()] (fH w b gp B (kY B M o)) z):=λU f hO hl hf ag z V=>by
  obtain⟨wy,s1,s2,s3,s4⟩:=lG jI rfl V (by simp) 7;exact⟨wy,s1,s2,fH.none h ((cM.trans' V).trans s4 (by intro y hy;rw[au] at hy;omega)) s3 (H9 hK U hO (λe=>hl (by rw[e];rfl)) hf ag 0)⟩
 have nP:Hid ((dc M o.P).2=0->(nT T (dc M o.P).1).B.length=13/\0<=(nT T (dc M o.P).1).S/\(nT T (dc M o.P).1).S<=832/\(nT T (dc M o.P).1).E=[]):=λU=>by
  obtain⟨f1,f2,f3,f4,f5,f6,f7⟩:=mN h hT U;exact⟨f2,f6,f7,f4⟩
 have K7:Hid ((dc M o.P).2=0->∀G,ay [] W G->∀v:Value,Calls prog 116 #[cC b o vp vq vd,aL (nT T (dc M o.P).1) v] G λe w'=>e=(ky (iL (az B []) (nT T (dc M o.P).1))).toArray/\ay [] G w'):=λU G V v=>by
  obtain⟨f1,f2,f3,-⟩:=mN h hT U;have bR:=V.size;exact wX (h.sh.keep (cM.trans' V)) (by omega) h.nd.st.w64 f2 f3 o vp vq vd v
 have Hz:Hid ((iL (az B []) (nT T (dc M o.P).1)).length=832):=(kH _ _).1;have Vk:Hid ((dc M o.P).2=0->∀f:Nat,f+o.D.length<=832->∀G,ay [] W G->∀v:Value,v.oneCell'=true->Calls prog 117 #[cC b o vp vq vd,aL (nT T (dc M o.P).1) v,(f:Int),.int .i64 ((f:Int)+(o.D.length:Int))] G (Pf G b gp B [] (nT T (dc M o.P).1) v (fJ (nT T (dc M o.P).1).B (f/64) (bF (f+o.D.length))))):=λU f hf G V v hv=>by
  obtain⟨f1,f2,f3,-⟩:=mN h hT U;have bR:=V.size;have :=WA (h.sh.keep (cM.trans' V)) h.nd.st.w64 (λz hx=>h.tab z (((cM.trans' V).mono).trans' hx)) (by omega) (by simp) f2 o vp vq vd hv f (f+o.D.length) (by omega) hf;rwa[Int.natCast_add] at this
 have MZ:Hid (∀f:Nat,f+o.D.length<=832->(fJ (nT T (dc M o.P).1).B (f/64) (bF (f+o.D.length))).length<=13):=λf hf=>cL (vH _ _ _) (by unfold bF;omega)
 have aF:=ar (λ(U:(dc M o.P).2=0) (f:Nat) (hO:o.O=(f:Int)) (ZK:o.D.length≠0) (hf:f+o.D.length<=832) oZ wf w4 w5 bG y hy bK hp kr v hr=>WI h hT hK vp vq vd cM jI rfl aD U hO (λe=>ZK (by rw[e];rfl)) hf bj oZ (wf:=wf) (w4:=w4) (w5:=w5) bG (y:=y) hy bK hp kr (v:=v) hr);obtain⟨ad,bb,rfl,cj,bw,-⟩:=id aM;rw[fq] at *;have ac:Hid (∀z,ay [] W z->Reads z (.slice ad o.D.length bb) gd (ky o.D)):=λz V=>aM.keep (cM.trans' V)
 have EU:=lD;have rq:=dC;have jO:=ar nU.out.err;clear h hT hP hs cM jK jI aD hK nU aG aM bj;unfold AE at qN;rw[lF] at *;unfold aaP at aF;generalize fH w b gp B (kY B M o)=Q,cC b o vp vq (.slice ad o.D.length bb)=J,iJ M o=DM,o.O=O at *;generalize o.D=D,bk:aL bY (.slice none 0 0)=Z0 at *;have jt:=ar bk;clear bk;generalize dc M o.P=F at *;obtain⟨x,ee⟩:=F
 dsimp only at *
 generalize iL (az B []) (nT T x)=CL at *;have jl:=ar (lN.out W (ay.refl _ _));have b9:bb<=9223372036854775807:=by unfold maxLen at bw;omega
 have bX:IntKind.i64.wrap (832-(D.length:Int))=832-(D.length:Int):=by rw[cB];omega
 clear bw;go_in;go_wp2_with(with_reducible refine gL 91 jl.out ?_);refine qN.out.mono ?_;rintro e w1 ⟨aa,⟨U,rfl⟩|⟨rfl,v,g,rfl,hE,hg⟩⟩
 ·obtain⟨G,q1,q2,q3⟩:=cr (n:=bY) (v:= .slice none 0 0) (bc.new w1 Z0 75) (by rw[<-jt.out];rfl) rfl rfl
  have eP:ay [] w1 G:=((ay.refl _ _).alloc _).trans q3 (by intro x hx;rw[au] at hx;omega);obtain⟨-,c2,c3⟩:=pX.out G ((aa.trans' eP).mono);have mK:=ar (aa.trans' eP);rw[jt.out] at q1;obtain⟨jh,bv⟩:=hh2 q1 (jO.out ee U (tP.out U));have b1:(ee != 0)=true:=by simpa using U
  clear hW q1 q2 q3 aa eP U jO tP ry xf Gk bf nP K7 Hz Vk MZ aF ac qN pX lN jl lJ AH jt;go_wp2_with(with_reducible refine gS 75 jh.out ?_)
  go_quiet (fail)
  obtain⟨wy,s1,s2,s3⟩:=bv.out (G.drewN nq) (mK.out.drewN nq);obtain⟨HS,HL,HF⟩:=hh3 s1 s2 s3;clear s1 s2 s3 bv mK jh;generalize G.drewN nq=w3 at *;go_wp2_with(with_reducible refine gS 38 HS.out ?_);exact aH (bu results66 rfl HL.out) rfl HF.out
 ·obtain⟨aX,cf,cd,aK⟩:=nP.out rfl
  obtain⟨Eo,PF,ai,af,av,ax,ah⟩:=hh7 (ry.out rfl) (xf.out rfl) (Gk.out rfl) (bf.out rfl) (K7.out rfl) (Vk.out rfl) (aF.out rfl);clear tP ry xf Gk bf K7 Vk aF nP;generalize nT T x=n,(x:Int)=xi at *;obtain⟨G,q1,q2,q3⟩:=cr (n:=n) (v:=v) (bc.new w1 Z0 75) (by rw[<-jt.out];rfl) aX hE.one;have eP:ay [] w1 G:=((ay.refl _ _).alloc _).trans q3 (by intro x hx;rw[au] at hx;omega);have jh:=ar q1;obtain⟨-,c2,c3⟩:=pX.out G ((aa.trans' eP).mono);obtain⟨GH,oD⟩:=hh2 (aa.trans' eP) q2;have bt:Hid (W.heap.size<=w1.heap.size):=aa.size;have SC:=ar hE.one;have RO:Hid (w1.heap.size<G.heap.size):=q2.lt;have rh:Hid (bD G v 0 []):=by
   have :=(hE.keep eP).anyG (by rw[aK];rfl) 0;rw[aK] at this;exact this
  have Be:=ar aX;clear hW q1 q2 q3 aa eP hE hg qN jl aK aX;generalize Xb:aL n v=Zn at *;have W4:=ar Xb;clear Xb;go_wp2_with(with_reducible refine gS 75 jh.out ?_)
  go_quiet (fail)
  obtain⟨mK,qC⟩:=hh2 (GH.out.drewN nq) (oD.out.drewN nq);have WJ:Hid (w1.heap.size<(G.drewN nq).heap.size):=RO.out;have ak:Hid (bD (G.drewN nq) v 0 []):=rh.out.keep ((ay.refl [] G).drewN nq) (λh0=>absurd rfl h0);clear GH oD RO rh jh;generalize G.drewN nq=w3 at *;by_cases bV:O<0
  ·obtain⟨wy,s1,s2,s3⟩:=jO.out 1 (by omega) (Eo.out bV) w3 mK.out
   obtain⟨HS,HL,HF⟩:=hh3 s1 s2 s3;clear s1 s2 s3 jO Eo PF ai af av ax ah Hz MZ ac pX lN lJ AH jt mK qC WJ ak;go_wp2_with(with_reducible refine gS 38 HS.out ?_);exact aH (bu results66 rfl HL.out) rfl HF.out
  ·by_cases XT:832-(D.length:Int)<O
   ·obtain⟨wy,s1,s2,s3⟩:=jO.out 8 (by omega) (PF.out (by omega) XT) w3 mK.out
    obtain⟨HS,HL,HF⟩:=hh3 s1 s2 s3;clear s1 s2 s3 jO Eo PF ai af av ax ah Hz MZ ac pX lN lJ AH jt mK qC WJ ak;go_wp2_with(with_reducible refine gS 38 HS.out ?_);exact aH (bu results66 rfl HL.out) rfl HF.out
   ·by_cases ae:D.length=0
    ·obtain⟨wy,s1,s2,s3⟩:=ai.out (by omega) (by omega) ae w3 mK.out
     obtain⟨HS,HL,HF⟩:=hh3 s1 s2 s3;have b4:((D.length:Int)==0)=true:=by rw[ae];rfl
     clear s1 s2 s3 jO Eo PF ai af av ax ah Hz MZ ac pX lN lJ AH jt mK qC WJ ak ae;go_wp2_with(with_reducible refine gS 38 HS.out ?_);exact aH (bu results66 rfl HL.out) rfl HF.out
    ·have b4:((D.length:Int)==0)=false:=by simpa using ae
     obtain⟨f,rfl⟩:=cz (show 0<=O by omega);have ag:f+D.length<=832:=by omega
     have b7:IntKind.i64.wrap ((f:Int)+(D.length:Int))=(f:Int)+(D.length:Int):=by rw[cB];omega
     have aS:=av.out w3 mK.out v;rw[W4.out] at aS;have Mc:=ar aS;clear aS;have uR:=Dr W4.out qC.out Be.out;obtain⟨bA,yC⟩:=hh2 uR (lN.out w3 (mK.out.mono));obtain⟨Z8,aP⟩:∃Z8,(ky (List.replicate 832 0)).toArray=Z8:=⟨_,rfl⟩;have bM:=zk;rw[aP] at bM;have xz:Hid (Z8.size=832):=by rw[<-aP];unfold Hid;rw[bP,fq,bJ]
     clear aP uR Eo PF ai jO av;go_wp2_with(with_reducible first|refine gL 91 yC.out ?_|refine gL 75 bA.out ?_);refine Rr Mc.out λw4 aI=> ?_;obtain⟨w5,q1,q2,q3⟩:=bE (P:= prog) (ty:= 166) (cs:=ky CL) (by rw[fq,Hz.out];exact vM) (bc.new w4 Z8 166) (by rw[fq,Hz.out,xz.out]) (wV _);have bT:=uG w4.heap.size f (by omega);have tZ:ay [] w3 w5:=((aI.alloc (.cells Z8 166))).trans q3 (by intro x hx;rw[au] at hx;have :=aI.size;omega);have Jf:=mK.out.trans' tZ;obtain⟨r,w6,zH,tX,jE⟩:=TA (w:=w5.drew) (o:=f) (n:=832-f) (cap:=832-f) q2.drew (ac.out _ Jf.drew) (by rw[Hz.out];omega);rw[show CL.take f++D.take (832-f)++CL.drop (f+min D.length (832-f))=tL CL f D by unfold tL;rw[aW (l:=D) (by omega),cZ (by omega),aV]] at tX;obtain⟨-,-,c6⟩:=pX.out w5 (Jf.mono);have M9:=zH 3;have bn:w3.heap.size<=w4.heap.size:=aI.size;have bI:w5.heap.size<=w6.heap.size:=jE.size;have Dq:ay [] w3 w6:=(tZ.drew).trans jE (by intro x hx;rw[au] at hx;omega);have zz:=mK.out.trans' Dq;obtain⟨Dp,SB⟩:=hh2 (lN.out w6 (zz.mono)) (qC.out.keep Dq);have uR:=Dr W4.out SB.out Be.out;have WB:=ar uR;have aO:=ax.out f ag w6 zz v SC.out;rw[W4.out] at aO;have Qv:=ar aO;clear aO;obtain⟨U8,aR,rp,ba⟩:=hh4 zz tX q1 (ak.out.keep Dq (λh0=>absurd rfl h0));have bN:Hid (w1.heap.size<w6.heap.size/\w4.heap.size<w6.heap.size/\w3.heap.size<=w4.heap.size/\w1.heap.size<w3.heap.size):=⟨bQ WJ.out Dq.size,tX.lt,bn,WJ.out⟩;clear q1 q2 q3 aI tZ Jf zH tX jE Dq zz uR Mc bA yC xz qC ac ak WJ bn bI ax;go_wp2_with(with_reducible refine gS 166 rp.out ?_);go_region_with (fail)
     clear rp M9 c6 bT;go_wp2_with(with_reducible first|refine gL 91 Dp.out ?_|refine gL 75 WB.out ?_);refine Qv.out.mono ?_;rintro e w7 (⟨oZ,rfl,xZ⟩|⟨oZ,rfl,aT⟩)
     ·obtain⟨w8,q1,q2,q3⟩:=cr (n:=bY) (v:= .slice none 0 0) (SB.out.keep xZ) (by rw[<-W4.out];exact zg Be.out) rfl rfl
      have bC:=MZ.out f ag;obtain⟨wy,s1,s2,s3⟩:=af.out f rfl ae ag (by omega) w8 ((U8.out.trans' xZ).trans q3 (by intro y hy;rw[au] at hy;have :=bt.out;omega));rw[jt.out] at q1 ⊢;obtain⟨aZ,HS,HL,HF⟩:=hh4 q1 s1 s2 s3;clear q1 q2 q3 s1 s2 s3 bC oZ xZ af ah Qv Dp WB pX lN SB aR U8 ba;go_wp2_with(with_reducible first|refine gS 75 aZ.out ?_|refine gS 38 HS.out ?_);exact aH (bu results66 rfl HL.out) rfl HF.out
     ·have hl:=AH.out
      obtain⟨z1,z2,z3,z4⟩:=bN.out;have bl:=bt.out;obtain⟨g7,-,-,k7⟩:=id aT;have aU:∀y,W.heap.size<=y->y∉[b,gp]:=λy hy=>eF hl (by have :=lJ.out;omega)
      have b6:=mK.out.size;have bq:Tj (az B []) n f D.length={ n with B:=jB n.B (fJ n.B (f/64) (bF (f+D.length))) ((aY (az B [])).take (fJ n.B (f/64) (bF (f+D.length))).length) (fJ n.B (f/64) (bF (f+D.length))).length,S:=max n.S ((f+D.length:Nat):Int) }:=rfl;have aj:=λw9 IK bL=>ah.out f rfl ae ag oZ w6 w7 w9 U8.out w1.heap.size bl z1 aT IK v bL
      rw[bq,Int.natCast_add] at aj;obtain⟨fb,aN⟩:∃fb,jB n.B (fJ n.B (f/64) (bF (f+D.length))) ((aY (az B [])).take (fJ n.B (f/64) (bF (f+D.length))).length) (fJ n.B (f/64) (bF (f+D.length))).length=fb:=⟨_,rfl⟩;have Pp:fb.length=13:=by rw[<-aN,nZ];exact Be.out
      rw[aN] at aj ⊢;obtain⟨mS,bU⟩:∃mS,max n.S ((f:Int)+(D.length:Int))=mS:=⟨_,rfl⟩;rw[bU] at aj;obtain⟨w8,q1,q2,q3⟩:=cr (n:={ n with B:=fb }) (v:=v) (SB.out.keep k7 (aU _ bl)) (by rw[<-W4.out];exact zg Be.out) Pp SC.out;have d3:w8.cell? ⟨w1.heap.size,3,none⟩=some (.int .i64 n.S):=by rw[q2.cell];exact(fT (n:={ n with B:=fb }) v Pp).f3
      have cg:=q2.frozen 3;have EB:=H4 q2 mS;have aC:ay [w1.heap.size] w7 (w8.setCell ⟨w1.heap.size,3,none⟩ (.int .i64 mS)):=q3.setCell (.inl (by simp)) _;have aQ:ay [b,gp] W (w8.setCell ⟨w1.heap.size,3,none⟩ (.int .i64 mS)):=((U8.out.mono).trans' k7).trans aC (λy hy=>by rw[au] at hy;omega);obtain⟨Bv,aZ,bz,br,bp,X7,bW⟩:=hh7 (aj _ aC ((ba.out.keep k7 (λh0=>absurd rfl h0)).keep aC (λh0=>absurd rfl h0))) q1 (lN.out _ aQ) (bZ EB (by exact Pp)) (zm ((aR.out.keep k7 (aU _ (by omega))).keep aC (by rw[au];omega)) (by unfold tL;simp[Hz.out];omega)) EB Pp;obtain⟨c0,c4,-⟩:=pX.out _ aQ;clear q1 q2 q3 EB aC aQ aj bq aN aT k7 aU Qv Dp WB SB aR ba af ah Pp lN oZ Hz MZ;generalize aL { n with B:=fb } v=Z7,bh:aL { n with B:=fb,S:=mS } v=Z9,(ky (tL CL f D)).toArray=ZC at *;go_wp2_with(with_reducible first|refine gS 75 aZ.out ?_|refine gL 91 bz.out ?_|refine gL 75 br.out ?_|refine gL 166 bp.out ?_);refine Rr Bv.out ?_;rintro WX ⟨Gr,U3,aJ⟩;have uR:=Dr bh (U3 X7.out) bW.out;obtain⟨c0,-,-⟩:=pX.out _ Gr;obtain⟨bO,bB⟩:=hh2 uR aJ;clear uR aJ U3 Gr Bv bz br bp X7 bh;go_wp2_with(with_reducible refine gL 75 bO.out ?_);refine bB.out.mono ?_;rintro e ck ⟨r,wy,rfl,s1,s2,s3⟩;obtain⟨HS,HL,HF⟩:=hh3 s1 s2 s3;clear s1 s2 s3 bB;go_wp2_with(with_reducible refine gS 38 HS.out ?_);exact aH (bu results66 rfl HL.out) rfl HF.out
theorem ac2 (M:Nat->Nd)(o:iP):LO M o:=by
 intro w b gp B T own vp vq vd h hT hI;have J:∀G,ay [] w G->rz G b gp B [] T own [] M/\BO G o vp vq vd:=λG hk=>⟨h.keep0 hk,hI.keep hk⟩
 by_cases hK:0<=o.K/\o.K<=12
 ·obtain⟨k,hk⟩:=cz hK.1
  have lZ:k<13:=by omega
  refine Rr (aax w b vp vq vd hk lZ) λw' tV=> ?_;have aa:k=0\/k=1\/k=2\/k=3\/k=4\/k=5\/k=6\/k=7\/k=8\/k=9\/k=10\/k=11\/k=12:=by omega
  rcases aa with rfl|rfl|rfl|rfl|rfl|rfl|rfl|rfl|rfl|rfl|rfl|rfl|rfl
  ·exact⟨_,rfl,tV,fA func64 rfl rfl _,λG z=>by obtain⟨W,⟨g1,U⟩,V,⟨g3,a3⟩,a4,⟨g5,a5⟩,a6⟩:=J G z;exact O3 W hT U V hk⟩
  ·exact⟨_,rfl,tV,fA func65 rfl rfl _,λG z=>by obtain⟨W,⟨g1,U⟩,V,⟨g3,a3⟩,a4,⟨g5,a5⟩,a6⟩:=J G z;exact RJ W hT U V hk⟩
  ·exact⟨_,rfl,tV,fA func66 rfl rfl _,λG z=>by obtain⟨W,⟨g1,U⟩,V,⟨g3,a3⟩,a4,⟨g5,a5⟩,a6⟩:=J G z;exact LY W hT U V hk a5 a6⟩
  ·exact⟨_,rfl,tV,fA func67 rfl rfl _,λG z=>by obtain⟨W,⟨g1,U⟩,V,⟨g3,a3⟩,a4,⟨g5,a5⟩,a6⟩:=J G z;exact Po W hT U V hk⟩
  ·exact⟨_,rfl,tV,fA func68 rfl rfl _,λG z=>by obtain⟨W,⟨g1,U⟩,V,⟨g3,a3⟩,a4,⟨g5,a5⟩,a6⟩:=J G z;exact Pm W hT U V hk⟩
  ·exact⟨_,rfl,tV,fA func69 rfl rfl _,λG z=>by obtain⟨W,⟨g1,U⟩,V,⟨g3,a3⟩,a4,⟨g5,a5⟩,a6⟩:=J G z;exact Jd W hT U V hk⟩
  ·exact⟨_,rfl,tV,fA func70 rfl rfl _,λG z=>by obtain⟨W,⟨g1,U⟩,V,⟨g3,a3⟩,a4,⟨g5,a5⟩,a6⟩:=J G z;exact LS W hT U V hk⟩
  ·exact⟨_,rfl,tV,fA func71 rfl rfl _,λG z=>by obtain⟨W,⟨g1,U⟩,V,⟨g3,a3⟩,a4,⟨g5,a5⟩,a6⟩:=J G z;exact Ww W hT U V a3 a4 hk⟩
  ·exact⟨_,rfl,tV,fA func72 rfl rfl _,λG z=>by obtain⟨W,⟨g1,U⟩,V,⟨g3,a3⟩,a4,⟨g5,a5⟩,a6⟩:=J G z;exact aaG W hT U V a3 a4 hk⟩
  ·exact⟨_,rfl,tV,fA func73 rfl rfl _,λG z=>by obtain⟨W,⟨g1,U⟩,V,⟨g3,a3⟩,a4,⟨g5,a5⟩,a6⟩:=J G z;exact aal W hT U V hk⟩
  ·exact⟨_,rfl,tV,fA func74 rfl rfl _,λG z=>by obtain⟨W,⟨g1,U⟩,V,⟨g3,a3⟩,a4,⟨g5,a5⟩,a6⟩:=J G z;exact aak W hT U V hk⟩
  ·exact⟨_,rfl,tV,fA func75 rfl rfl _,λG z=>acH (J G z).1 hT hk⟩
  ·exact⟨_,rfl,tV,fA func76 rfl rfl _,λG z=>aaj (J G z).1 hT hk⟩
 ·refine(acR w b vp vq vd hK).mono ?_
  rintro e w' ⟨rfl,tV⟩;exact⟨_,rfl,tV,fA func77 rfl rfl _,λG z=>V8 (J G z).1 hK⟩
theorem Dt{z:World}{n:Int}{o:iP}{G vq vd:Value}(h:Live z f b gn gl gf M X n w)(J:ku z)(V:n<=1000000000)(U:BO w o G vq vd):
  Calls prog 11 #[f,pJ o G vq vd] w (Tx z f b gn gl gf M X n o w):=Wo (ac2 M o) h J V U
def LZ (w:World) (e:Ending) (w':World):Prop:=
 ∃f b gn gl gf Y,e= .returned (.tuple #[(f:Nat),(b:Nat)])/\Live w f b gn gl gf Dj Y 3520 w'/\(aY Y).length=255
theorem Pq (hT:ku w){k:Int}(hk:k=1\/k=2):Calls prog 9 #[k] w (LZ w):=by
 have HN:=adC w 3128;rw[show uJ 3128=3128 from rfl] at HN;have HN:=ar HN;have ae:Hid (∀V b gn gl gf,ay [] w V->(w.heap.size<=b/\w.heap.size<=gn/\w.heap.size<=gl/\w.heap.size<=gf)->fM V b gn gl gf (calm (List.replicate 3128 0) 0)->Calls prog 21 #[(b:Nat),k] V λe w2=>e=(0:Int)/\Hid (∃Y,Calls prog 27 #[(b:Nat)] w2 λe w3=>∃f,e= .returned (.tuple #[(f:Nat),(0:Int)])/\Hid (LZ w (.returned (.tuple #[(f:Nat),(b:Nat)])) w3))):=λV b gn gl gf J h hp=>by
  refine Rr (afa hp (by omega) (by omega) (by simp) (hT.keep J) hk) ?_;rintro w2 ⟨Y,G,oZ,U,ac⟩;refine⟨rfl,Y,?_⟩;have ho:=U.old (by show Y.length≠0;have :=G.len;omega);refine(aav (b:=b) (gn:=gn) (gl:=gl) (gf:=gf) (R:=λs wx=>s=calm Y (0+3520)/\fM wx b gn gl gf s/\ay [] w2 wx) (λs wa wb hk ⟨h1,h2,h3⟩=>⟨h1,h2.keep hk,h3.trans' hk⟩) ?_).mono ?_
  ·refine(O5 U G.len (afe G.w64) G.1).mono ?_
   rintro e w3 ⟨rfl,z⟩;have W8:=U.keep z;exact⟨rfl,_,Fi G.len G.w64,W8,z.size,rfl,W8,z⟩
  ·rintro e w3 (⟨x,s,rfl,rfl,-,af,rfl,-⟩|⟨f,s,rfl,-,hf,ag,-,rfl,W8,z⟩)
   ·exfalso
    obtain⟨-,T,own,Il⟩:=G;exact af _ ⟨T,own,Il⟩
   ·refine⟨f,rfl,f,b,gn,gl,gf,Y,rfl,⟨hf,G,⟨_,⟨by omega,by omega⟩,W8⟩,?_,?_,?_⟩,oZ⟩
    ·have h1:ay [] w w2:=J.trans ac λy hy=> .inr (by simp only[aM,aK,bC] at hy;omega)
     exact h1.trans' z
    ·have :=J.size
     have :=ac.size;exact⟨by omega,h.1,h.2.1,h.2.2.1,h.2.2.2⟩
    ·intro W
     simp only[aM,aK,bC] at W;omega
 clear hT hk;generalize LZ w=Q at *;go_in;go_wp2_with fail;refine HN.out.mono ?_;rintro e V ⟨b,gn,gl,gf,rfl,hp,h,aa⟩;rw[bJ] at hp;have HF:=ar (ae.out V b gn gl gf aa h (by unfold calm;rw[bJ];exact hp));clear hp h aa HN ae;go_wp2_with fail;refine Rr HF.out λw2 W=> ?_;obtain⟨Y,W⟩:=W.out;have HM:=ar W;clear W HF;go_wp2_with fail;refine HM.out.mono ?_;rintro e w3 ⟨f,rfl,hq⟩;clear HM;go_wp2;exact hq.out
theorem aaS (w:World):(zeroValue 42).run prog w= .ok (.agg #[(0:Int),(),(),(0:Int),(0:Int),()]) w:=by kernel_rfl
theorem RZ (w:World)(g:Nat):fU w (.slice none 0 0) g []:=⟨none,0,rfl,by simp,by simp[maxLen],λh=>absurd rfl h⟩
theorem aaT (w:World)(s:ByteArray)(T:Nat):fU (w.alloc (.cells #[.string s] T)) (.slice w.heap.size 1 1) w.heap.size [s]:=by
 have h:=bc.new w #[.string s] T;refine⟨some ⟨w.heap.size,0,none⟩,1,rfl,aI _,by unfold maxLen;omega,λ_=>⟨h.lt,0,rfl,λj z=> ?_⟩⟩;rw[h.cell,bp,<-aG];rfl
theorem WK (E N K L I:Int)(vd h:Value)(w:World):(Instr.field 38 (.agg #[E,N,K,L,I,vd,h]) 1).run prog w= .ok (.int .i64 N) w:=by kernel_rfl
def opD (nm:ByteArray):iP:=⟨1,[nm],[],0,0,[]⟩
theorem afs:(iJ Dj (opD ⟨#[100]⟩)).2.E=0/\(iJ Dj (opD ⟨#[100]⟩)).2.N=1:=by
 rw[LL (.inr rfl)]
 decide+kernel
theorem WL (hT:ku w):Calls prog 18 #[] w λe w'=>e=true/\ay [] w w':=by
 obtain⟨zL,W9⟩:=hh2 (Pq hT (k:=2) (.inr rfl)) hT;clear hT;go_in;go_wp2_with fail;refine zL.out.mono ?_;rintro e z ⟨f,b,gn,gl,gf,Y,rfl,hl,oZ⟩;have hk:ay [] z (z.alloc (.cells #[.string ⟨#[100]⟩] 9)):=(ay.refl _ _).alloc _;have hI:BO (z.alloc (.cells #[.string ⟨#[100]⟩] 9)) (opD ⟨#[100]⟩) (.slice z.heap.size 1 1) (.slice none 0 0) (.slice none 0 0):=
  ⟨⟨_,aaT _ _ _⟩,λs hs=>by rw[au.1 hs];decide,⟨0,RZ _ _⟩,by simp[opD],⟨0,tM _ _⟩,by simp[opD]⟩
 have G:=Dt (hl.keep0 hk) W9.out (by omega) hI;have U:Hid (Calls prog 11 #[f,.agg #[(1:Int),.slice z.heap.size 1 1,(),(0:Int),(0:Int),()]] (z.alloc (.cells #[.string ⟨#[100]⟩] 9)) λe w'=>∃E K L I vd J,e= .returned (.agg #[(E:Int),(1:Int),(K:Int),(L:Int),(I:Int),vd,J])/\Hid (ay [] w w')):=by
  show Calls _ _ _ _ _;refine G.mono ?_;rintro e w' ⟨r,Z,rfl,⟨vd,J,rfl,-⟩,-,h⟩;obtain⟨e1,e2⟩:=afs;have hN:r.N=1/\ay [] w w':=by
   rcases h with ⟨h0,h1,⟨-,-,-,-,W⟩|rfl⟩|⟨-,-,W,X',h6⟩
   ·rw[oZ,e1] at W
    omega
   ·exact absurd e1 h0
   ·refine⟨?_,h6.keeps⟩
    rcases W with rfl|⟨h7,-⟩
    ·exact e2
    ·exact absurd h7 (by decide)
  refine⟨r.E,r.K,r.L,r.I,vd,J,?_,hN.2⟩;rw[tU,hN.1]
 have aa:=aaS;clear hl oZ hk hI G zL W9;go_wp2_with fail;refine U.out.mono ?_;rintro e w2 ⟨E,K,L,I,vd,J,rfl,V⟩;have ac:=WK E 1 K L I vd J;clear U;go_wp2;go_ret;exact⟨rfl,V.out⟩
theorem Pr (X:List Int)(c:Nat):(eX X (c+1)).length=if c≠0/\dn X c=false then (eX X c).length+1 else (eX X c).length:=by
 unfold eX;rw[dQ,dZ];cases hu:dn X c
 ·by_cases h:c=0
  ·subst h;simp[hu]
  ·simp[hu,h]
 ·simp[hu]
theorem ac3 (x j:Nat):(x/2^j &&& 1==0)= !x.testBit j:=by
 rw[Nat.testBit_eq_decide_div_mod_eq,Nat.and_one_is_mod];rcases Nat.mod_two_eq_zero_or_one (x/2^j) with h|h<;>simp[h]
theorem Ps{W0:World}{n:Int}(h:Live W0 f b gn gl gf M X n w):
  Calls prog 29 #[f] w λe w'=>e=((aY X).length:Int)/\ay [] w w':=by
 obtain⟨d,-,hp⟩:=h.pm;have xm:=Fi (d:=d) h.ws.len h.ws.w64;have z:=h.ws.w64;have vP:Hid (Calls prog 16 #[f] w λe U=>∃V,e=(V:Nat)/\Hid (ay [] w U/\∀G,ay [] U G->∀k:Nat,k<4->Calls prog 57 #[(V:Nat),((816+k:Nat):Int)] G λe w2=>e= .returned (.int .u64 ((bw X k:Nat):Int))/\G=w2)):=by
  show Calls _ _ _ _ _;refine(Ht h.fs hp xm.1 xm.2.2).mono ?_;rintro e U ⟨V,rfl,-,ac,hk⟩;refine⟨V,rfl,hk,λG yQ k ai=> ?_⟩;have ae:=ac.keep yQ;have :=nW ae ((816+k:Nat):Int);rw[show(calm X d).now=X from rfl] at this;rwa[yK (B:=X) (ps:=[]) z k (by omega)] at this
 have aa:Hid (∀c,c<=256->(eX X c).length<=256):=λc hc=>by
  have :=fe (λb=>b != 0 && !dn X b) (List.range c);rw[fK] at this;unfold eX;omega
 have DI:Hid (∀k,bw X k<18446744073709551616):=λk=>DC z k
 clear h hp xm z;go_in;go_wp2_with fail;refine vP.out.mono ?_;rintro e U ⟨V,rfl,hq⟩;obtain⟨HG,jv⟩:=hh2 hq.out.2 hq.out.1;clear hq vP;go_wp2_with fail;go_loopg [4,5] 255 (λgh s4 s5 G=>∃c:Nat,c+gh=256/\1<=c/\s5= .int .i64 (c:Int)/\s4= .int .i64 ((eX X c).length:Int)/\Hid (ay [] U G))
 case atStart=>
  have e:eX X 1=[]:=rfl;exact⟨1,by omega,by omega,rfl,by rw[e];rfl,ay.refl _ _⟩
 case round=>
  obtain⟨c,hc,aj,rfl,rfl,J⟩:=hrel;cases gk with
  |zero=>
   obtain rfl:c=256:=by omega
   have HF:Hid (ay [] w wr):=jv.out.trans' J.out;clear J;go_wp2;go_ret;exact⟨rfl,HF.out⟩
  |succ gg=>
   have ag:(c:Int)<256:=by omega
   have ah:(0:Int)<=(c:Int):=by omega
   have W:=HG.out wr J.out (c/64) (by omega);rw[show((816+c/64:Nat):Int)=816+(c:Int)/64 by omega] at W;have af:=aa.out c (by omega);have hx:=DI.out (c/64);have HS:=ar (Pr X c);have hu:dn X c=(bw X (c/64)).testBit (c%64):=rfl;have W:=ar W;have hb:(bits .and .u64 ((bw X (c/64):Int)/2^(c%64)) 1==0)= !dn X c:=by
    have h1:((bw X (c/64):Nat):Int)/2^(c%64)=((bw X (c/64)/2^(c%64):Nat):Int):=by simp
    have h2:=gM (bw X (c/64)/2^(c%64)) 1 (iR (Nat.div_le_self _ _) hx) (by omega);rw[h1];rw[show((1:Nat):Int)=1 from rfl] at h2;rw[h2,hu,<-ac3];cases h3:(bw X (c/64)/2^(c%64) &&& 1==0)
    ·simp only[cg] at h3 ⊢;omega
    ·simp only[beq_iff_eq] at h3 ⊢;omega
   have HI:Hid (dn X c=false->((eX X (c+1)).length:Int)=((eX X c).length:Int)+1):=λh=>by rw[HS.out,aB ⟨by omega,h⟩];omega
   have HN:Hid (dn X c=true->((eX X (c+1)).length:Int)=((eX X c).length:Int)):=λh=>by rw[HS.out,aA (λe=>by rw[h] at e;cases e.2)]
   clear HS hu hx;generalize bw X (c/64)=x,dn X c=u at *;cases u;all_goals
    go_wp2_with fail;refine C' W.out ?_;go_wp2;go_roundg gg
   all_goals first
    |omega
    |(have h:=HI.out trivial;exact⟨c+1,by omega,by omega,by go_num,by rw[h],J.out⟩)
    |(have h:=HN.out trivial;exact⟨c+1,by omega,by omega,by go_num,by rw[h],J.out⟩)
end Go.Proofs.YtimcfdnbpkiniaaGreatDoor
