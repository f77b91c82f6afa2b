/- Lemmas. -/
import Derived.Test.YtimcfdnbpkiniaaGreatDoorM31
import Derived.Test.YtimcfdnbpkiniaaGreatDoorM28
set_option maxHeartbeats 4000000
set_option maxRecDepth 100000
namespace Go.Proofs.YtimcfdnbpkiniaaGreatDoor
open Go.Proofs.Tryz
open Go.RowKit
variable{w w' z:World}{b f g gf gl gn gp n t:Nat}{B X:List Int}{T:List (bT×Value)}{own:Nat->List Nat}{M:Nat->Nd}{v:Value}{o:jz}{l:List jz}
theorem Pr (h:rC w b gp B [] T own [] M)(hT:dw M){o:jz}{vp vq vd:Value}{g:Nat}(hP:gN w vp g o.P)(hs:∀s∈o.P,s.size<=9223372036854775807)(hK:o.K=4):
  Calls prog 68 #[cB b o vp vq vd] w (fF w b gp B (lv B M o)):=by
 obtain⟨W,hW,cM,jN,jL,ag⟩:=mI w (cB b o vp vq vd) (zo fy (.slice none 0 0) (.slice none 0 0));obtain⟨qV,oh⟩:=hh2 (zu (vq:=vq) (vd:=vd) (h.keep0 cM) hT (hP.keep cM (by simp)) hs) (wX h hT cM jN jL rfl ag);have av:=h.lt;obtain⟨lU,AZ⟩:=hh2 ag av;have qd:Hid (∀wx,ay [b,gp] W wx->wx.cell? w.heap.size=some (.pointer (some ⟨b,0,none⟩))/\wx.cell? ⟨w.heap.size,5,none⟩=some (.int .i64 o.N)):=λwx hk=>by
  have h1:=jN.keep hk (eD av (by omega));exact⟨by rw[h1.cell];rfl,by rw[h1.cell];rfl⟩
 have lY:Hid (∀wx,ay [b,gp] W wx->(loadVar 91 w.heap.size).run prog wx= .ok (.agg (cB b o vp vq vd)) wx):=λwx hk=>jG (jN.keep hk (eD av (by omega)))
 have tV:Hid ((dc M o.P).2≠0->(ko M o).2=cW (dc M o.P).2):=Ic (.inr (.inr hK));have rO:Hid ((dc M o.P).2=0->o.N<0->(ko M o).2=cW 1):=λhe hn=>by rw[Du hK he,aB hn]
 have xj:Hid ((dc M o.P).2=0->¬o.N<0->832<o.N->(ko M o).2=cW 8):=λhe hn aN=>by rw[Du hK he,aA hn,aB aN]
 have ou:Hid ((dc M o.P).2=0->(nT T (dc M o.P).1).B.length=13/\(nT T (dc M o.P).1).E=[]):=λhe=>by
  obtain⟨f1,f2,f3,f4,-⟩:=mX h hT he;exact⟨f2,f4⟩
 have ak:Hid ((dc M o.P).2=0->∀s:Nat,o.N=(s:Int)->s<=832->(nT T (dc M o.P).1).S<=(s:Int)->∀w4,ay [] W w4->∀v g,bD w4 v g (nT T (dc M o.P).1).E->
   Calls prog 48 #[b,((dc M o.P).1:Int),.agg (aM { nT T (dc M o.P).1 with S:=(s:Int) } v)] w4 (yM w b gp B (lv B M o))):=λhe s hN Mg aC w4 hk v g hr=>size_grow h hT hK cM jL rfl ag he hN Mg aC hk hr
 have ai:Hid ((dc M o.P).2=0->∀s:Nat,o.N=(s:Int)->s<=832->(s:Int)<(nT T (dc M o.P).1).S->∀G,ay [] W G->∀v:Value,v.oneCell'=true->
   Calls prog 120 #[cB b o vp vq vd,aM (nT T (dc M o.P).1) v,(s:Int)] G λe w3=>∃m:bT,e=aM m v/\m.B.length=13/\ay [b,gp] G w3/\∀y w4,W.heap.size<=y->y<G.heap.size->ay [y] w3 w4->bD w4 v 0 []->
   Calls prog 48 #[b,((dc M o.P).1:Int),.agg (aM { m with S:=(s:Int) } v)] w4 (yM w b gp B (lv B M o))):=λhe s hN Mg aC G hk v hv=>aaG h hT hK vp vq vd cM jL rfl ag he hN Mg aC hk hv
 have Gm:=l6;have rH:=dA;have jR:=ar oh.out.err;clear h hT hP hs cM jN jL ag hK av oh;unfold AX at qV;unfold yM at ak ai;rw[lL] at *;generalize fF w b gp B (lv B M o)=Q,cB b o vp vq vd=J,ko M o=DM,o.N=N,aK:aM ck (.slice none 0 0)=Z0 at *;have jy:=ar aK;clear aK;generalize dc M o.P=F at *;obtain⟨x,ee⟩:=F
 dsimp only at *
 have jo:=ar (lY.out W (ay.refl _ _));go_in;go_wp2_with(with_reducible refine gL 91 jo.out ?_);refine qV.out.mono ?_;rintro e U ⟨z,⟨he,rfl⟩|⟨rfl,v,g,rfl,hE,hg⟩⟩
 ·obtain⟨G,q1,q2,q3⟩:=cz (n:=ck) (v:= .slice none 0 0) (bh.new U Z0 75) (by rw[<-jy.out];rfl) rfl rfl
  have eV:ay [] U G:=((ay.refl _ _).alloc _).trans q3 (by intro x hx;rw[au] at hx;omega);obtain⟨wy,s1,s2,s3⟩:=jR.out ee he (tV.out he) G (z.trans' eV);obtain⟨-,c2⟩:=qd.out G ((z.trans' eV).mono (by simp));rw[jy.out] at q1;obtain⟨jw,HS,HL,HF⟩:=hh4 q1 s1 s2 s3;have b1:(ee != 0)=true:=by simpa using he
  clear hW q1 q2 q3 z eV s1 s2 s3 he jR tV rO xj ou ak ai qV qd lY jo lU AZ jy;go_wp2_with(with_reducible first|refine gS 75 jw.out ?_|refine gS 38 HS.out ?_);exact aI (bA results68 rfl HL.out) rfl HF.out
 ·obtain⟨aa,V⟩:=ou.out rfl
  obtain⟨Ey,PJ,ac,ah⟩:=hh4 (rO.out rfl) (xj.out rfl) (ak.out rfl) (ai.out rfl);clear tV rO xj ak ai ou;generalize nT T x=n,(x:Int)=xi at *;obtain⟨G,q1,q2,q3⟩:=cz (n:=n) (v:=v) (bh.new U Z0 75) (by rw[<-jy.out];rfl) aa hE.one;have eV:ay [] U G:=((ay.refl _ _).alloc _).trans q3 (by intro x hx;rw[au] at hx;omega);have kg:=z.trans' eV;have aJ:w.heap.size+2<=U.heap.size:=by have :=z.size;have :=lU.out;omega
  have aD:U.heap.size<G.heap.size:=by have :=q3.size;rw[aX] at this;omega
  obtain⟨jw,vO⟩:=hh2 q1 (lY.out G (kg.mono (by simp)));obtain⟨c1,c2⟩:=qd.out G (kg.mono (by simp));by_cases aL:N<0
  ·obtain⟨wy,s1,s2,s3⟩:=jR.out 1 (by omega) (Ey.out aL) G kg
   obtain⟨HS,HL,HF⟩:=hh3 s1 s2 s3;clear hW q1 q2 q3 z eV kg s1 s2 s3 jR Ey PJ ac ah qV qd lY jo lU AZ jy aJ aD hE hg V aa vO;generalize aM n v=Zn at *;go_wp2_with(with_reducible first|refine gS 75 jw.out ?_|refine gS 38 HS.out ?_);exact aI (bA results68 rfl HL.out) rfl HF.out
  ·by_cases aO:832<N
   ·obtain⟨wy,s1,s2,s3⟩:=jR.out 8 (by omega) (PJ.out (by omega) (by omega)) G kg
    obtain⟨HS,HL,HF⟩:=hh3 s1 s2 s3;clear hW q1 q2 q3 z eV kg s1 s2 s3 jR Ey PJ ac ah qV qd lY jo lU AZ jy aJ aD hE hg V aa vO;generalize aM n v=Zn at *;go_wp2_with(with_reducible first|refine gS 75 jw.out ?_|refine gS 38 HS.out ?_);exact aI (bA results68 rfl HL.out) rfl HF.out
   ·obtain⟨s,rfl⟩:=cA (show 0<=N by omega)
    have Mg:s<=832:=by omega
    have d3:G.cell? ⟨U.heap.size,3,none⟩=some (.int .i64 n.S):=by rw[q2.cell];exact(gG v aa).f3
    by_cases hcut:(s:Int)<n.S
    ·have Mk:=ar (ah.out s rfl Mg hcut G kg v hE.one)
     obtain⟨aF,oP⟩:=hh2 (cg q2 aa) q2;have aH:Hid (bD G v 0 []):=by
      have :=(hE.keep eV (by simp)).anyG (by rw[V];rfl) 0;rw[V] at this;exact this
     obtain⟨nK,SF,aG⟩:=hh3 kg hE.one z.size;clear hW q1 q2 q3 z eV kg jR Ey PJ ac ah qV jo jy hE hg V;generalize W9:aM n v=Zn at *;have WZ:=ar W9;clear W9;go_wp2_with(with_reducible first|refine gS 75 jw.out ?_|refine gL 91 vO.out ?_|refine gL 75 aF.out ?_);refine Mk.out.mono ?_;rintro e w3 ⟨m,rfl,hm,aj,ax⟩;have hl:=AZ.out;obtain⟨w5,q1,q2,q3⟩:=cz (n:=m) (v:=v) (oP.out.keep aj (eD hl (by omega))) (by rw[<-WZ.out];exact zr aa) hm SF.out;have d1:w5.cell? ⟨U.heap.size,3,none⟩=some (.int .i64 m.S):=by rw[q2.cell];exact(gG v hm).f3
     have tS:=Im q2 (s:Int);have po:=q2.frozen 3;have DC:ay [U.heap.size] w3 (w5.setCell ⟨U.heap.size,3,none⟩ (.int .i64 (s:Int))):=q3.setCell (.inl (by simp)) _;have af:bD (w5.setCell ⟨U.heap.size,3,none⟩ (.int .i64 (s:Int))) v 0 []:=(aH.out.keep aj (λh0=>absurd rfl h0)).keep DC (λh0=>absurd rfl h0);have ae:=ar (ax U.heap.size _ aG.out aD DC af);have zK:ay [b,gp] W (w5.setCell ⟨U.heap.size,3,none⟩ (.int .i64 (s:Int))):=((nK.out.mono (by simp)).trans' aj).trans DC (λy hy=>by rw[au] at hy;have :=aG.out;omega);obtain⟨d0,-⟩:=qd.out _ zK;obtain⟨rA,Iy⟩:=hh2 q1 (cg tS (by exact hm));clear q1 q2 q3 tS DC zK af ax aj hl oP aH nK aF vO Mk qd lY WZ jw;generalize aM { m with S:=(s:Int) } v=Z6,aM m v=Zm at *;go_wp2_with(with_reducible first|refine gS 75 rA.out ?_|refine gL 75 Iy.out ?_);refine ae.out.mono ?_;rintro e w7 ⟨r,wy,rfl,s1,s2,s3⟩;obtain⟨HS,HL,HF⟩:=hh3 s1 s2 s3;clear s1 s2 s3 ae;go_wp2_with(with_reducible refine gS 38 HS.out ?_);exact aI (bA results68 rfl HL.out) rfl HF.out
    ·have tS:=Im q2 (s:Int)
     have po:=q2.frozen 3;have az:ay [U.heap.size] G (G.setCell ⟨U.heap.size,3,none⟩ (.int .i64 (s:Int))):=(ay.refl _ _).setCell (.inl (by simp)) _;have zK:ay [] W (G.setCell ⟨U.heap.size,3,none⟩ (.int .i64 (s:Int))):=kg.trans az (λy hy=>by rw[au] at hy;have :=z.size;omega);have af:bD (G.setCell ⟨U.heap.size,3,none⟩ (.int .i64 (s:Int))) v g n.E:=(hE.keep eV (by simp)).keep az (λh0=>absurd (by rw[V];rfl) h0);have ae:=ar (ac.out s rfl Mg (by omega) _ zK v g af);obtain⟨d0,-⟩:=qd.out _ (zK.mono (by simp));have Iy:=ar (cg tS (by exact aa));clear hW q1 q2 q3 z eV kg tS az zK af jR Ey PJ ac ah qV jo jy hE hg V qd lY vO;generalize aM { n with S:=(s:Int) } v=Z6,aM n v=Zn at *;go_wp2_with(with_reducible first|refine gS 75 jw.out ?_|refine gL 75 Iy.out ?_);refine ae.out.mono ?_;rintro e w7 ⟨r,wy,rfl,s1,s2,s3⟩;obtain⟨HS,HL,HF⟩:=hh3 s1 s2 s3;clear s1 s2 s3 ae;go_wp2_with(with_reducible refine gS 38 HS.out ?_);exact aI (bA results68 rfl HL.out) rfl HF.out
def TD (w:World) (xs:List Int) (e:Ending) (w':World):Prop:=
 ∃v g,e=(v:Value)/\eZ w' v g 5 1 xs.length (kS xs)/\(xs.length≠0->w.heap.size<=g/\g<w'.heap.size)/\ay [] w w'
theorem WG{xs:List Int}(h:Reads w v g (kS xs))(hn:xs.length<=10000):
  Calls prog 119 #[v] w (TD w xs):=by
 obtain⟨a,cap,rfl,h1,h2,h3⟩:=h;have e1:=λ(wz:World) (a:Option Addr) (n c:Nat)=>Lib.run_eql_slice_nil (P:= prog) wz 29 5 a n c 0 0 underlying29
 cases a with
 |none=>
  have hz:xs=[]:=by
   by_cases hx:kS xs=[]
   ·cases xs<;>simp_all[kS]
   ·obtain⟨-,off,V,-⟩:=h3 hx;cases V
  subst hz;clear h3;go_in;go_wp2_with fail;go_ret;exact⟨_,0,rfl,eZ.nil _ _ _ _,λh=>absurd rfl h,ay.refl _ _⟩
 |some ad=>
  obtain⟨i0,hi,ae,ag,af⟩:=df acM;have z:∀j u,(kS xs)[j]? =some u->(w.alloc (.cells #[] 5)).cell? (ad.add j)=some u:=by
   intro j u hu;have hj:j<(kS xs).length:=(List.getElem?_eq_some_iff.1 hu).1;obtain⟨hg,off,V,hc⟩:=h3 (by intro e;rw[e] at hj;simp at hj);cases V;have W:(⟨g,off,none⟩:Addr).add j=⟨g,off+j,none⟩:=by unfold Addr.add;split<;>simp_all
   rw[W,aO (w:=w) (jI _ _ _ hg),hc j hj,hu]
  have U:(w.alloc (.cells #[] 5)).ownsRow w.heap.size 5 1 (.slice w.heap.size 0 0) 0 []:=World.ownsRow_made w #[] 0 (aH _) (by simp[maxLen]) (by simp);obtain⟨HC,HO⟩:=hh2 z U;clear z U h3;rw[fH] at h1 ⊢;go_in;go_wp2_with(at_builtin;refine eU _ rfl _ _ 29 rfl w.heap.size 5 i0 (.int .u8 0) 1 1 underlying29 hi ae ag af rfl (by decide) (.slice w.heap.size 0 0) _ _ rfl HO.out ad xs.length cap (kS xs) rfl (by rw[fH];omega) HC.out (wY xs) (by unfold maxLen;omega) (by omega) (by simp) ?_;intro v' w1 J G _);obtain⟨g',V,aa⟩:=eZ.of_row J;have H:TD w xs (.returned v') w1:=by
   refine⟨v',g',rfl,by simpa using V,λah=> ?_,?_⟩
   ·have :=aa (by omega)
    exact⟨this.1,((by simpa using V:eZ w1 v' g' 5 1 xs.length (kS xs)).cell ah).1⟩
   ·have hk:=ay.of_grown (l:=[]) (((World.grownBy_alloc w (.cells #[] 5) none))) (by simp)
    have ac:ay [w.heap.size] (w.alloc (.cells #[] 5)) w1:=ay.of_grown G (by intro k hk;simp[Value.ownBlock] at hk;subst hk;simp);exact hk.trans ac (by simp)
  have HH:=ar H;clear J G V aa H;go_wp2_with fail;go_ret;exact HH.out
theorem aaI{W U:World}{T gd:Nat}{aa:Array Value}{z:List Int}(hb:bh W g aa T)(hc:aa.size=7)(hk:ay [] W U)(hr:Reads U v gd (kS z))(V:z≠[]->n<=gd/\gd≠g):
  ∃G,(storeVar 38 g (.agg (zo { fy with D:=z } v (.slice none 0 0)))).run prog U= .ok () G/\(loadVar 38 g).run prog G= .ok (.agg (zo { fy with D:=z } v (.slice none 0 0))) G/\wU n G { fy with D:=z } (zo { fy with D:=z } v (.slice none 0 0))/\ay [g] U G:=by
 have J:∀wz,ay [g] U wz->wU n wz { fy with D:=z } (zo { fy with D:=z } v (.slice none 0 0)):=λwz ac=>by
  refine⟨_,_,rfl,⟨gd,?_,λh=>(V h).1⟩,0,bD.nil _ 0,λh=>absurd rfl h⟩;by_cases hD:z=[]
  ·subst hD
   obtain⟨ad,cap,e,b1,b2,-⟩:=hr;exact⟨ad,cap,e,b1,b2,λh0=>absurd rfl h0⟩
  ·exact hr.keep ac (by rw[au];exact(V hD).2)
 have hz:=(J U (ay.refl _ _)).at;have h1:=hz.one;have h2:=hz.size;have ae:=hb.keep hk (by simp);generalize af:zo { fy with D:=z } v (.slice none 0 0)=Z at *;obtain⟨zl⟩:=Z;simp only[bN] at h2;obtain⟨G,s1,s2,s3⟩:=bG (P:= prog) (ty:= 38) (cs:=zl) (by rw[h2];exact Fu) ae (by rw[hc,h2]) h1;exact⟨G,s1,zq s2 (J G s3).at,J G s3,s3⟩
theorem WH{n:bT}{a:Nat}{O N:Int}(W:0<=O)(U:0<=N)(G:0<=n.S)(J:n.S<=832)(ha:min O n.S=(a:Int))(V:(a:Int)+min N (n.S-(a:Int))=(t:Int)):
  ((iT X n).drop a).take (t-a)=((qc X n).drop O.toNat).take N.toNat:=by
 have e:qc X n=(iT X n).take n.S.toNat:=by
  unfold qc iT;rw[<-jq,List.take_range,cT (by omega)]
 rw[e,List.drop_take,List.take_take];by_cases h:O<=n.S
 ·have z:a=O.toNat:=by omega
  rw[z]
  congr 1
  omega
 ·rw[show t-a=0 by omega,show min N.toNat (n.S.toNat-O.toNat)=0 by omega,eP,eP]
theorem Ps (b f t:Nat)(U:f<=t)(W:t<=832)(w:World):∃off,(Instr.sliceAt 166 (.pointer (some ⟨b,0,none⟩)) (some (.int .i64 (f:Int))) (some (.int .i64 (t:Int))) none).run prog w= .ok (.slice (some ⟨b,off,none⟩) (t-f) (832-f)) w/\(f<t->off=f):=by
 have J:∀w,(sizeOf (prog.elem 166)).run prog w= .ok 1 w:=λw=>by show Sem.run _ _ _=_;kernel_rfl
 have G: prog.arrayLen 166 =832:=by kernel_rfl
 have z:=run_sliceAt_array_lh (P:= prog) w 166 ⟨b,0,none⟩ (by kernel_rfl) .i64 .i64 (f:Int) (t:Int) (by omega) (by omega) (by rw[G];omega);rw[J,G,aG,aG] at z;by_cases h:f=832
 ·refine⟨0,?_,λV=>by omega⟩
  rw[z];subst h;show Result.ok (Value.slice (some (if 832=832 then _ else _)) (t-832) (832-832)) w=_;rw[aB rfl]
 ·refine⟨f,?_,λ_=>rfl⟩
  rw[z];show Result.ok (Value.slice (some (if 832=f then _ else _)) (t-f) (832-f)) w=_;rw[aA,iJ,add_plain,bc]
theorem acN{T off:Nat}{C:List Int}(z:bh w g (kS C).toArray T)(W:C.length=832)(V:f<=t)(h2:t<=832)(U:f<t->off=f):Reads w (.slice (some ⟨g,off,none⟩) (t-f) (832-f)) g (kS ((C.drop f).take (t-f))):=by
 have h:((C.drop f).take (t-f)).length=t-f:=by rw[aJ,bM];omega
 refine⟨_,832-f,by rw[fH,h],by rw[fH,h];omega,by unfold maxLen;omega,λJ=>⟨z.lt,off,rfl,λj G=> ?_⟩⟩;rw[fH,h] at G;obtain rfl:=U (by omega);rw[z.cell,aF];simp only[kS,bJ,bU,b9];rw[aB G]
theorem Pt (h:rC w b gp B [] T own [] M)(hT:dw M){o:jz}{vp vq vd:Value}{g:Nat}(hP:gN w vp g o.P)(hs:∀s∈o.P,s.size<=9223372036854775807)(hK:o.K=3):
  Calls prog 67 #[cB b o vp vq vd] w (fF w b gp B (lv B M o)):=by
 obtain⟨W,hW,cM,jN,jL,ak⟩:=mI w (cB b o vp vq vd) (zo fy (.slice none 0 0) (.slice none 0 0));obtain⟨qV,oh,lU⟩:=hh3 (zu (vq:=vq) (vd:=vd) (h.keep0 cM) hT (hP.keep cM (by simp)) hs) (wX h hT cM jN jL rfl ak) ak;have qd:Hid (∀G,ay [] W G->G.cell? ⟨w.heap.size,4,none⟩=some (.int .i64 o.O)/\G.cell? ⟨w.heap.size,5,none⟩=some (.int .i64 o.N)):=λG hk=>by
  have h1:=jN.keep hk (by simp);exact⟨by rw[h1.cell];rfl,by rw[h1.cell];rfl⟩
 have lY:Hid (∀G,ay [] W G->(loadVar 91 w.heap.size).run prog G= .ok (.agg (cB b o vp vq vd)) G):=λG hk=>jG (jN.keep hk (by simp))
 have tV:Hid ((dc M o.P).2≠0->(ko M o).2=cW (dc M o.P).2):=Ic (.inr (.inl hK));have rO:Hid ((dc M o.P).2=0->o.O<0\/o.N<0->(ko M o).2=cW 1):=λU hn=>by rw[Kt hK U,aB hn]
 have ou:Hid ((dc M o.P).2=0->(nT T (dc M o.P).1).B.length=13/\0<=(nT T (dc M o.P).1).S/\(nT T (dc M o.P).1).S<=832):=λU=>by
  obtain⟨f1,f2,f3,f4,f5,f6,f7⟩:=mX h hT U;exact⟨f2,f6,f7⟩
 have Le:Hid ((dc M o.P).2=0->∀z,ay [] W z->∀v:Value,Calls prog 116 #[cB b o vp vq vd,aM (nT T (dc M o.P).1) v] z λe w'=>e=(kS (iT (az B []) (nT T (dc M o.P).1))).toArray/\ay [] z w'):=λU z hk v=>by
  obtain⟨f1,f2,f3,-⟩:=mX h hT U;have aW:=hk.size;have :=h.lt;exact xa (h.sh.keep (cM.trans' hk) (by simp) (by simp)) (by omega) h.nd.st.w64 f2 f3 o vp vq vd v
 have Il:Hid ((iT (az B []) (nT T (dc M o.P).1)).length=832):=(kP _ _).1;have av:Hid ((dc M o.P).2=0->∀a t:Nat,0<=o.O->0<=o.N->min o.O (nT T (dc M o.P).1).S=(a:Int)->(a:Int)+min o.N ((nT T (dc M o.P).1).S-(a:Int))=(t:Int)->
   ∀G v gd,ay [] W G->Reads G v gd (kS (((iT (az B []) (nT T (dc M o.P).1)).drop a).take (t-a)))->(((iT (az B []) (nT T (dc M o.P).1)).drop a).take (t-a)≠[]->W.heap.size<=gd)->
   vL (w.heap.size+1) #[(0:Int),(0:Int),(0:Int),(0:Int),(0:Int),v,()] (fF w b gp B (lv B M o)) G):=λU a t hO hN ha ht G v gd hk hr aD=>by
  obtain⟨f1,f2,f3,f4,f5,f6,f7⟩:=mX h hT U;have Sl:=WH (X:=az B []) (n:=nT T (dc M o.P).1) hO hN f6 f7 ha ht;rw[Sl] at hr aD;obtain⟨wy,s1,s2,s3,s4⟩:=aaI (n:=w.heap.size) jL rfl hk hr (λaC=>by have :=aD aC;omega);refine⟨wy,s1,s2,fF.noneAt h ((cM.trans' hk).trans s4 (by intro y hy;rw[au] at hy;omega)) s3 ?_⟩;have hd:=Kt hK U;rw[aA] at hd;have hD:(M (cN M o.P).1).D=qc (az B []) (nT T (dc M o.P).1):=by
   rw[<-f5];exact(h.nd.fileAt f1).2.2.2.2.2.1
  refine .inr (.inr ⟨rfl,by rw[hd];rfl,.inl (by rw[hd,hD]),by rw[hd];exact h.nd.stay⟩)
 have Gm:=l6;have rH:=dA;have jR:=ar oh.out.err;clear h hT hP hs cM jN jL ak hK oh;unfold AX at qV;rw[lL] at *;generalize fF w b gp B (lv B M o)=Q,cB b o vp vq vd=J,ko M o=DM,o.N=N,o.O=O,aP:aM ck (.slice none 0 0)=Z0 at *;have jy:=ar aP;clear aP;generalize dc M o.P=F at *;obtain⟨x,ee⟩:=F
 dsimp only at *
 generalize iT (az B []) (nT T x)=CL at *;have jo:=ar (lY.out W (ay.refl _ _));go_in;go_wp2_with(with_reducible refine gL 91 jo.out ?_);refine qV.out.mono ?_;rintro e w1 ⟨aa,⟨U,rfl⟩|⟨rfl,v,g,rfl,hE,hg⟩⟩
 ·obtain⟨z,q1,q2,q3⟩:=cz (n:=ck) (v:= .slice none 0 0) (bh.new w1 Z0 75) (by rw[<-jy.out];rfl) rfl rfl
  have eV:ay [] w1 z:=((ay.refl _ _).alloc _).trans q3 (by intro x hx;rw[au] at hx;omega);obtain⟨wy,s1,s2,s3⟩:=jR.out ee U (tV.out U) z (aa.trans' eV);rw[jy.out] at q1;obtain⟨jw,HS,HL,HF⟩:=hh4 q1 s1 s2 s3;have b1:(ee != 0)=true:=by simpa using U
  clear hW q1 q2 q3 aa eV s1 s2 s3 U jR tV rO ou Le Il av qV qd lY jo lU jy;go_wp2_with(with_reducible first|refine gS 75 jw.out ?_|refine gS 38 HS.out ?_);exact aI (bA results67 rfl HL.out) rfl HF.out
 ·obtain⟨ac,aG,aO⟩:=ou.out rfl
  obtain⟨Ey,ae,ag⟩:=hh3 (rO.out rfl) (Le.out rfl) (av.out rfl);clear tV rO Le av ou;generalize nT T x=n,(x:Int)=xi at *;obtain⟨z,q1,q2,q3⟩:=cz (n:=n) (v:=v) (bh.new w1 Z0 75) (by rw[<-jy.out];rfl) ac hE.one;have eV:ay [] w1 z:=((ay.refl _ _).alloc _).trans q3 (by intro x hx;rw[au] at hx;omega);have kg:=aa.trans' eV;obtain⟨jw,vO⟩:=hh2 q1 (lY.out z kg);obtain⟨c1,c2⟩:=qd.out z kg;by_cases af:O<0
  ·obtain⟨wy,s1,s2,s3⟩:=jR.out 1 (by omega) (Ey.out (.inl af)) z kg
   obtain⟨HS,HL,HF⟩:=hh3 s1 s2 s3;have b2:decide (O<0)=true:=bu af;clear hW q1 q2 q3 aa eV kg s1 s2 s3 jR Ey ae ag Il qV qd lY jo lU jy hE hg ac vO aG aO;generalize aM n v=Zn at *;go_wp2_with(with_reducible first|refine gS 75 jw.out ?_|refine gS 38 HS.out ?_);exact aI (bA results67 rfl HL.out) rfl HF.out
  ·by_cases XN:N<0
   ·obtain⟨wy,s1,s2,s3⟩:=jR.out 1 (by omega) (Ey.out (.inr XN)) z kg
    obtain⟨HS,HL,HF⟩:=hh3 s1 s2 s3;have b2:decide (O<0)=false:=aQ af;have b3:decide (N<0)=true:=bu XN;clear hW q1 q2 q3 aa eV kg s1 s2 s3 jR Ey ae ag Il qV qd lY jo lU jy hE hg ac vO aG aO;generalize aM n v=Zn at *;go_wp2_with(with_reducible first|refine gS 75 jw.out ?_|refine gS 38 HS.out ?_);exact aI (bA results67 rfl HL.out) rfl HF.out
   ·have aV:z.cell? ⟨w1.heap.size,3,none⟩=some (.int .i64 n.S):=by rw[q2.cell];exact(gG v ac).f3
    obtain⟨a,ha⟩:∃a:Nat,min O n.S=(a:Int):=⟨(min O n.S).toNat,by omega⟩;obtain⟨t,ht⟩:∃t:Nat,(a:Int)+min N (n.S-(a:Int))=(t:Int):=⟨((a:Int)+min N (n.S-(a:Int))).toNat,by omega⟩;have aL:a<=t/\t<=832:=by omega
    have b2:decide (O<0)=false:=aQ af;have b3:decide (N<0)=false:=aQ XN;have aS:IntKind.i64.wrap (n.S-(a:Int))=n.S-(a:Int):=by rw[cy];omega
    have aT:IntKind.i64.wrap (t:Int)=(t:Int):=by rw[cy];omega
    obtain⟨aH,aF,Mk,nK,V⟩:=hh5 (ag.out a t (by omega) (by omega) ha ht) (cg q2 ac) (ae.out z kg v) kg aL;obtain⟨Z8,ai⟩:∃Z8,(kS (List.replicate 832 0)).toArray=Z8:=⟨_,rfl⟩;have aR:=zx;rw[ai] at aR;have xE:Hid (Z8.size=832):=by rw[<-ai];unfold Hid;rw[bN,fH,bE]
    clear ai hW q1 q2 q3 aa eV kg jR Ey ae ag qV qd lY jo jy hE hg ac aL;generalize aM n v=Zn,n.S=S at *;go_wp2_with(with_reducible first|refine gS 75 jw.out ?_|refine gL 91 vO.out ?_|refine gL 75 aF.out ?_);refine Rr Mk.out λw4 ax=> ?_;obtain⟨w5,q1,q2,q3⟩:=bG (P:= prog) (ty:= 166) (cs:=kS CL) (by rw[fH,Il.out];exact vP) (bh.new w4 Z8 166) (by rw[fH,Il.out,xE.out]) (wY _);obtain⟨off,aU,ah⟩:=Ps w4.heap.size a t V.out.1 V.out.2 w5;have RS:ay [] z w5:=((ax.alloc (.cells Z8 166))).trans q3 (by intro x hx;rw[au] at hx;have :=ax.size;omega);have ER:=acN q2 Il.out V.out.1 V.out.2 ah;have K5:((CL.drop a).take (t-a)).length<=10000:=by rw[aJ];have :=V.out;omega
    obtain⟨Mm,rA,aK⟩:=hh3 (WG ER K5) q1 RS;generalize (CL.drop a).take (t-a)=dd at *;generalize t-a=ta,832-a=ca at *;clear q1 q2 q3 ax RS ER K5 ah Mk aF vO jw xE Il V ha ht aS aT;generalize (kS CL).toArray=ZC at *;go_wp2_with(first|(with_reducible refine gS 166 rA.out ?_));refine Mm.out.mono ?_;rintro e w6 ⟨v6,g6,rfl,aj,aN,jv⟩;obtain⟨a6,c6,rfl,-,-⟩:=aj.val;obtain⟨wy,s1,s2,s3⟩:=aH.out w6 _ g6 (nK.out.trans' (aK.out.trans' jv)) aj.reads (λaC=>by
     have h1:=(aN (λe=>aC (bo e))).1;have h2:=(nK.out.trans' aK.out).size;omega)
    obtain⟨HS,HL,HF⟩:=hh3 s1 s2 s3;clear s1 s2 s3 aj aN jv aH Mm;go_wp2_with(with_reducible refine gS 38 HS.out ?_);exact aI (bA results67 rfl HL.out) rfl HF.out
section
variable {X:List Int} {T:List (bT×Value)} {own:Nat->List Nat} {M:Nat->Nd}
theorem acO (h:nL X T own [] M){i:Nat}(hK:(M i).K=1){o m:Nat}(ho:o+m<=832)(po:(fK (nT T i).B (o/64) (bL (o+m))).length<=(aZ X).length):lD (Tn X (nT T i) o m).B/\(Tn X (nT T i) o m).B.length=13:=by
 obtain⟨aF,hk,hf,ht,hi,hd,hB⟩:=h.fileAt hK;have hS:=hf.1;have ai:bL (o+m)<=13:=by unfold bL;omega
 generalize hn:nT T i=n at *;generalize Rp:fK n.B (o/64) (bL (o+m))=z at *;have aa:∀k,k∈z↔k<bL (o+m)/\o/64<=k/\n.B.getD k 0=0:=λk=>by rw[<-Rp];exact zk
 have EY:z.Nodup:=by rw[<-Rp];exact Et _ _ _
 have aB:z.length<=13:=by rw[<-Rp];exact cG (vK _ _ _) ai
 have U:=h.opened hi;rw[hn] at U;obtain⟨t1,t2,t3,t4,t5⟩:=U.st.take z.length;have Zz:=U.step t1 t2 (by simp);have ac:∀c∈(aZ X).take z.length,c≠0/\c<256:=qy;have K5:((aZ X).take z.length).Nodup:=sx;have ar:∀c∈(aZ X).take z.length,dG X c=false:=λc hc=>(ku.1 (bO hc)).2.2
 have ae:((aZ X).take z.length).length=z.length:=by rw[aJ];omega
 have hw:(Tn X n o m).B=jF n.B z ((aZ X).take z.length) z.length:=by unfold Tn;rw[Rp]
 rw[hw];clear hw;have ax:∀k,k∉z->(jF n.B z ((aZ X).take z.length) z.length).getD k 0=n.B.getD k 0:=λk G=>zn (aH _) (by rw[gy];exact G)
 have ak:∀m,m<z.length->(jF n.B z ((aZ X).take z.length) z.length).getD (z.getD m 0) 0=((((aZ X).take z.length).getD m 0:Nat):Int):=λm hm=>LV EY (λk G=>by have :=((aa k).1 G).1;omega) (aH _) hm
 have au:=oF n.B z ((aZ X).take z.length) z.length;have ag:=λb=>AV (l:=(aZ X).take z.length) hB EY (λk G=>by have :=(aa k).1 G;exact⟨by omega,this.2.2⟩) ae (λc hc=>(ac c hc).1) b (j:=z.length) (aH _)
 have aI:og X (az X (dm X ((aZ X).take z.length))) 108:=og.puts (L:=uy++Es ((aZ X).take z.length)) (by rw[aC,vJ,ae];simp[uy];omega) λp hp=>by
  rw[aT];rcases qD _ _ p hp with h6|h6
  ·exact .inl (sF h6)
  ·exact .inr (zh h6.1 h6.2)
 generalize hl:(aZ X).take z.length=l at *;generalize aK:az X (dm X l)=X1,ay:jF n.B z l z.length=B' at *;rw[aW (by omega)] at ag
 -- what each place has
 have J:∀k,k<13->(B'.getD k 0=n.B.getD k 0/\k∉z)\/(n.B.getD k 0=0/\∃q,q<z.length/\z.getD q 0=k/\B'.getD k 0=((l.getD q 0:Nat):Int)/\l.getD q 0∈l):=λk G=>by
  by_cases hm:k∈z
  ·right
   obtain⟨m,WW,ah⟩:=bW hm;have W:z.getD m 0=k:=by rw[<-ah];simp[WW]
   refine⟨((aa k).1 hm).2.2,m,WW,W,by rw[<-W];exact ak m WW,?_⟩;rw[aj,aD (by omega)];exact bF _
  ·exact .inl ⟨ax k hm,hm⟩
 have Ek:∀k,k<13->n.B.getD k 0≠0->(n.B.getD k 0).toNat∉l:=λk G hb hc=>by
  have h1:=ar _ hc;have h2:=U.st.usedEx (Hx hB G hb);rw[h1] at h2;cases h2
 have av:lD B':=λk G=>by
  have hr:=mQ hf.2.2.2 G;rcases J k G with ⟨W,-⟩|⟨e0,m,hm,e2,W,JU⟩
  ·refine⟨by rw[W];exact hr,λV j hj=> ?_⟩
   rw[W] at V ⊢;rcases J j (by omega) with ⟨f1,-⟩|⟨-,m',-,-,f1,af⟩
   ·rw[f1];exact(hf.2.2.2 k G).2 V j hj
   ·rw[f1]
    intro e3;exact Ek k G V (by rw[<-e3,aG];exact af)
  ·have :=ac _ JU
   refine⟨by rw[W];omega,λV j hj=> ?_⟩;rw[W];rcases J j (by omega) with ⟨f1,-⟩|⟨-,m',aA,f2,f1,af⟩
   ·rw[f1]
    intro e3;exact Ek j (by omega) (by omega) (by rw[e3,aG];exact JU)
   ·rw[f1]
    intro e3;have e4:l.getD m' 0=l.getD m 0:=by omega
    rw[aj,aD (by omega),aj,aD (by omega)] at e4;have :=zm K5 _ _ e4;subst this;omega
 exact⟨av,by rw[au,hB]⟩
end
def aaJ (w:World) (b G:Nat) (B:List Int) (c:Int) (R:mM->List (Int×Int)->Prop) (e:Ending) (z:World):Prop:=
 ∃r h,e=(r:Int)/\(storeVar 38 (w.heap.size+1:Nat) (.agg #[(r:Int),c,(0:Int),(0:Int),(0:Int),(),()])).run prog z= .ok () h/\(loadVar 38 (w.heap.size+1:Nat)).run prog h= .ok (.agg #[(r:Int),c,(0:Int),(0:Int),(0:Int),(),()]) h/\fF w b G B R (.returned (.agg #[(r:Int),c,(0:Int),(0:Int),(0:Int),(),()])) h
section
variable {w W:World} {b gp:Nat} {B:List Int} {T:List (bT×Value)} {own:Nat->List Nat} {M:Nat->Nd} {o:jz} {cur:Array Value}
theorem WI (h:rC w b gp B [] T own [] M)(cM:ay [] w W)(jL:bh W (w.heap.size+1) cur 38)(hc:cur.size=7)(ae:W.heap.size=w.heap.size+2){G:World}{ps:List (Int×Int)}(z:ay [b,gp] W G){J:Nat}(af:J=gp\/(W.heap.size<=J/\J<G.heap.size))(aa:eK G b J B ps)(ag:ps.length<=2000)(ac:In64 (az B ps)){i:Nat}{n:bT}{v:Value}(hB:n.B.length=13)(hE:n.E=[])(hr:bD G v 0 n.E){c:Int}
  (hR:∀r qs,nU (az B ps) (i:Int) n r qs->lv B M o { fy with E:=r,N:=c } (ps++qs)):
  Calls prog 48 #[b,(i:Int),aM n v] G (aaJ w b gp B c (lv B M o)):=by
 have U:=h.lt;have ah:=z.size;have hT:∀wx,ay [b,J] G wx->kN wx:=Io h.tab ((cM.mono (by simp)).trans' z) (by omega);refine(sB aa ac hT (by omega) (by omega) (i:Int) n v 0 hB hr (λk hk=>by rw[hE] at hk;simp at hk) (λh0=>by rw[hE] at h0;simp at h0)).mono ?_;rintro e w5 ⟨r,qs,V,rfl,e1,e2,e3,e4,e5⟩;have ai:=e3.size;have lh:ay [b,gp] W w5:=z.trans e3 λx hx=>by
  simp only[aL,aK,bC] at hx ⊢;omega
 obtain⟨wy,s1,s2,s3,s4⟩:=yJ (r:={ fy with E:=r,N:=c }) (Z:= #[.int .i64 r,.int .i64 c,.int .i64 0,.int .i64 0,.int .i64 0,.slice none 0 0,.slice none 0 0]) jL hc lh (eD U (by omega)) rfl rfl rfl;refine⟨r,wy,rfl,s1,s2,fF.some U cM (by omega) (Rq:=λ_ q=>lv B M o { fy with E:=r,N:=c } q) (m:=2700) ⟨r,ps++qs,V,rfl,by omega,by rw[bQ];exact e2,lh,by rw[aC];omega,hR r qs e5⟩ (by omega) s4 s3 λ_ hq=>hq⟩
theorem R3 (V:o.K=2)(G:(dc M o.P).2=0){f:Nat}(U:o.O=(f:Int))(J:o.D≠[])(hf:f+o.D.length<=832){qs:List (Int×Int)}(z:Goes B qs [] (nu M (dc M o.P).1 { M (dc M o.P).1 with D:=xk (M (dc M o.P).1).D f o.D }) 400):lv B M o { fy with E:=0,N:=(o.D.length:Int) } qs:=by
 have h:=tO V G;rw[aA,aA,aA J,U,aG] at h;rw[(pX G).2.2] at z;exact .inr (.inr ⟨rfl,by rw[h];rfl,.inl (by rw[h];rfl),by rw[h];exact z.lands (aH _)⟩)
theorem Ip (z:o.K=2)(U:(dc M o.P).2=0){f:Nat}(hO:o.O=(f:Int))(G:o.D≠[])(V:f+o.D.length<=832)(J:(aZ B).length<40){qs:List (Int×Int)}(c:Int):lv B M o { fy with E:=7,N:=c } qs:=by
 have h:=tO z U;rw[aA,aA,aA G] at h;exact .inl ⟨rfl,by rw[z];rfl,.inl (by rw[h];rfl),.inl J⟩
theorem WJ (h:rC w b gp B [] T own [] M)(hT:dw M)(hK:o.K=2)(vp vq vd:Value)(cM:ay [] w W)(jL:bh W (w.heap.size+1) cur 38)(hc:cur.size=7)(aa:W.heap.size=w.heap.size+2)(he:(dc M o.P).2=0){f:Nat}(hO:o.O=(f:Int))(Zy:o.D≠[])(J:f+o.D.length<=832)(G:∀x∈o.D,0<=x/\x<256)
  (po:(fK (nT T (dc M o.P).1).B (f/64) (bL (f+o.D.length))).length<=(aZ (az B [])).length) {wf w4 w5:World} (U:ay [] W wf) {y:Nat} (hy:W.heap.size<=y) (aj:y<wf.heap.size) (hp:vR wf w4 b gp B ([]++dm (az B []) ((aZ (az B [])).take (fK (nT T (dc M o.P).1).B (f/64) (bL (f+o.D.length))).length))) (lh:ay [y] w4 w5) {v:Value} (hr:bD w5 v 0 []):
  Calls prog 118 #[cB b o vp vq vd,aM (Tn (az B []) (nT T (dc M o.P).1) f o.D.length) v,(kS (tN (iT (az B []) (nT T (dc M o.P).1)) f o.D)).toArray] w5 λe z=>e= .returned (.tuple #[])/\ay [b,gp] W z/\(∀{C:Array Value} {t:Nat},bh w5 y C t->bh z y C t)/\
   Calls prog 48 #[(b:Nat),((dc M o.P).1:Int),aM (Tn (az B []) (nT T (dc M o.P).1) f o.D.length) v] z (aaJ w b gp B (o.D.length:Int) (lv B M o)):=by
 obtain⟨f1,f2,f3,f4,f5,f6,f7⟩:=mX h hT he;obtain⟨n1,n2⟩:=acO h.nd f1 J po;have ak:=h.lt;have V:=Ev (kP (az B []) (nT T (dc M o.P).1)) J G;obtain⟨g4,p1,p2,p3⟩:=hp;rw[bQ] at p2;have ax:=U.size;have ar:=p3.size;have ai:=lh.size;have ac:=p2.keep lh (by rw[au];omega) (by rw[au];omega);have aA:=h.nd.st.w64;obtain⟨t1,-⟩:=(h.nd.opened (h.nd.rng (i:=(dc M o.P).1) (by omega))).st.take (fK (nT T (dc M o.P).1).B (f/64) (bL (f+o.D.length))).length;have af:=t1.w64;have ag:(dm (az B []) ((aZ (az B [])).take (fK (nT T (dc M o.P).1).B (f/64) (bL (f+o.D.length))).length)).length<=1000:=by
  rw[qj _ _ (λb hb=>qy b hb)];have h1:=vK (nT T (dc M o.P).1).B (f/64) (bL (f+o.D.length));have h2:bL (f+o.D.length)<=13:=by unfold bL;omega
  rw[aJ];omega
 refine Rr (Ac ac (by omega) (by omega) n2 n1 V o vp vq vd v) ?_;rintro z ⟨g6,e1,e2,e3⟩;have av:=e3.size;have jv:ay [b,gp] W z:=(((U.mono (by simp)).trans' p3).trans lh (λx hx=>by rw[au] at hx;omega)).trans e3 (λx hx=>by
  simp only[aL,aK,bC] at hx ⊢;omega)
 refine⟨rfl,jv,λ{C t} hb=>hb.keep e3 (by simp only[aL,aK,bC];omega),?_⟩;have ah:=tM (Tn (az B []) (nT T (dc M o.P).1) f o.D.length).B (tN (iT (az B []) (nT T (dc M o.P).1)) f o.D) 13;refine WI h cM jL hc aa jv (by omega) e2 (by rw[aC];omega) (by rw[bz];exact zi (n:=Tn (az B []) (nT T (dc M o.P).1) f o.D.length) af V) n2 f4 (by show bD z v 0 (nT T (dc M o.P).1).E;rw[f4];exact hr.keep e3 (λh0=>absurd rfl h0)) λr qs hp=> ?_
 rw[bz] at hp;rcases h.nd.write f1 Zy G J po hp with ⟨rfl,ae⟩|⟨rfl,hg⟩
 ·exact Ip hK he hO Zy J ae _
 ·rw[aV]
  exact R3 hK he hO Zy J hg
end
theorem DD{T:Nat}{n:bT}{h:Array Value}(G:aM n v=h)(z:bh w g h T)(J:n.B.length=13):(loadVar 75 g).run prog w= .ok (.agg h) w:=by
 subst G;exact cg z J
theorem Mc (h:rC w b gp B [] T own [] M)(hT:dw M){o:jz}{vp vq vd:Value}{g:Nat}(hP:gN w vp g o.P)(hs:∀s∈o.P,s.size<=9223372036854775807)(hK:o.K=2){gd:Nat}(aL:Reads w vd gd (kS o.D))(bf:∀x∈o.D,0<=x/\x<256):
  Calls prog 66 #[cB b o vp vq vd] w (fF w b gp B (lv B M o)):=by
 obtain⟨W,hW,cM,jN,jL,aF⟩:=mI w (cB b o vp vq vd) (zo fy (.slice none 0 0) (.slice none 0 0));obtain⟨qV,oh,lU⟩:=hh3 (zu (vq:=vq) (vd:=vd) (h.keep0 cM) hT (hP.keep cM (by simp)) hs) (wX h hT cM jN jL rfl aF) aF;have aH:=h.lt;have AZ:=ar aH;have qd:Hid (∀z,ay [b,gp] W z->z.cell? w.heap.size=some (.pointer (some ⟨b,0,none⟩))/\z.cell? ⟨w.heap.size,4,none⟩=some (.int .i64 o.O)/\z.cell? ⟨w.heap.size,6,none⟩=some vd):=λz V=>by
  have h1:=jN.keep V (eD aH (by omega));exact⟨by rw[h1.cell];rfl,by rw[h1.cell];rfl,by rw[h1.cell];rfl⟩
 have lY:Hid (∀z,ay [b,gp] W z->(loadVar 91 w.heap.size).run prog z= .ok (.agg (cB b o vp vq vd)) z):=λz V=>jG (jN.keep V (eD aH (by omega)))
 have tV:Hid ((dc M o.P).2≠0->(ko M o).2=cW (dc M o.P).2):=Ic (.inl hK);have rO:Hid ((dc M o.P).2=0->o.O<0->(ko M o).2=cW 1):=λU hn=>by rw[tO hK U,aB hn]
 have xj:Hid ((dc M o.P).2=0->0<=o.O->832-(o.D.length:Int)<o.O->(ko M o).2=cW 8):=λU hn bM=>by rw[tO hK U,aA,aB]
 have Gz:Hid ((dc M o.P).2=0->0<=o.O->¬832-(o.D.length:Int)<o.O->o.D.length=0->∀z,ay [] W z->vL (w.heap.size+1) #[(0:Int),(0:Int),(0:Int),(0:Int),(0:Int),(),()] (fF w b gp B (lv B M o)) z):=λU hn bM hl z V=>by
  obtain⟨wy,s1,s2,s3,s4⟩:=lM jL rfl V (by simp) 0;have hd:=tO hK U;have bw:=bo hl;rw[aA,aA,aB bw] at hd;exact⟨wy,s1,s2,fF.none h ((cM.trans' V).trans s4 (by intro y hy;rw[au] at hy;omega)) s3 (.inr (.inr ⟨rfl,by rw[hd];rfl,.inl (by rw[hd];rfl),by rw[hd];exact h.nd.stay⟩))⟩
 have ba:Hid ((dc M o.P).2=0->∀f:Nat,o.O=(f:Int)->o.D.length≠0->f+o.D.length<=832->(aZ (az B [])).length<40->∀z,ay [] W z->vL (w.heap.size+1) #[(7:Int),(0:Int),(0:Int),(0:Int),(0:Int),(),()] (fF w b gp B (lv B M o)) z):=λU f hO hl hf af z V=>by
  obtain⟨wy,s1,s2,s3,s4⟩:=lM jL rfl V (by simp) 7;exact⟨wy,s1,s2,fF.none h ((cM.trans' V).trans s4 (by intro y hy;rw[au] at hy;omega)) s3 (Ip hK U hO (λe=>hl (by rw[e];rfl)) hf af 0)⟩
 have ou:Hid ((dc M o.P).2=0->(nT T (dc M o.P).1).B.length=13/\0<=(nT T (dc M o.P).1).S/\(nT T (dc M o.P).1).S<=832/\(nT T (dc M o.P).1).E=[]):=λU=>by
  obtain⟨f1,f2,f3,f4,f5,f6,f7⟩:=mX h hT U;exact⟨f2,f6,f7,f4⟩
 have Le:Hid ((dc M o.P).2=0->∀G,ay [] W G->∀v:Value,Calls prog 116 #[cB b o vp vq vd,aM (nT T (dc M o.P).1) v] G λe w'=>e=(kS (iT (az B []) (nT T (dc M o.P).1))).toArray/\ay [] G w'):=λU G V v=>by
  obtain⟨f1,f2,f3,-⟩:=mX h hT U;have bV:=V.size;exact xa (h.sh.keep (cM.trans' V) (by simp) (by simp)) (by omega) h.nd.st.w64 f2 f3 o vp vq vd v
 have Il:Hid ((iT (az B []) (nT T (dc M o.P).1)).length=832):=(kP _ _).1;have Vl:Hid ((dc M o.P).2=0->∀f:Nat,f+o.D.length<=832->∀G,ay [] W G->∀v:Value,v.oneCell'=true->Calls prog 117 #[cB b o vp vq vd,aM (nT T (dc M o.P).1) v,(f:Int),.int .i64 ((f:Int)+(o.D.length:Int))] G (Pm G b gp B [] (nT T (dc M o.P).1) v (fK (nT T (dc M o.P).1).B (f/64) (bL (f+o.D.length))))):=λU f hf G V v hv=>by
  obtain⟨f1,f2,f3,-⟩:=mX h hT U;have bV:=V.size;have :=WB (h.sh.keep (cM.trans' V) (by simp) (by simp)) h.nd.st.w64 (λz hx=>h.tab z (((cM.trans' V).mono (by simp)).trans' hx)) (by omega) (by simp) f2 o vp vq vd hv f (f+o.D.length) (by omega) hf;rwa[Int.natCast_add] at this
 have M8:Hid (∀f:Nat,f+o.D.length<=832->(fK (nT T (dc M o.P).1).B (f/64) (bL (f+o.D.length))).length<=13):=λf hf=>cG (vK _ _ _) (by unfold bL;omega)
 have aD:=ar (λ(U:(dc M o.P).2=0) (f:Nat) (hO:o.O=(f:Int)) (Zy:o.D.length≠0) (hf:f+o.D.length<=832) po wf w4 w5 bW y hy bR hp lh v hr=>WJ h hT hK vp vq vd cM jL rfl aF U hO (λe=>Zy (by rw[e];rfl)) hf bf po (wf:=wf) (w4:=w4) (w5:=w5) bW (y:=y) hy bR hp lh (v:=v) hr);obtain⟨ad,aO,rfl,cm,bl,-⟩:=id aL;rw[fH] at *;have ae:Hid (∀z,ay [] W z->Reads z (.slice ad o.D.length aO) gd (kS o.D)):=λz V=>aL.keep (cM.trans' V) (by simp)
 have Gm:=l6;have rH:=dA;have jR:=ar oh.out.err;clear h hT hP hs cM jN jL aF hK oh aH aL bf;unfold AX at qV;rw[lL] at *;unfold aaJ at aD;generalize fF w b gp B (lv B M o)=Q,cB b o vp vq (.slice ad o.D.length aO)=J,ko M o=DM,o.O=O at *;generalize o.D=D,bz:aM ck (.slice none 0 0)=Z0 at *;have jy:=ar bz;clear bz;generalize dc M o.P=F at *;obtain⟨x,ee⟩:=F
 dsimp only at *
 generalize iT (az B []) (nT T x)=CL at *;have jo:=ar (lY.out W (ay.refl _ _));have cf:aO<=9223372036854775807:=by unfold maxLen at bl;omega
 have bX:IntKind.i64.wrap (832-(D.length:Int))=832-(D.length:Int):=by rw[cy];omega
 clear bl;go_in;go_wp2_with(with_reducible refine gL 91 jo.out ?_);refine qV.out.mono ?_;rintro e w1 ⟨aa,⟨U,rfl⟩|⟨rfl,v,g,rfl,hE,hg⟩⟩
 ·obtain⟨G,q1,q2,q3⟩:=cz (n:=ck) (v:= .slice none 0 0) (bh.new w1 Z0 75) (by rw[<-jy.out];rfl) rfl rfl
  have eV:ay [] w1 G:=((ay.refl _ _).alloc _).trans q3 (by intro x hx;rw[au] at hx;omega);obtain⟨-,c2,c3⟩:=qd.out G ((aa.trans' eV).mono (by simp));have nK:=ar (aa.trans' eV);rw[jy.out] at q1;obtain⟨jw,bn⟩:=hh2 q1 (jR.out ee U (tV.out U));have b1:(ee != 0)=true:=by simpa using U
  clear hW q1 q2 q3 aa eV U jR tV rO xj Gz ba ou Le Il Vl M8 aD ae qV qd lY jo lU AZ jy;go_wp2_with(with_reducible refine gS 75 jw.out ?_)
  go_quiet (fail)
  obtain⟨wy,s1,s2,s3⟩:=bn.out (G.drewN nq) (nK.out.drewN nq);obtain⟨HS,HL,HF⟩:=hh3 s1 s2 s3;clear s1 s2 s3 bn nK jw;generalize G.drewN nq=w3 at *;go_wp2_with(with_reducible refine gS 38 HS.out ?_);exact aI (bA results66 rfl HL.out) rfl HF.out
 ·obtain⟨bb,bZ,cj,aT⟩:=ou.out rfl
  obtain⟨Ey,PJ,aj,ah,av,ak,ac⟩:=hh7 (rO.out rfl) (xj.out rfl) (Gz.out rfl) (ba.out rfl) (Le.out rfl) (Vl.out rfl) (aD.out rfl);clear tV rO xj Gz ba Le Vl aD ou;generalize nT T x=n,(x:Int)=xi at *;obtain⟨G,q1,q2,q3⟩:=cz (n:=n) (v:=v) (bh.new w1 Z0 75) (by rw[<-jy.out];rfl) bb hE.one;have eV:ay [] w1 G:=((ay.refl _ _).alloc _).trans q3 (by intro x hx;rw[au] at hx;omega);have jw:=ar q1;obtain⟨-,c2,c3⟩:=qd.out G ((aa.trans' eV).mono (by simp));obtain⟨GZ,oP⟩:=hh2 (aa.trans' eV) q2;have bj:Hid (W.heap.size<=w1.heap.size):=aa.size;have SF:=ar hE.one;have RR:Hid (w1.heap.size<G.heap.size):=q2.lt;have rz:Hid (bD G v 0 []):=by
   have :=(hE.keep eV (by simp)).anyG (by rw[aT];rfl) 0;rw[aT] at this;exact this
  have Br:=ar bb;clear hW q1 q2 q3 aa eV hE hg qV jo aT bb;generalize W9:aM n v=Zn at *;have WZ:=ar W9;clear W9;go_wp2_with(with_reducible refine gS 75 jw.out ?_)
  go_quiet (fail)
  obtain⟨nK,qK⟩:=hh2 (GZ.out.drewN nq) (oP.out.drewN nq);have WK:Hid (w1.heap.size<(G.drewN nq).heap.size):=RR.out;have ai:Hid (bD (G.drewN nq) v 0 []):=rz.out.keep ((ay.refl [] G).drewN nq) (λh0=>absurd rfl h0);clear GZ oP RR rz jw;generalize G.drewN nq=w3 at *;by_cases bJ:O<0
  ·obtain⟨wy,s1,s2,s3⟩:=jR.out 1 (by omega) (Ey.out bJ) w3 nK.out
   obtain⟨HS,HL,HF⟩:=hh3 s1 s2 s3;clear s1 s2 s3 jR Ey PJ aj ah av ak ac Il M8 ae qd lY lU AZ jy nK qK WK ai;go_wp2_with(with_reducible refine gS 38 HS.out ?_);exact aI (bA results66 rfl HL.out) rfl HF.out
  ·by_cases XN:832-(D.length:Int)<O
   ·obtain⟨wy,s1,s2,s3⟩:=jR.out 8 (by omega) (PJ.out (by omega) XN) w3 nK.out
    obtain⟨HS,HL,HF⟩:=hh3 s1 s2 s3;clear s1 s2 s3 jR Ey PJ aj ah av ak ac Il M8 ae qd lY lU AZ jy nK qK WK ai;go_wp2_with(with_reducible refine gS 38 HS.out ?_);exact aI (bA results66 rfl HL.out) rfl HF.out
   ·by_cases ag:D.length=0
    ·obtain⟨wy,s1,s2,s3⟩:=aj.out (by omega) (by omega) ag w3 nK.out
     obtain⟨HS,HL,HF⟩:=hh3 s1 s2 s3;have b4:((D.length:Int)==0)=true:=by rw[ag];rfl
     clear s1 s2 s3 jR Ey PJ aj ah av ak ac Il M8 ae qd lY lU AZ jy nK qK WK ai ag;go_wp2_with(with_reducible refine gS 38 HS.out ?_);exact aI (bA results66 rfl HL.out) rfl HF.out
    ·have b4:((D.length:Int)==0)=false:=by simpa using ag
     obtain⟨f,rfl⟩:=cA (show 0<=O by omega);have af:f+D.length<=832:=by omega
     have cd:IntKind.i64.wrap ((f:Int)+(D.length:Int))=(f:Int)+(D.length:Int):=by rw[cy];omega
     have aX:=av.out w3 nK.out v;rw[WZ.out] at aX;have Mk:=ar aX;clear aX;have qa:=DD WZ.out qK.out Br.out;obtain⟨bu,yL⟩:=hh2 qa (lY.out w3 (nK.out.mono (by simp)));obtain⟨Z8,aR⟩:∃Z8,(kS (List.replicate 832 0)).toArray=Z8:=⟨_,rfl⟩;have bH:=zx;rw[aR] at bH;have xE:Hid (Z8.size=832):=by rw[<-aR];unfold Hid;rw[bN,fH,bE]
     clear aR qa Ey PJ aj jR av;go_wp2_with(with_reducible first|refine gL 91 yL.out ?_|refine gL 75 bu.out ?_);refine Rr Mk.out λw4 aG=> ?_;obtain⟨w5,q1,q2,q3⟩:=bG (P:= prog) (ty:= 166) (cs:=kS CL) (by rw[fH,Il.out];exact vP) (bh.new w4 Z8 166) (by rw[fH,Il.out,xE.out]) (wY _);have bO:=uI w4.heap.size f (by omega);have tU:ay [] w3 w5:=((aG.alloc (.cells Z8 166))).trans q3 (by intro x hx;rw[au] at hx;have :=aG.size;omega);have Jl:=nK.out.trans' tU;obtain⟨r,w6,zT,tS,jv⟩:=TC (w:=w5.drew) (o:=f) (n:=832-f) (cap:=832-f) q2.drew (ae.out _ Jl.drew) (by rw[Il.out];omega);rw[show CL.take f++D.take (832-f)++CL.drop (f+min D.length (832-f))=tN CL f D by unfold tN;rw[aW (l:=D) (by omega),cT (by omega),aV]] at tS;obtain⟨-,-,c6⟩:=qd.out w5 (Jl.mono (by simp));have Nh:=zT 3;have bv:w3.heap.size<=w4.heap.size:=aG.size;have bK:w5.heap.size<=w6.heap.size:=jv.size;have DC:ay [] w3 w6:=(tU.drew).trans jv (by intro x hx;rw[au] at hx;omega);have zK:=nK.out.trans' DC;obtain⟨DA,SE⟩:=hh2 (lY.out w6 (zK.mono (by simp))) (qK.out.keep DC (by simp));have qa:=DD WZ.out SE.out Br.out;have WC:=ar qa;have aK:=ak.out f af w6 zK v SF.out;rw[WZ.out] at aK;have Qy:=ar aK;clear aK;obtain⟨Va,aS,rA,aU⟩:=hh4 zK tS q1 (ai.out.keep DC (λh0=>absurd rfl h0));have bQ:Hid (w1.heap.size<w6.heap.size/\w4.heap.size<w6.heap.size/\w3.heap.size<=w4.heap.size/\w1.heap.size<w3.heap.size):=⟨bS WK.out DC.size,tS.lt,bv,WK.out⟩;clear q1 q2 q3 aG tU Jl zT tS jv DC zK qa Mk bu yL xE qK ae ai WK bv bK ak;go_wp2_with(with_reducible refine gS 166 rA.out ?_);go_region_with (fail)
     clear rA Nh c6 bO;go_wp2_with(with_reducible first|refine gL 91 DA.out ?_|refine gL 75 WC.out ?_);refine Qy.out.mono ?_;rintro e w7 (⟨po,rfl,xw⟩|⟨po,rfl,bc⟩)
     ·obtain⟨w8,q1,q2,q3⟩:=cz (n:=ck) (v:= .slice none 0 0) (SE.out.keep xw (by simp)) (by rw[<-WZ.out];exact zr Br.out) rfl rfl
      have bI:=M8.out f af;obtain⟨wy,s1,s2,s3⟩:=ah.out f rfl ag af (by omega) w8 ((Va.out.trans' xw).trans q3 (by intro y hy;rw[au] at hy;have :=bj.out;omega));rw[jy.out] at q1 ⊢;obtain⟨aP,HS,HL,HF⟩:=hh4 q1 s1 s2 s3;clear q1 q2 q3 s1 s2 s3 bI po xw ah ac Qy DA WC qd lY SE aS Va aU;go_wp2_with(with_reducible first|refine gS 75 aP.out ?_|refine gS 38 HS.out ?_);exact aI (bA results66 rfl HL.out) rfl HF.out
     ·have hl:=AZ.out
      obtain⟨z1,z2,z3,z4⟩:=bQ.out;have bB:=bj.out;obtain⟨g7,-,-,k7⟩:=id bc;have aY:∀y,W.heap.size<=y->y∉[b,gp]:=λy hy=>eD hl (by have :=lU.out;omega)
      have b6:=nK.out.size;have bq:Tn (az B []) n f D.length={ n with B:=jF n.B (fK n.B (f/64) (bL (f+D.length))) ((aZ (az B [])).take (fK n.B (f/64) (bL (f+D.length))).length) (fK n.B (f/64) (bL (f+D.length))).length,S:=max n.S ((f+D.length:Nat):Int) }:=rfl;have aC:=λw9 PF bU=>ac.out f rfl ag af po w6 w7 w9 Va.out w1.heap.size bB z1 bc PF v bU
      rw[bq,Int.natCast_add] at aC;obtain⟨fb,aQ⟩:∃fb,jF n.B (fK n.B (f/64) (bL (f+D.length))) ((aZ (az B [])).take (fK n.B (f/64) (bL (f+D.length))).length) (fK n.B (f/64) (bL (f+D.length))).length=fb:=⟨_,rfl⟩;have Pv:fb.length=13:=by rw[<-aQ,oF];exact Br.out
      rw[aQ] at aC ⊢;obtain⟨mS,bP⟩:∃mS,max n.S ((f:Int)+(D.length:Int))=mS:=⟨_,rfl⟩;rw[bP] at aC;obtain⟨w8,q1,q2,q3⟩:=cz (n:={ n with B:=fb }) (v:=v) (SE.out.keep k7 (aY _ bB)) (by rw[<-WZ.out];exact zr Br.out) Pv SF.out;have d3:w8.cell? ⟨w1.heap.size,3,none⟩=some (.int .i64 n.S):=by rw[q2.cell];exact(gG (n:={ n with B:=fb }) v Pv).f3
      have b9:=q2.frozen 3;have EJ:=Im q2 mS;have ax:ay [w1.heap.size] w7 (w8.setCell ⟨w1.heap.size,3,none⟩ (.int .i64 mS)):=q3.setCell (.inl (by simp)) _;have aN:ay [b,gp] W (w8.setCell ⟨w1.heap.size,3,none⟩ (.int .i64 mS)):=((Va.out.mono (by simp)).trans' k7).trans ax (λy hy=>by rw[au] at hy;omega);obtain⟨BI,aP,br,bg,bt,XZ,bC⟩:=hh7 (aC _ ax ((aU.out.keep k7 (λh0=>absurd rfl h0)).keep ax (λh0=>absurd rfl h0))) q1 (lY.out _ aN) (cg EJ (by exact Pv)) (zy ((aS.out.keep k7 (aY _ (by omega))).keep ax (by rw[au];omega)) (by unfold tN;simp[Il.out];omega)) EJ Pv;obtain⟨c0,c4,-⟩:=qd.out _ aN;clear q1 q2 q3 EJ ax aN aC bq aQ bc k7 aY Qy DA WC SE aS aU ah ac Pv lY po Il M8;generalize aM { n with B:=fb } v=Z7,bp:aM { n with B:=fb,S:=mS } v=Z9,(kS (tN CL f D)).toArray=ZC at *;go_wp2_with(with_reducible first|refine gS 75 aP.out ?_|refine gL 91 br.out ?_|refine gL 75 bg.out ?_|refine gL 166 bt.out ?_);refine Rr BI.out ?_;rintro b7 ⟨Nw,U5,aJ⟩;have qa:=DD bp (U5 XZ.out) bC.out;obtain⟨c0,-,-⟩:=qd.out _ Nw;obtain⟨bF,bk⟩:=hh2 qa aJ;clear qa aJ U5 Nw BI br bg bt XZ bp;go_wp2_with(with_reducible refine gL 75 bF.out ?_);refine bk.out.mono ?_;rintro e bY ⟨r,wy,rfl,s1,s2,s3⟩;obtain⟨HS,HL,HF⟩:=hh3 s1 s2 s3;clear s1 s2 s3 bk;go_wp2_with(with_reducible refine gS 38 HS.out ?_);exact aI (bA results66 rfl HL.out) rfl HF.out
theorem acP (M:Nat->Nd)(o:jz):L3 M o:=by
 intro w b gp B T own vp vq vd h hT hI;have J:∀G,ay [] w G->rC G b gp B [] T own [] M/\EZ G o vp vq vd:=λG hk=>⟨h.keep0 hk,hI.keep hk⟩
 by_cases hK:0<=o.K/\o.K<=12
 ·obtain⟨k,hk⟩:=cA hK.1
  have mo:k<13:=by omega
  refine Rr (aar w b vp vq vd hk mo) λw' vS=> ?_;have aa:k=0\/k=1\/k=2\/k=3\/k=4\/k=5\/k=6\/k=7\/k=8\/k=9\/k=10\/k=11\/k=12:=by omega
  rcases aa with rfl|rfl|rfl|rfl|rfl|rfl|rfl|rfl|rfl|rfl|rfl|rfl|rfl
  ·exact⟨_,rfl,vS,fC func64 rfl rfl _,λG z=>by obtain⟨U,⟨g1,W⟩,V,⟨g3,a3⟩,a4,⟨g5,a5⟩,a6⟩:=J G z;exact O7 U hT W V hk⟩
  ·exact⟨_,rfl,vS,fC func65 rfl rfl _,λG z=>by obtain⟨U,⟨g1,W⟩,V,⟨g3,a3⟩,a4,⟨g5,a5⟩,a6⟩:=J G z;exact RM U hT W V hk⟩
  ·exact⟨_,rfl,vS,fC func66 rfl rfl _,λG z=>by obtain⟨U,⟨g1,W⟩,V,⟨g3,a3⟩,a4,⟨g5,a5⟩,a6⟩:=J G z;exact Mc U hT W V hk a5 a6⟩
  ·exact⟨_,rfl,vS,fC func67 rfl rfl _,λG z=>by obtain⟨U,⟨g1,W⟩,V,⟨g3,a3⟩,a4,⟨g5,a5⟩,a6⟩:=J G z;exact Pt U hT W V hk⟩
  ·exact⟨_,rfl,vS,fC func68 rfl rfl _,λG z=>by obtain⟨U,⟨g1,W⟩,V,⟨g3,a3⟩,a4,⟨g5,a5⟩,a6⟩:=J G z;exact Pr U hT W V hk⟩
  ·exact⟨_,rfl,vS,fC func69 rfl rfl _,λG z=>by obtain⟨U,⟨g1,W⟩,V,⟨g3,a3⟩,a4,⟨g5,a5⟩,a6⟩:=J G z;exact Jj U hT W V hk⟩
  ·exact⟨_,rfl,vS,fC func70 rfl rfl _,λG z=>by obtain⟨U,⟨g1,W⟩,V,⟨g3,a3⟩,a4,⟨g5,a5⟩,a6⟩:=J G z;exact L8 U hT W V hk⟩
  ·exact⟨_,rfl,vS,fC func71 rfl rfl _,λG z=>by obtain⟨U,⟨g1,W⟩,V,⟨g3,a3⟩,a4,⟨g5,a5⟩,a6⟩:=J G z;exact Wx U hT W V a3 a4 hk⟩
  ·exact⟨_,rfl,vS,fC func72 rfl rfl _,λG z=>by obtain⟨U,⟨g1,W⟩,V,⟨g3,a3⟩,a4,⟨g5,a5⟩,a6⟩:=J G z;exact aaA U hT W V a3 a4 hk⟩
  ·exact⟨_,rfl,vS,fC func73 rfl rfl _,λG z=>by obtain⟨U,⟨g1,W⟩,V,⟨g3,a3⟩,a4,⟨g5,a5⟩,a6⟩:=J G z;exact aaf U hT W V hk⟩
  ·exact⟨_,rfl,vS,fC func74 rfl rfl _,λG z=>by obtain⟨U,⟨g1,W⟩,V,⟨g3,a3⟩,a4,⟨g5,a5⟩,a6⟩:=J G z;exact aae U hT W V hk⟩
  ·exact⟨_,rfl,vS,fC func75 rfl rfl _,λG z=>acu (J G z).1 hT hk⟩
  ·exact⟨_,rfl,vS,fC func76 rfl rfl _,λG z=>aad (J G z).1 hT hk⟩
 ·refine(acE w b vp vq vd hK).mono ?_
  rintro e w' ⟨rfl,vS⟩;exact⟨_,rfl,vS,fC func77 rfl rfl _,λG z=>Wa (J G z).1 hK⟩
theorem DF{n:Int}{G vq vd:Value}(h:Live z f b gn gl gf M X n w)(J:kN z)(U:n<=1000000000)(V:EZ w o G vq vd):
  Calls prog 11 #[f,B0 o G vq vd] w (adg z f b gn gl gf M X n o w):=Wp (acP M o) h J U V
def opZ:jz:=⟨0,[],[],0,0,[]⟩
def oT (l:List jz) (j:Nat):jz:=l.getD j opZ
structure Iq (w:World) (o:jz) (Z:Array Value):Prop where
 cells:∃vp vq vd,Z=B0 o vp vq vd/\(∃g,gN w vp g o.P)/\(∃g,gN w vq g o.Q)/\∃g,Reads w vd g (kS o.D)
 i64:(-9223372036854775808<=o.K/\o.K<=9223372036854775807)/\(-9223372036854775808<=o.O/\o.O<=9223372036854775807)/\(-9223372036854775808<=o.N/\o.N<=9223372036854775807)
 bytes:aeD o
theorem Iq.keep{Z:Array Value}(h:Iq w o Z)(z:ay [] w w'):Iq w' o Z:=by
 obtain⟨U,vq,vd,e,⟨G,V⟩,⟨J,h2⟩,W,h3⟩:=h.cells;exact⟨⟨U,vq,vd,e,⟨G,V.keep z (by simp)⟩,⟨J,h2.keep z (by simp)⟩,W,h3.keep z (by simp)⟩,h.i64,h.bytes⟩
def xb (w:World) (v:Value) (g:Nat) (l:List jz):Prop:=
 ∃a cap,v= .slice a l.length cap/\l.length<=cap/\cap<=maxLen/\∀j,j<l.length->g<w.heap.size/\∃off,a=some ⟨g,off,none⟩/\∃Z,Iq w (oT l j) Z/\∀t,t<6->w.cell? ⟨g,off+j*6+t,none⟩=Z[t]?
theorem xb.keep(h:xb w v g l)(z:ay [] w w'):xb w' v g l:=by
 obtain⟨a,cap,e,J,h2,h3⟩:=h;refine⟨a,cap,e,J,h2,λj hj=> ?_⟩;obtain⟨G,off,W,Z,hz,V⟩:=h3 j hj;exact⟨bS G z.size,off,W,Z,hz.keep z,λt U=>(aO (w:=w) (z.block g G (by simp))).trans (V t U)⟩
structure R4 (o:jz):Prop where
 lens:o.P.length<=10/\o.Q.length<=10/\o.D.length<=900
 path:∀k,k<o.P.length->(lF o.P k).size<=30
 dest:∀k,k<o.Q.length->(lF o.Q k).size<=30
def Ch (w:World) (l:List jz) (n:Nat) (e:Ending) (w':World):Prop:=∃b,e= .returned (.bool b)/\(b=true->l.length<=n/\∀j,j<l.length->j<300->R4 (oT l j))/\w=w'
theorem aaM (h:xb w v g l)(n:Nat)(_:n<=100000):Calls prog 8 #[v,(n:Int)] w (Ch w l n):=by
 obtain⟨a,cap,rfl,ay,ae,ac⟩:=h;have HG:Hid (∀j,j<l.length->∃off,a=some ⟨g,off,none⟩/\∃ap cp aq cq ad cd,w.cell? ⟨g,off+j*6+1,none⟩=some (.slice ap (oT l j).P.length cp)/\w.cell? ⟨g,off+j*6+2,none⟩=some (.slice aq (oT l j).Q.length cq)/\w.cell? ⟨g,off+j*6+5,none⟩=some (.slice ad (oT l j).D.length cd)/\
   (∀k,k<(oT l j).P.length->∃gp V,ap=some ⟨gp,V,none⟩/\w.cell? ⟨gp,V+k,none⟩=some (.string (lF (oT l j).P k)))/\
   (∀k,k<(oT l j).Q.length->∃gp V,aq=some ⟨gp,V,none⟩/\w.cell? ⟨gp,V+k,none⟩=some (.string (lF (oT l j).Q k)))/\
   (oT l j).P.length<=9223372036854775807/\(oT l j).Q.length<=9223372036854775807/\(oT l j).D.length<=9223372036854775807):=λj hj=>by
  obtain⟨hg,off,ha,Z,hz,hc⟩:=ac j hj;obtain⟨vp,vq,vd,rfl,⟨gp,hP⟩,⟨gq,hQ⟩,gd,hD⟩:=hz.cells;obtain⟨ap,cp,rfl,aA,av,W6⟩:=hP.open;obtain⟨aq,cq,rfl,aJ,ag,SL⟩:=hQ.open;obtain⟨ad,cd,rfl,aK,aj,-⟩:=hD;rw[fH] at *;unfold maxLen at av ag aj;refine⟨off,ha,ap,cp,aq,cq,ad,cd,hc 1 (by omega),hc 2 (by omega),hc 5 (by omega),λk hk=> ?_,λk hk=> ?_,by omega,by omega,by omega⟩
  ·obtain⟨-,V,h1,U⟩:=W6.out k hk
   exact⟨gp,V,h1,U⟩
  ·obtain⟨-,V,h1,U⟩:=SL.out k hk
   exact⟨gq,V,h1,U⟩
 have HF:Hid (∀b,(b=true->l.length<=n/\∀j,j<l.length->j<300->R4 (oT l j))->Ch w l n (.returned (.bool b)) w):=λb h=>⟨b,rfl,h,rfl⟩
 have J:=ar (HF.out false (by simp));unfold maxLen at ae;clear ac;generalize Ch w l n=Q,hm:l.length=m at *;clear hm;go_in;go_wp2_with fail;go_loopg [5] 300 (λgh s5 wx=>∃k:Nat,k+gh=300/\k<=m/\s5= .int .i64 (k:Int)/\wx=w/\Hid (∀j,j<k->R4 (oT l j)))
 case atStart=>exact⟨0,by omega,by omega,rfl,rfl,λj hj=>by omega⟩
 case round=>
  obtain⟨i,hi,aG,rfl,rfl,HP⟩:=hrel;by_cases z:i=m\/i=300
  ·have HE:Hid (∀b,(b=true->m<=n)->Q (.returned (.bool b)) wr):=λb hb=>HF.out b λh=>⟨hb h,λj hj aH=>HP.out j (by omega)⟩
   clear HF HG HP;by_cases Ur:m<=n
   ·have h1:(m:Int)<=(n:Int):=by omega
    rcases dE i m with U|U
    ·have aa:(i:Int)<(m:Int):=by omega
     have h3:decide ((i:Int)<300)=false:=aQ (by omega);clear z;go_wp2_with fail
     first|exact HE.out true (λ_=>Ur)|(go_ret;exact HE.out true (λ_=>Ur))
    ·have aa:decide ((i:Int)<(m:Int))=false:=aQ (by omega)
     clear z;go_wp2_with fail
     first|exact HE.out true (λ_=>Ur)|(go_ret;exact HE.out true (λ_=>Ur))
   ·have h1:decide ((m:Int)<=(n:Int))=false:=aQ (by omega)
    rcases dE i m with U|U
    ·have aa:(i:Int)<(m:Int):=by omega
     have h3:decide ((i:Int)<300)=false:=aQ (by omega);clear z;go_wp2_with fail
     first|exact J.out|(go_ret;exact J.out)
    ·have aa:decide ((i:Int)<(m:Int))=false:=aQ (by omega)
     clear z;go_wp2_with fail
     first|exact J.out|(go_ret;exact J.out)
  ·have ai:i<m:=by omega
   have aI:i<300:=by omega
   have aa:(i:Int)<(m:Int):=by omega
   have aD:(i:Int)<300:=by omega
   have aF:(0:Int)<=(i:Int):=by omega
   obtain⟨gg,rfl⟩:∃gg,gk=gg+1:=⟨gk-1,by omega⟩;obtain⟨off,rfl,ap,cp,aq,cq,ad,cd,c1,c2,c5,hp,hq,l1,l2,l3⟩:=HG.out i ai;obtain⟨BI,IB⟩:=hh2 hp hq;have W:Hid (R4 (oT l i)->∀j,j<i+1->R4 (oT l j)):=λh j hj=>by
    by_cases e:j=i
    ·rw[e];exact h
    ·exact HP.out j (by omega)
   have Mi:Hid ((oT l i).P.length<=10->(oT l i).Q.length<=10->(oT l i).D.length<=900->(∀k,k<(oT l i).P.length->(lF (oT l i).P k).size<=30)->(∀k,k<(oT l i).Q.length->(lF (oT l i).Q k).size<=30)->R4 (oT l i)):=λh1 U h3 h4 h5=>⟨⟨h1,U,h3⟩,h4,h5⟩
   clear z HP HG hp hq HF;generalize (oT l i).P=P,(oT l i).Q=R,(oT l i).D.length=ld at *;generalize af:P.length=lp,ax:R.length=lr at *;clear af ax;by_cases h1:lp<=10
   ·have e1:decide ((10:Int)<(lp:Int))=false:=aQ (by omega)
    by_cases U:lr<=10
    ·have e2:decide ((10:Int)<(lr:Int))=false:=aQ (by omega)
     by_cases h3:ld<=900
     ·have e3:decide ((900:Int)<(ld:Int))=false:=aQ (by omega)
      go_wp2_with fail;go_loopg [6] lp (λgh s6 wx=>∃k:Nat,k+gh=lp/\s6= .int .i64 (k:Int)/\wr=wx/\Hid (∀j,j<k->(lF P j).size<=30))
      case atStart=>exact⟨0,by omega,rfl,rfl,λj hj=>by omega⟩
      case round=>
       obtain⟨k,hk,rfl,rfl,HI⟩:=hrel;cases gk with
       |succ g2=>
        have JK:k<lp:=by omega
        have xD:(k:Int)<(lp:Int):=by omega
        have cM:(0:Int)<=(k:Int):=by omega
        obtain⟨gp,V,rfl,d1⟩:=BI.out k JK;by_cases G:(lF P k).size<=30
        ·have e4:decide ((30:Int)<((lF P k).size:Int))=false:=aQ (by omega)
         have ak:Hid (∀j,j<k+1->(lF P j).size<=30):=λj hj=>by
          by_cases e:j=k
          ·rw[e];exact G
          ·exact HI.out j (by omega)
         clear HI W Mi BI IB G;generalize lF P k=nk at *;go_wp2_with fail;go_roundg g2;case measure=>omega
         case rel=>exact⟨k+1,by omega,by go_num,rfl,ak.out⟩
        ·have e4:(30:Int)<((lF P k).size:Int):=by omega
         clear HI W Mi BI IB G;generalize lF P k=nk at *;go_wp2_with fail
         first|exact J.out|(go_ret;exact J.out)
       |zero=>
        obtain rfl:k=lp:=by omega
        have az:¬(k:Int)<(k:Int):=by omega
        go_wp2_with fail;go_loopg [7] lr (λgh s7 wx=>∃q:Nat,q+gh=lr/\s7= .int .i64 (q:Int)/\wr=wx/\Hid (∀j,j<q->(lF R j).size<=30))
        case atStart=>exact⟨0,by omega,rfl,rfl,λj hj=>by omega⟩
        case round=>
         obtain⟨q,aC,rfl,rfl,HJ⟩:=hrel;cases gk with
         |succ g3=>
          have ah:q<lr:=by omega
          have aL:(q:Int)<(lr:Int):=by omega
          have aB:(0:Int)<=(q:Int):=by omega
          obtain⟨gq,oq,rfl,d1⟩:=IB.out q ah;by_cases G:(lF R q).size<=30
          ·have e4:decide ((30:Int)<((lF R q).size:Int))=false:=aQ (by omega)
           have au:Hid (∀j,j<q+1->(lF R j).size<=30):=λj hj=>by
            by_cases e:j=q
            ·rw[e];exact G
            ·exact HJ.out j (by omega)
           clear HI HJ W Mi BI IB G;generalize lF R q=nk at *;go_wp2_with fail;go_roundg g3;case measure=>omega
           case rel=>exact⟨q+1,by omega,by go_num,rfl,au.out⟩
          ·have e4:(30:Int)<((lF R q).size:Int):=by omega
           clear HI HJ W Mi BI IB G;generalize lF R q=nk at *;go_wp2_with fail
           first|exact J.out|(go_ret;exact J.out)
         |zero=>
          obtain rfl:q=lr:=by omega
          have NW:=ar (W.out (Mi.out h1 U h3 HI.out HJ.out));clear HI HJ W Mi BI IB;go_wp2_with fail;go_roundg gg;case measure=>omega
          case rel=>exact⟨i+1,by omega,by omega,by go_num,rfl,NW.out⟩
     ·have e3:(900:Int)<(ld:Int):=by omega
      clear W Mi BI IB;go_wp2_with fail
      first|exact J.out|(go_ret;exact J.out)
    ·have e2:(10:Int)<(lr:Int):=by omega
     clear W Mi BI IB;go_wp2_with fail
     first|exact J.out|(go_ret;exact J.out)
   ·have e1:(10:Int)<(lp:Int):=by omega
    clear W Mi BI IB;go_wp2_with fail
    first|exact J.out|(go_ret;exact J.out)
theorem Live.le{n n':Int}(h:Live z f b gn gl gf M X n w)(J:n<=n'):Live z f b gn gl gf M X n' w:=by
 obtain⟨d,U,G⟩:=h.pm;exact⟨h.fs,h.ws,⟨d,by omega,G⟩,h.keeps,h.new,h.off⟩
theorem xb.op{a:Option Addr}{cap:Nat}(h:xb w (.slice a n cap) g l){k:Nat}(hk:k<l.length)(hf:R4 (oT l k)):
  ∃off G vq vd,a=some ⟨g,off,none⟩/\∀J,ay [] w J->EZ J (oT l k) G vq vd/\(loadVar 42 ⟨g,off+k*6,none⟩).run prog J= .ok (.agg (B0 (oT l k) G vq vd)) J:=by
 obtain⟨a',c',e,-,-,W⟩:=h;cases e;obtain⟨hg,off,ha,Z,hz,U⟩:=W k hk;obtain⟨G,vq,vd,rfl,hp,hq,hd⟩:=hz.cells;refine⟨off,G,vq,vd,ha,λJ Cj=>⟨EZ.keep ⟨hp,λs V=> ?_,hq,λs V=> ?_,hd,hz.bytes⟩ Cj,?_⟩⟩
 ·obtain⟨j,z,rfl⟩:=bW V
  have :=hf.path j z;rw[lF,show(oT l k).P.getD j ByteArray.empty=(oT l k).P[j] by simp[z]] at this;omega
 ·obtain⟨j,z,rfl⟩:=bW V
  have :=hf.dest j z;rw[lF,show(oT l k).Q.getD j ByteArray.empty=(oT l k).Q[j] by simp[z]] at this;omega
 ·exact bZ g (off+k*6) (B0 (oT l k) G vq vd).toList underlying42 rfl (by kernel_rfl) λj z=>by
   rw[aO (w:=w) (a:=⟨g,off+k*6+j,none⟩) (Cj.block g hg (by simp)),U j (by simpa[B0] using z),dH]
end Go.Proofs.YtimcfdnbpkiniaaGreatDoor
