/- Lemmas. -/
import Derived.Test.YtepbpdipenedhaaGreatDoorR34
set_option maxHeartbeats 1000000
set_option maxRecDepth 100000
namespace Go.Proofs.YtepbpdipenedhaaGreatDoor
open Go.Proofs.Tryz
open Go.RowKit
variable{w:World}{T b g t:Nat}{n:bP}{v:Value}
end Go.Proofs.YtepbpdipenedhaaGreatDoor
namespace Go.Proofs.YtepbpdipenedhaaGreatDoor
open Go.Proofs.Tryz
open Go.RowKit
variable{w:World}{T b g t:Nat}{n:bP}{v:Value}
theorem YV (h:bh w g (aR n v) T)(x:Int):bh (w.setCell ⟨g,3,none⟩ (.int .i64 x)) g (aR { n with S:=x } v) T:=h.set 3 (.int .i64 x)
theorem QB{w':World}{G z:Nat}(W:∀h,az [b,G] w h->kg h)(J:az [b,G] w w')(hg:z=G\/w.heap.size<=z):∀h,az [b,z] w' h->kg h:=λh V=>W h (J.trans V λy U=>by
 simp only[aP,aM,bz] at U ⊢;omega)
section
variable {w W:World} {b gp:Nat} {B:List Int} {T:List (bP×Value)} {own:Nat->List Nat} {M:Nat->Nd} {o:kM} {cur:Array Value}
theorem pV (h:wH w b gp B [] T own [] M)(U:eo M)(he:(fJ M o.P).2=0):(M (fJ M o.P).1).K=1/\(nT T (fJ M o.P).1).B.length=13/\lA (nT T (fJ M o.P).1).B/\(nT T (fJ M o.P).1).E=[]/\(fJ M o.P).1=(cG M o.P).1/\0<=(nT T (fJ M o.P).1).S/\(nT T (fJ M o.P).1).S<=832:=by
 obtain⟨V,h2,h3⟩:=El he;rw[h3];have J:=(rz U V).1;have G:(M (cG M o.P).1).K=1:=by
  rcases U.kind (cG M o.P).1 with z|z|z
  ·rw[z] at J;exact absurd rfl J
  ·exact z.1
  ·exact absurd z.1 h2
 obtain⟨f1,f2,f3,-,-,-,f7⟩:=h.nd.fileAt G;exact⟨G,f7,f3.2.2.2,bg f3.2.1,rfl,f3.1.1,f3.1.2⟩
end
end Go.Proofs.YtepbpdipenedhaaGreatDoor
namespace Go.Proofs.YtepbpdipenedhaaGreatDoor
open Go.Proofs.Tryz
open Go.RowKit
variable{w:World}{T b g t:Nat}{n:bP}{v:Value}
end Go.Proofs.YtepbpdipenedhaaGreatDoor
namespace Go.Proofs.YtepbpdipenedhaaGreatDoor
open Go.Proofs.Tryz
open Go.RowKit
variable{w:World}{T b g t:Nat}{n:bP}{v:Value}
def R3 (w:World) (xs:List Int) (e:Ending) (w':World):Prop:=
 ∃v g,e= .returned v/\fp w' v g 5 1 xs.length (jL xs)/\(xs.length≠0->w.heap.size<=g/\g<w'.heap.size)/\az [] w w'
theorem Vl{xs:List Int}(h:Reads w v g (jL xs))(hn:xs.length<=10000):
  Calls prog 109 #[v] w (R3 w xs):=by
 obtain⟨a,cap,rfl,h1,h2,h3⟩:=h;have e1:=λ(wz:World) (a:Option Addr) (n c:Nat)=>Lib.run_eql_slice_nil (P:= prog) wz 31 5 a n c 0 0 underlying31
 cases a with
 |none=>
  have hz:xs=[]:=by
   by_cases hx:jL xs=[]
   ·cases xs<;>simp_all[jL]
   ·obtain⟨-,off,V,-⟩:=h3 hx;cases V
  subst hz;clear h3;go_enter func109,ntmps109;go_wp2_with fail;go_ret;exact⟨_,0,rfl,fp.nil _ _ _ _,λh=>absurd rfl h,az.refl _ _⟩
 |some ad=>
  obtain⟨i0,hi,ac,af,ah⟩:=cP RM;have z:∀j u,(jL xs)[j]? =some u->(w.alloc (.cells #[] 5)).cell? (ad.add j)=some u:=by
   intro j u hu;have hj:j<(jL xs).length:=(List.getElem?_eq_some_iff.1 hu).1;obtain⟨hg,off,V,hc⟩:=h3 (by intro e;rw[e] at hj;simp at hj);cases V;have W:(⟨g,off,none⟩:Addr).add j=⟨g,off+j,none⟩:=by unfold Addr.add;split<;>simp_all
   rw[W,aO (w:=w) (jv _ _ _ hg),hc j hj,hu]
  have U:(w.alloc (.cells #[] 5)).ownsRow w.heap.size 5 1 (.slice (some ⟨w.heap.size,0,none⟩) 0 0) 0 []:=World.ownsRow_made w #[] 0 (aI _) (by simp[maxLen]) (by simp);have HC:=au z;have HO:=au U;clear z U h3;rw[fF] at h1 ⊢;go_enter func109,ntmps109;go_wp2_with(at_builtin;refine dO _ rfl _ _ 31 rfl w.heap.size 5 i0 (.int .u8 0) 1 1 underlying31 hi ac af ah rfl (by decide) (.slice (some ⟨w.heap.size,0,none⟩) 0 0) _ _ rfl HO.out ad xs.length cap (jL xs) rfl (by rw[fF];omega) HC.out (yq xs) (by unfold maxLen;omega) (by omega) (by simp) ?_;intro v' w1 G J _);obtain⟨g',V,aa⟩:=fp.of_row G;have H:R3 w xs (.returned v') w1:=by
   refine⟨v',g',rfl,by simpa using V,λae=> ?_,?_⟩
   ·have :=aa (by omega)
    exact⟨this.1,((by simpa using V:fp w1 v' g' 5 1 xs.length (jL xs)).cell ae).1⟩
   ·have hk:=az.of_grown (l:=[]) (((World.grownBy_alloc w (.cells #[] 5) none))) (by simp)
    have ag:az [w.heap.size] (w.alloc (.cells #[] 5)) w1:=az.of_grown J (by intro k hk;simp[Value.ownBlock] at hk;subst hk;simp);exact hk.trans ag (by simp)
  have HH:=au H;clear G J V aa H;go_wp2_with fail;go_ret;exact HH.out
theorem YW{W U:World}{n gd:Nat}{V:Array Value}{z:List Int}(hb:bh W g V T)(hc:V.size=7)(hk:az [] W U)(hr:Reads U v gd (jL z))(aa:z≠[]->n<=gd/\gd≠g):
  ∃G,(storeVar 34 ⟨g,0,none⟩ (.agg (GH { jf with D:=z } v (.slice none 0 0)))).run prog U= .ok () G/\(loadVar 34 ⟨g,0,none⟩).run prog G= .ok (.agg (GH { jf with D:=z } v (.slice none 0 0))) G/\uG n G { jf with D:=z } (GH { jf with D:=z } v (.slice none 0 0))/\az [g] U G:=by
 have J:∀wz,az [g] U wz->uG n wz { jf with D:=z } (GH { jf with D:=z } v (.slice none 0 0)):=λwz ae=>by
  refine⟨_,_,rfl,⟨gd,?_,λh=>(aa h).1⟩,0,bC.nil _ 0,λh=>absurd rfl h⟩;by_cases hD:z=[]
  ·subst hD
   obtain⟨ad,cap,e,b1,b2,-⟩:=hr;exact⟨ad,cap,e,b1,b2,λh0=>absurd rfl h0⟩
  ·exact hr.keep ae (by rw[ay];exact(aa hD).2)
 have hz:=(J U (az.refl _ _)).at;have h1:=hz.one;have h2:=hz.size;have ac:=hb.keep hk (by simp);generalize af:GH { jf with D:=z } v (.slice none 0 0)=Z at *;obtain⟨zl⟩:=Z;simp only[bN] at h2;obtain⟨G,s1,s2,s3⟩:=bB (P:= prog) (ty:= 34) (cs:=zl) (by rw[h2];exact Ek) ac (by rw[hc,h2]) h1;exact⟨G,s1,Bg s2 (J G s3).at,J G s3,s3⟩
theorem Vm{X:List Int}{a:Nat}{O N:Int}(V:0<=O)(J:0<=N)(z:0<=n.S)(hS:n.S<=832)(W:min O n.S=(a:Int))(U:(a:Int)+min N (n.S-(a:Int))=(t:Int)):
  ((kA X n).drop a).take (t-a)=((qO X n).drop O.toNat).take N.toNat:=by
 have e:qO X n=(kA X n).take n.S.toNat:=by
  unfold qO kA;rw[<-List.map_take,List.take_range,cC (by omega)]
 rw[e,List.drop_take,List.take_take];by_cases h:O<=n.S
 ·have G:a=O.toNat:=by omega
  rw[G]
  congr 1
  omega
 ·rw[show t-a=0 by omega,show min N.toNat (n.S.toNat-O.toNat)=0 by omega,eV,eV]
theorem NT (b f t:Nat)(U:f<=t)(V:t<=832)(w:World):∃off,(Instr.sliceAt 157 (.pointer (some ⟨b,0,none⟩)) (some (.int .i64 (f:Int))) (some (.int .i64 (t:Int))) none).run prog w= .ok (.slice (some ⟨b,off,none⟩) (t-f) (832-f)) w/\(f<t->off=f):=by
 have J:∀w,(sizeOf (prog.elem 157)).run prog w= .ok 1 w:=λw=>by show Sem.run _ _ _=_;kernel_rfl
 have G: prog.arrayLen 157 =832:=by kernel_rfl
 have z:=run_sliceAt_array_lh (P:= prog) w 157 ⟨b,0,none⟩ (by kernel_rfl) .i64 .i64 (f:Int) (t:Int) (by omega) (by omega) (by rw[G];omega);rw[J,G,aH,aH] at z;by_cases h:f=832
 ·refine⟨0,?_,λW=>by omega⟩
  rw[z];subst h;show Result.ok (Value.slice (some (if 832=832 then _ else _)) (t-832) (832-832)) w=_;rw[aC rfl]
 ·refine⟨f,?_,λ_=>rfl⟩
  rw[z];show Result.ok (Value.slice (some (if 832=f then _ else _)) (t-f) (832-f)) w=_;rw[aB (by omega),iq,add_plain,aX]
theorem abZ{off f:Nat}{C:List Int}(G:bh w g (jL C).toArray T)(hl:C.length=832)(V:f<=t)(W:t<=832)(U:f<t->off=f):Reads w (.slice (some ⟨g,off,none⟩) (t-f) (832-f)) g (jL ((C.drop f).take (t-f))):=by
 have h:((C.drop f).take (t-f)).length=t-f:=by rw[aJ,bE];omega
 refine⟨_,832-f,by rw[fF,h],by rw[fF,h];omega,by unfold maxLen;omega,λJ=>⟨G.lt,off,rfl,λj z=> ?_⟩⟩;rw[fF,h] at z;obtain rfl:=U (by omega);rw[G.cell,aF];simp only[jL,bF,bO,bT];rw[aC z]
theorem NU{gp:Nat}{B:List Int}{T:List (bP×Value)}{own:Nat->List Nat}{M:Nat->Nd}(h:wH w b gp B [] T own [] M)(hT:eo M){o:kM}{vp vq vd:Value}{g:Nat}(hP:jg w vp g o.P)(hs:∀s∈o.P,s.size<=9223372036854775807)(hK:o.K=3):
  Calls prog 56 #[.agg (dZ b o vp vq vd)] w (jA w b gp B (pQ B M o)):=by
 obtain⟨W,hW,dt,oZ,mq,ai⟩:=vT w (dZ b o vp vq vd) (GH jf (.slice none 0 0) (.slice none 0 0));have uN:=au (Jm (vq:=vq) (vd:=vd) (h.keep0 dt) hT (hP.keep dt (by simp)) hs);have YX:=au (RY h hT dt oZ mq rfl ai);have ot:=au ai;have CE:Hid (∀G,az [] W G->G.cell? ⟨w.heap.size,4,none⟩=some (.int .i64 o.O)/\G.cell? ⟨w.heap.size,5,none⟩=some (.int .i64 o.N)):=λG hk=>by
  have h1:=oZ.keep hk (by simp);exact⟨by rw[h1.cell];rfl,by rw[h1.cell];rfl⟩
 have sx:Hid (∀G,az [] W G->(loadVar 79 ⟨w.heap.size,0,none⟩).run prog G= .ok (.agg (dZ b o vp vq vd)) G):=λG hk=>ny (oZ.keep hk (by simp))
 have YL:Hid ((fJ M o.P).2≠0->(oV M o).2=fy (fJ M o.P).2):=Nt (.inr (.inl hK));have Zy:Hid ((fJ M o.P).2=0->o.O<0\/o.N<0->(oV M o).2=fy 1):=λV hn=>by rw[Jn hK V,aC hn]
 have uL:Hid ((fJ M o.P).2=0->(nT T (fJ M o.P).1).B.length=13/\0<=(nT T (fJ M o.P).1).S/\(nT T (fJ M o.P).1).S<=832):=λV=>by
  obtain⟨f1,f2,f3,f4,f5,f6,f7⟩:=pV h hT V;exact⟨f2,f6,f7⟩
 have N9:Hid ((fJ M o.P).2=0->∀z,az [] W z->∀v:Value,Calls prog 106 #[.agg (dZ b o vp vq vd),.agg (aR (nT T (fJ M o.P).1) v)] z λe w'=>e= .returned (.agg (jL (kA (aA B []) (nT T (fJ M o.P).1))).toArray)/\az [] z w'):=λV z hk v=>by
  obtain⟨f1,f2,f3,-⟩:=pV h hT V;have aT:=hk.size;have :=h.lt;exact Bn (h.sh.keep (dt.trans' hk) (by simp) (by simp)) (by omega) h.nd.st.w64 f2 f3 o vp vq vd v
 have NV:Hid ((kA (aA B []) (nT T (fJ M o.P).1)).length=832):=(qz _ _).1;have ak:Hid ((fJ M o.P).2=0->∀a t:Nat,0<=o.O->0<=o.N->min o.O (nT T (fJ M o.P).1).S=(a:Int)->(a:Int)+min o.N ((nT T (fJ M o.P).1).S-(a:Int))=(t:Int)->
   ∀G v gd,az [] W G->Reads G v gd (jL (((kA (aA B []) (nT T (fJ M o.P).1)).drop a).take (t-a)))->(((kA (aA B []) (nT T (fJ M o.P).1)).drop a).take (t-a)≠[]->W.heap.size<=gd)->
   ∃wy,(storeVar 34 ⟨w.heap.size+1,0,none⟩ (.agg #[.int .i64 0,.int .i64 0,.int .i64 0,.int .i64 0,.int .i64 0,v,.slice none 0 0])).run prog G= .ok () wy/\(loadVar 34 ⟨w.heap.size+1,0,none⟩).run prog wy= .ok (.agg #[.int .i64 0,.int .i64 0,.int .i64 0,.int .i64 0,.int .i64 0,v,.slice none 0 0]) wy/\jA w b gp B (pQ B M o) (.returned (.agg #[.int .i64 0,.int .i64 0,.int .i64 0,.int .i64 0,.int .i64 0,v,.slice none 0 0])) wy):=λV a t hO hN ha ht G v gd hk hr av=>by
  obtain⟨f1,f2,f3,f4,f5,f6,f7⟩:=pV h hT V;have QP:=Vm (X:=aA B []) (n:=nT T (fJ M o.P).1) hO hN f6 f7 ha ht;rw[QP] at hr av;obtain⟨wy,s1,s2,s3,s4⟩:=YW (n:=w.heap.size) mq rfl hk hr (λar=>by have :=av ar;omega);refine⟨wy,s1,s2,jA.noneAt h ((dt.trans' hk).trans s4 (by intro y hy;rw[ay] at hy;omega)) s3 ?_⟩;have hd:=Jn hK V;rw[aB (by omega)] at hd;have hD:(M (cG M o.P).1).D=qO (aA B []) (nT T (fJ M o.P).1):=by
   rw[<-f5];exact(h.nd.fileAt f1).2.2.2.2.2.1
  refine .inr (.inr ⟨rfl,by rw[hd];rfl,.inl (by rw[hd,hD]),by rw[hd];exact h.nd.stay⟩)
 have IE:=pZ;have ub:=eA;have yG:=au YX.out.err;clear h hT hP hs dt oZ mq ai hK YX;unfold DV at uN;rw[p8] at *;generalize jA w b gp B (pQ B M o)=Q at *;generalize dZ b o vp vq vd=J at *;generalize oV M o=DM at *;generalize o.N=N at *;generalize o.O=O at *;generalize aI:aR cr (.slice none 0 0)=Z0 at *;have oz:=au aI;clear aI;generalize fJ M o.P=F at *;obtain⟨x,ee⟩:=F
 dsimp only at *
 generalize kA (aA B []) (nT T x)=CL at *;have tq:=au (sx.out W (az.refl _ _));go_enter func56,ntmps56;go_wp2_with(with_reducible refine gL 79 tq.out ?_);refine uN.out.mono ?_;rintro e w1 ⟨U,⟨V,rfl⟩|⟨rfl,v,g,rfl,hE,hg⟩⟩
 ·obtain⟨z,q1,q2,q3⟩:=dc (n:=cr) (v:= .slice none 0 0) (bh.new w1 Z0 111) (by rw[<-oz.out];rfl) rfl rfl
  have iM:az [] w1 z:=((az.refl _ _).alloc _).trans q3 (by intro x hx;rw[ay] at hx;omega);obtain⟨wy,s1,s2,s3⟩:=yG.out ee V (YL.out V) z (U.trans' iM);rw[oz.out] at q1;have ov:=au q1;have HS:=au s1;have HL:=au s2;have HF:=au s3;have b1:(ee != 0)=true:=by simpa using V
  clear hW q1 q2 q3 U iM s1 s2 s3 V yG YL Zy uL N9 NV ak uN CE sx tq ot oz;go_wp2_with(first|(with_reducible refine gS 111 ov.out ?_)|(with_reducible refine gS 34 HS.out ?_));exact aL (b9 results56 rfl HL.out) rfl HF.out
 ·obtain⟨aa,aH,aK⟩:=uL.out rfl
  have YY:=au (Zy.out rfl);have ZH:=au (N9.out rfl);have ae:=au (ak.out rfl);clear YL Zy N9 ak uL;generalize nT T x=n at *;generalize (x:Int)=xi at *;obtain⟨z,q1,q2,q3⟩:=dc (n:=n) (v:=v) (bh.new w1 Z0 111) (by rw[<-oz.out];rfl) aa hE.one;have iM:az [] w1 z:=((az.refl _ _).alloc _).trans q3 (by intro x hx;rw[ay] at hx;omega);have ou:=U.trans' iM;have ov:=au q1;have YR:=au (sx.out z ou);obtain⟨c1,c2⟩:=CE.out z ou;by_cases ac:O<0
  ·obtain⟨wy,s1,s2,s3⟩:=yG.out 1 (by omega) (YY.out (.inl ac)) z ou
   have HS:=au s1;have HL:=au s2;have HF:=au s3;have b2:decide (O<0)=true:=bq ac;clear hW q1 q2 q3 U iM ou s1 s2 s3 yG YY ZH ae NV uN CE sx tq ot oz hE hg aa YR aH aK;generalize aR n v=Zn at *;go_wp2_with(first|(with_reducible refine gS 111 ov.out ?_)|(with_reducible refine gS 34 HS.out ?_));exact aL (b9 results56 rfl HL.out) rfl HF.out
  ·by_cases Wk:N<0
   ·obtain⟨wy,s1,s2,s3⟩:=yG.out 1 (by omega) (YY.out (.inr Wk)) z ou
    have HS:=au s1;have HL:=au s2;have HF:=au s3;have b2:decide (O<0)=false:=aS ac;have b3:decide (N<0)=true:=bq Wk;clear hW q1 q2 q3 U iM ou s1 s2 s3 yG YY ZH ae NV uN CE sx tq ot oz hE hg aa YR aH aK;generalize aR n v=Zn at *;go_wp2_with(first|(with_reducible refine gS 111 ov.out ?_)|(with_reducible refine gS 34 HS.out ?_));exact aL (b9 results56 rfl HL.out) rfl HF.out
   ·have aV:z.cell? ⟨w1.heap.size,3,none⟩=some (.int .i64 n.S):=by rw[q2.cell];exact(iX v aa).f3
    obtain⟨a,ha⟩:∃a:Nat,min O n.S=(a:Int):=⟨(min O n.S).toNat,by omega⟩;obtain⟨t,ht⟩:∃t:Nat,(a:Int)+min N (n.S-(a:Int))=(t:Int):=⟨((a:Int)+min N (n.S-(a:Int))).toNat,by omega⟩;have aF:a<=t/\t<=832:=by omega
    have b2:decide (O<0)=false:=aS ac;have b3:decide (N<0)=false:=aS Wk;have aP:IntKind.i64.wrap (n.S-(a:Int))=n.S-(a:Int):=by rw[cy];omega
    have aO:IntKind.i64.wrap (t:Int)=(t:Int):=by rw[cy];omega
    have aD:=au (ae.out a t (by omega) (by omega) ha ht);have aG:=au (ct q2 aa);have PC:=au (ZH.out z ou v);have nD:=au ou;have Zt:=au aF;obtain⟨Z8,ag⟩:∃Z8,(jL (List.replicate 832 0)).toArray=Z8:=⟨_,rfl⟩;have aQ:=CH;rw[ag] at aQ;have xR:Hid (Z8.size=832):=by rw[<-ag];unfold Hid;rw[bN,fF,bG]
    clear ag hW q1 q2 q3 U iM ou yG YY ZH ae uN CE sx tq oz hE hg aa aF;generalize aR n v=Zn at *;generalize n.S=S at *;go_wp2_with(first|(with_reducible refine gS 111 ov.out ?_)|(with_reducible refine gL 79 YR.out ?_)|(with_reducible refine gL 111 aG.out ?_));refine PC.out.mono ?_;rintro e w4 ⟨rfl,aj⟩;obtain⟨w5,q1,q2,q3⟩:=bB (P:= prog) (ty:= 157) (cs:=jL CL) (by rw[fF,NV.out];exact yo) (bh.new w4 Z8 157) (by rw[fF,NV.out,xR.out]) (yq _);obtain⟨off,aU,af⟩:=NT w4.heap.size a t Zt.out.1 Zt.out.2 w5;have ax:az [] z w5:=((aj.alloc (.cells Z8 157))).trans q3 (by intro x hx;rw[ay] at hx;have :=aj.size;omega);have wP:=abZ q2 NV.out Zt.out.1 Zt.out.2 af;have KS:((CL.drop a).take (t-a)).length<=10000:=by rw[aJ];have :=Zt.out;omega
    have DU:=au (Vl wP KS);have zz:=au q1;have aM:=au ax;generalize (CL.drop a).take (t-a)=dd at *;generalize t-a=ta at *;generalize 832-a=ca at *;clear q1 q2 q3 aj ax wP KS af PC aG YR ov xR NV Zt ha ht aP aO;generalize (jL CL).toArray=ZC at *;go_wp2_with(first|(with_reducible refine gS 157 zz.out ?_));refine DU.out.mono ?_;rintro e w6 ⟨v6,g6,rfl,ah,aN,kG⟩;obtain⟨a6,c6,rfl,-,-⟩:=ah.val;obtain⟨wy,s1,s2,s3⟩:=aD.out w6 _ g6 (nD.out.trans' (aM.out.trans' kG)) ah.reads (λar=>by
     have h1:=(aN (λe=>ar (bg e))).1;have h2:=(nD.out.trans' aM.out).size;omega)
    have HS:=au s1;have HL:=au s2;have HF:=au s3;clear s1 s2 s3 ah aN kG aD DU;go_wp2_with(with_reducible refine gS 34 HS.out ?_);exact aL (b9 results56 rfl HL.out) rfl HF.out
section
variable {X:List Int} {T:List (bP×Value)} {own:Nat->List Nat} {M:Nat->Nd}
theorem ab0 (h:ni X T own [] M){i:Nat}(hK:(M i).K=1){o m:Nat}(ho:o+m<=832)(o9:(fM (nT T i).B (o/64) (dM (o+m))).length<=(aZ X).length):lA (RL X (nT T i) o m).B/\(RL X (nT T i) o m).B.length=13:=by
 obtain⟨az,hk,hf,ht,hi,hd,hB⟩:=h.fileAt hK;have hS:=hf.1;have av:dM (o+m)<=13:=by unfold dM;omega
 generalize hn:nT T i=n at *;generalize Qb:fM n.B (o/64) (dM (o+m))=z at *;have aa:∀k,k∈z↔k<dM (o+m)/\o/64<=k/\n.B.getD k 0=0:=λk=>by rw[<-Qb];exact yh
 have GG:z.Nodup:=by rw[<-Qb];exact Dn _ _ _
 have aB:z.length<=13:=by rw[<-Qb];exact cD (uE _ _ _) av
 have U:=h.opened hi;rw[hn] at U;obtain⟨t1,t2,t3,t4,t5⟩:=U.st.take z.length;have aK:=U.step t1 t2 (by simp);have ae:∀c∈(aZ X).take z.length,c≠0/\c<256:=pF;have KS:((aZ X).take z.length).Nodup:=ru;have ax:∀c∈(aZ X).take z.length,dC X c=false:=λc hc=>(jT.1 (bM hc)).2.2
 have af:((aZ X).take z.length).length=z.length:=by rw[aJ];omega
 have hw:(RL X n o m).B=ju n.B z ((aZ X).take z.length) z.length:=by unfold RL;rw[Qb]
 rw[hw];clear hw;have ak:∀k,k∉z->(ju n.B z ((aZ X).take z.length) z.length).getD k 0=n.B.getD k 0:=λk G=>yl (aI _) (by rw[gA];exact G)
 have ag:∀m,m<z.length->(ju n.B z ((aZ X).take z.length) z.length).getD (z.getD m 0) 0=((((aZ X).take z.length).getD m 0:Nat):Int):=λm hm=>KB GG (λk G=>by have :=((aa k).1 G).1;omega) (aI _) hm
 have ar:=nv n.B z ((aZ X).take z.length) z.length;have ah:=λb=>zR (l:=(aZ X).take z.length) hB GG (λk G=>by have :=(aa k).1 G;exact⟨by omega,this.2.2⟩) af (λc hc=>(ae c hc).1) b (j:=z.length) (aI _)
 have aL:nJ X (aA X (cW X ((aZ X).take z.length))) 108:=nJ.puts (L:=wq++Dm ((aZ X).take z.length)) (by rw[aD,uB,af];simp[wq];omega) λp hp=>by
  rw[aU];rcases pL _ _ p hp with h6|h6
  ·exact .inl (uC h6)
  ·exact .inr (yg h6.1 h6.2)
 generalize hl:(aZ X).take z.length=l at *;generalize aF:aA X (cW X l)=X1 at *;generalize ay:ju n.B z l z.length=B' at *;rw[aV (by omega)] at ah
 -- what each place has
 have J:∀k,k<13->(B'.getD k 0=n.B.getD k 0/\k∉z)\/(n.B.getD k 0=0/\∃q,q<z.length/\z.getD q 0=k/\B'.getD k 0=((l.getD q 0:Nat):Int)/\l.getD q 0∈l):=λk G=>by
  by_cases hm:k∈z
  ·right
   obtain⟨m,VC,ai⟩:=cj hm;have W:z.getD m 0=k:=by rw[<-ai];simp[VC]
   refine⟨((aa k).1 hm).2.2,m,VC,W,by rw[<-W];exact ag m VC,?_⟩;rw[aj,aG (by omega)];exact bA _
  ·exact .inl ⟨ak k hm,hm⟩
 have Df:∀k,k<13->n.B.getD k 0≠0->(n.B.getD k 0).toNat∉l:=λk G hb hc=>by
  have h1:=ax _ hc;have h2:=U.st.usedEx (Gq hB G hb);rw[h1] at h2;cases h2
 have au:lA B':=λk G=>by
  have hr:=qy hf.2.2.2 G;rcases J k G with ⟨W,-⟩|⟨e0,m,hm,e2,W,IL⟩
  ·refine⟨by rw[W];exact hr,λV j hj=> ?_⟩
   rw[W] at V ⊢;rcases J j (by omega) with ⟨f1,-⟩|⟨-,m',-,-,f1,ac⟩
   ·rw[f1];exact(hf.2.2.2 k G).2 V j hj
   ·rw[f1]
    intro e3;exact Df k G V (by rw[<-e3,aH];exact ac)
  ·have :=ae _ IL
   refine⟨by rw[W];omega,λV j hj=> ?_⟩;rw[W];rcases J j (by omega) with ⟨f1,-⟩|⟨-,m',aC,f2,f1,ac⟩
   ·rw[f1]
    intro e3;exact Df j (by omega) (by omega) (by rw[e3,aH];exact IL)
   ·rw[f1]
    intro e3;have e4:l.getD m' 0=l.getD m 0:=by omega
    rw[aj,aG (by omega),aj,aG (by omega)] at e4;have :=yj KS _ _ e4;subst this;omega
 exact⟨au,by rw[ar,hB]⟩
end
def YZ (w:World) (b z:Nat) (B:List Int) (c:Int) (R:lX->List (Int×Int)->Prop) (e:Ending) (G:World):Prop:=
 ∃r h,e= .returned (.int .i64 r)/\(storeVar 34 ⟨w.heap.size+1,0,none⟩ (.agg #[.int .i64 r,.int .i64 c,.int .i64 0,.int .i64 0,.int .i64 0,.slice none 0 0,.slice none 0 0])).run prog G= .ok () h/\(loadVar 34 ⟨w.heap.size+1,0,none⟩).run prog h= .ok (.agg #[.int .i64 r,.int .i64 c,.int .i64 0,.int .i64 0,.int .i64 0,.slice none 0 0,.slice none 0 0]) h/\jA w b z B R (.returned (.agg #[.int .i64 r,.int .i64 c,.int .i64 0,.int .i64 0,.int .i64 0,.slice none 0 0,.slice none 0 0])) h
section
variable {w W:World} {b gp:Nat} {B:List Int} {T:List (bP×Value)} {own:Nat->List Nat} {M:Nat->Nd} {o:kM} {cur:Array Value}
theorem Vn (h:wH w b gp B [] T own [] M)(dt:az [] w W)(mq:bh W (w.heap.size+1) cur 34)(hc:cur.size=7)(ae:W.heap.size=w.heap.size+2){G:World}{ps:List (Int×Int)}(z:az [b,gp] W G){U:Nat}(ai:U=gp\/(W.heap.size<=U/\U<G.heap.size))(ac:eO G b U B ps)(af:ps.length<=2000)(V:In64 (aA B ps)){i:Nat}{n:bP}{v:Value}(hB:n.B.length=13)(hE:n.E=[])(hr:bC G v 0 n.E){c:Int}
  (hR:∀r qs,nH (aA B ps) (i:Int) n r qs->pQ B M o { jf with E:=r,N:=c } (ps++qs)):
  Calls prog 49 #[.pointer (some ⟨b,0,none⟩),.int .i64 (i:Int),.agg (aR n v)] G (YZ w b gp B c (pQ B M o)):=by
 have J:=h.lt;have ag:=z.size;have hT:∀wx,az [b,U] G wx->kg wx:=QB h.tab ((dt.mono (by simp)).trans' z) (by omega);refine(um ac V hT (by omega) (by omega) (i:Int) n v 0 hB hr (λk hk=>by rw[hE] at hk;simp at hk) (λh0=>by rw[hE] at h0;simp at h0)).mono ?_;rintro e w5 ⟨r,qs,aa,rfl,e1,e2,e3,e4,e5⟩;have ah:=e3.size;have j6:az [b,gp] W w5:=z.trans e3 λx hx=>by
  simp only[aP,aM,bz] at hx ⊢;omega
 obtain⟨wy,s1,s2,s3,s4⟩:=CD (r:={ jf with E:=r,N:=c }) (Z:= #[.int .i64 r,.int .i64 c,.int .i64 0,.int .i64 0,.int .i64 0,.slice none 0 0,.slice none 0 0]) mq hc j6 (gZ J (by omega)) rfl rfl rfl;refine⟨r,wy,rfl,s1,s2,jA.some J dt (by omega) (Rq:=λ_ q=>pQ B M o { jf with E:=r,N:=c } q) (m:=2700) ⟨r,ps++qs,aa,rfl,by omega,by rw[bY];exact e2,j6,by rw[aD];omega,hR r qs e5⟩ (by omega) s4 s3 λ_ hq=>hq⟩
theorem QC (U:o.K=2)(G:(fJ M o.P).2=0){f:Nat}(V:o.O=(f:Int))(J:o.D≠[])(hf:f+o.D.length<=832){qs:List (Int×Int)}(z:Goes B qs [] (ng M (fJ M o.P).1 { M (fJ M o.P).1 with D:=sO (M (fJ M o.P).1).D f o.D }) 400):pQ B M o { jf with E:=0,N:=(o.D.length:Int) } qs:=by
 have h:=su U G;rw[aB (by omega),aB (by omega),aB J,V,aH] at h;rw[(El G).2.2] at z;exact .inr (.inr ⟨rfl,by rw[h];rfl,.inl (by rw[h];rfl),by rw[h];exact z.lands (aI _)⟩)
theorem Gx (h:o.K=2)(J:(fJ M o.P).2=0){f:Nat}(hO:o.O=(f:Int))(U:o.D≠[])(V:f+o.D.length<=832)(G:(aZ B).length<40){qs:List (Int×Int)}(c:Int):pQ B M o { jf with E:=7,N:=c } qs:=by
 have z:=su h J;rw[aB (by omega),aB (by omega),aB U] at z;exact .inl ⟨rfl,by rw[h];rfl,.inl (by rw[z];rfl),.inl G⟩
theorem Vo (h:wH w b gp B [] T own [] M)(hT:eo M)(hK:o.K=2)(vp vq vd:Value)(dt:az [] w W)(mq:bh W (w.heap.size+1) cur 34)(hc:cur.size=7)(aa:W.heap.size=w.heap.size+2)(he:(fJ M o.P).2=0){f:Nat}(hO:o.O=(f:Int))(Yk:o.D≠[])(V:f+o.D.length<=832)(G:∀x∈o.D,0<=x/\x<256)
  (o9:(fM (nT T (fJ M o.P).1).B (f/64) (dM (f+o.D.length))).length<=(aZ (aA B [])).length) {wf w4 w5:World} (J:az [] W wf) {y:Nat} (hy:W.heap.size<=y) (af:y<wf.heap.size) (hp:yF wf w4 b gp B ([]++cW (aA B []) ((aZ (aA B [])).take (fM (nT T (fJ M o.P).1).B (f/64) (dM (f+o.D.length))).length))) (j6:az [y] w4 w5) {v:Value} (hr:bC w5 v 0 []):
  Calls prog 108 #[.agg (dZ b o vp vq vd),.agg (aR (RL (aA B []) (nT T (fJ M o.P).1) f o.D.length) v),.agg (jL (sk (kA (aA B []) (nT T (fJ M o.P).1)) f o.D)).toArray] w5 λe z=>e= .returned (.tuple #[])/\az [b,gp] W z/\(∀{C:Array Value} {t:Nat},bh w5 y C t->bh z y C t)/\
   Calls prog 49 #[.pointer (some ⟨b,0,none⟩),.int .i64 ((fJ M o.P).1:Int),.agg (aR (RL (aA B []) (nT T (fJ M o.P).1) f o.D.length) v)] z (YZ w b gp B (o.D.length:Int) (pQ B M o)):=by
 obtain⟨f1,f2,f3,f4,f5,f6,f7⟩:=pV h hT he;obtain⟨n1,n2⟩:=ab0 h.nd f1 V o9;have ah:=h.lt;have U:=Dq (qz (aA B []) (nT T (fJ M o.P).1)) V G;obtain⟨g4,p1,p2,p3⟩:=hp;rw[bY] at p2;have ak:=J.size;have au:=p3.size;have ar:=j6.size;have YF:=p2.keep j6 (by rw[ay];omega) (by rw[ay];omega);have ai:=h.nd.st.w64;obtain⟨t1,-⟩:=(h.nd.opened (h.nd.rng (i:=(fJ M o.P).1) (by omega))).st.take (fM (nT T (fJ M o.P).1).B (f/64) (dM (f+o.D.length))).length;have ac:=t1.w64;have av:(cW (aA B []) ((aZ (aA B [])).take (fM (nT T (fJ M o.P).1).B (f/64) (dM (f+o.D.length))).length)).length<=1000:=by
  rw[po _ _ (λb hb=>pF b hb)];have h1:=uE (nT T (fJ M o.P).1).B (f/64) (dM (f+o.D.length));have h2:dM (f+o.D.length)<=13:=by unfold dM;omega
  rw[aJ];omega
 refine(H4 YF (by omega) (by omega) n2 n1 U o vp vq vd v).mono ?_;rintro e z ⟨rfl,g6,e1,e2,e3⟩;have ag:=e3.size;have kG:az [b,gp] W z:=(((J.mono (by simp)).trans' p3).trans j6 (λx hx=>by rw[ay] at hx;omega)).trans e3 (λx hx=>by
  simp only[aP,aM,bz] at hx ⊢;omega)
 refine⟨rfl,kG,λ{C t} hb=>hb.keep e3 (by simp only[aP,aM,bz];omega),?_⟩;have aj:=vQ (RL (aA B []) (nT T (fJ M o.P).1) f o.D.length).B (sk (kA (aA B []) (nT T (fJ M o.P).1)) f o.D) 13;refine Vn h dt mq hc aa kG (by omega) e2 (by rw[aD];omega) (by rw[bD];exact Jh (n:=RL (aA B []) (nT T (fJ M o.P).1) f o.D.length) ac U) n2 f4 (by show bC z v 0 (nT T (fJ M o.P).1).E;rw[f4];exact hr.keep e3 (λh0=>absurd rfl h0)) λr qs hp=> ?_
 rw[bD] at hp;rcases h.nd.write f1 Yk G V o9 hp with ⟨rfl,ae⟩|⟨rfl,hg⟩
 ·exact Gx hK he hO Yk V ae _
 ·rw[ba]
  exact QC hK he hO Yk V hg
end
end Go.Proofs.YtepbpdipenedhaaGreatDoor
