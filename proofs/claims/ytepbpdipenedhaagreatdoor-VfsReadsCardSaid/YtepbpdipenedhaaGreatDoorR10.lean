/- Lemmas. -/
import Derived.Test.YtepbpdipenedhaaGreatDoorR08
import Derived.Deep.DeepCutAuto
set_option maxHeartbeats 8000000
set_option maxRecDepth 100000
namespace Go.Proofs.YtepbpdipenedhaaGreatDoor
open Go.Proofs.Tryz
open Go.RowKit
variable{X l:List Int}{w:World}{i k q:Nat}{n:bP}{own:List Nat}{p:Int×Int}
def fT (X:List Int) (i:Int):List Int:=eu X (824+8*i.toNat)
def nu (X r:List Int):bP:=
 if (iR r).K=2 then { iR r with E:=rH X (dv X r) (r.getD 1 0).toNat } else { iR r with B:=dv X r }
def DI (X r:List Int):List Nat:=
 (if (iR r).K=2 then ((dv X r).take (bj (r.getD 1 0).toNat)).map Int.toNat else [])++(if r.getD 7 0=0 then [] else [(r.getD 7 0).toNat])
def mf (X r:List Int):Prop:=
 wm X r/\r.getD 1 0<=832/\((iR r).K=2->na X (dv X r) (r.getD 1 0).toNat)/\(iR r).F=1/\bZ (nu X r)/\il (nu X r) (dv X r) (r.getD 7 0)=r
theorem Fx{r:List Int}(h:In64 X)(J:In64 r)(z:r.length=8)(V:wm X r):∀k,0<=(dv X r).getD k 0/\(dv X r).getD k 0<256:=by
 intro k;by_cases U:k<13
 ·refine⟨?_,V.2.1 k U⟩
  unfold dv;by_cases W:k<5
  ·simp only[aj]
   rw[aY (by simp[z];omega),bO,aC W,bT];have :=(J (2+k)).1;rwa[aj] at this
  ·simp only[aj]
   rw[aQ (by simp[z];omega)];split
   ·rw[bo]
    split<;>simp
   ·have :((r.drop 2).take 5).length=5:=by simp[z]
    rw[this];have G:=j5 X (1080+8*(r.getD 7 0).toNat) (k-5) (by omega);rw[aj,aj] at G;rw[<-aj,<-aj,aj,aj] at *;rw[G];have :=(h (1080+8*(r.getD 7 0).toNat+(k-5))).1;rwa[aj] at this
 ·rw[aj,aT (by rw[vt z];omega)]
  simp
theorem Ph{y:Int}(h:0<=y/\y<18446744073709551616):(y<=832↔0<=wrap64 y/\wrap64 y<=832)/\(y<=832->wrap64 y=y):=by
 unfold wrap64;omega
def ky (w:World) (X:List Int) (i:Int) (e:Ending) (w':World):Prop:=
 ∃n v g own h z ok,e= .returned (.tuple #[.agg (aR n v),h,.bool ok])/\n.B.length=13/\bC w' v g n.E/\w.heap.size<=g/\lq w' h z own/\w.heap.size<=z/\
  (ok=true->(0<=i/\i<32)/\mf X (fT X i)/\n=nu X (fT X i)/\own=DI X (fT X i))/\
  (ok=false->¬((0<=i/\i<32)/\mf X (fT X i))/\n=cr/\own=[])/\az [] w w'
theorem ky.no{w':World}{i:Int}(h:¬((0<=i/\i<32)/\mf X (fT X i)))(z:az [] w w'):ky w X i (.returned (.tuple #[.agg (aR cr (.slice none 0 0)),.slice none 0 0,.bool false])) w':=
 ⟨cr,_,w.heap.size,[],_,w.heap.size,false,rfl,rfl,bC.nil _ _,aI _,lq.nil _ _,aI _,λh=>(by cases h),λ_=>⟨h,rfl,rfl⟩,z⟩
theorem Pj{g:Nat}(z:bh w g (aR cr (.slice none 0 0)) 111):
  ∃w',(storeVar 111 ⟨g,0,none⟩ (.agg (aR cr (.slice none 0 0)))).run prog w= .ok () w'/\(loadVar 111 ⟨g,0,none⟩).run prog w'= .ok (.agg (aR cr (.slice none 0 0))) w'/\az [g] w w':=by
 obtain⟨w',h,G,J⟩:=bB (P:= prog) (ty:= 111) (cs:=mo cr (.slice none 0 0)) (by rw[gU];exact iY) z rfl (ku rfl);exact⟨w',h,ct (n:=cr) (v:= .slice none 0 0) G rfl,J⟩
theorem aaP{b gp:Nat}{B:List Int}{ps:List (Int×Int)}(h:eO w b gp B ps)(bX:In64 (aA B ps))(i:Int):
  Calls prog 171 #[.pointer (some ⟨b,0,none⟩),.int .i64 i] w (ky w (aA B ps) i):=by
 have HS:=au h;have tu:=au bX;have cy:=bh.new w (aR cr (.slice none 0 0)) 111;have fW:Hid (az [] w (w.alloc (.cells (aR cr (.slice none 0 0)) 111))):=(az.refl _ _).alloc _;have oK:=au cy;have ub:=eA;have HI:=au (jY i);clear h bX cy;have ot:Hid (∀z:World,bh z w.heap.size (aR cr (.slice none 0 0)) 111->∃w',(storeVar 111 ⟨w.heap.size,0,none⟩ (.agg (aR cr (.slice none 0 0)))).run prog z= .ok () w'/\(loadVar 111 ⟨w.heap.size,0,none⟩).run prog w'= .ok (.agg (aR cr (.slice none 0 0))) w'/\az [w.heap.size] z w'):=λz hb=>Pj hb
 obtain⟨ZI,aQ⟩:∃ZI,aR cr (.slice none 0 0)=ZI:=⟨_,rfl⟩;rw[aQ] at ot oK fW;have dL:∀w:World,(zeroValue 111).run prog w= .ok (.agg ZI) w:=λw=>by rw[<-aQ];exact ub w
 have Zk:=au aQ;clear ub aQ;by_cases jK:i<0\/32<=i
 ·have aD:gF i= -1:=by unfold gF;rw[aC jK]
  rw[aD] at HI;obtain⟨w1,cf,qF,av⟩:=ot.out _ oK.out;have cW:=au cf;have p9:=au qF;have iU:=au (fW.out.trans av (by simp));have HN:Hid (¬((0<=i/\i<32)/\mf (aA B ps) (fT (aA B ps) i))):=λh=>by have :=h.1;omega
  clear cf qF av aD jK;go_enter func171,ntmps171;go_wp2_with fail;refine(HI.out _).mono ?_;rintro e w' ⟨rfl,rfl⟩;go_wp2_with(with_reducible refine gS 111 cW.out ?_);refine aL (bU results171 rfl p9.out rfl rfl) rfl ?_;have :=ky.no HN.out iU.out;rw[Zk.out] at this;exact this
 ·have aD:gF i=((824+8*i.toNat:Nat):Int):=by unfold gF;rw[aB jK];omega
  rw[aD] at HI;obtain⟨r,hr⟩:∃r,r=fT (aA B ps) i:=⟨_,rfl⟩;have wN:r.length=8:=by rw[hr];exact iD _ _
  have wD:In64 r:=λj=>by
   rw[hr];unfold fT;by_cases hj:j<8
   ·rw[j5 _ _ _ hj];exact tu.out _
   ·rw[aj,aT (by rw[iD];omega)]
    simp
  have ma:Hid (Calls prog 141 #[.pointer (some ⟨b,0,none⟩),.int .i64 ((824+8*i.toNat:Nat):Int)] (w.alloc (.cells ZI 111)) λe w'=>e= .returned (.agg (aW r).toArray)/\az [] (w.alloc (.cells ZI 111)) w'):=by
   rw[hr];exact oL (HS.out.keep fW.out (by simp) (by simp)) (824+8*i.toNat) (by omega)
  have jC:Hid (¬mf (aA B ps) r->¬((0<=i/\i<32)/\mf (aA B ps) (fT (aA B ps) i))):=λh hh=>h (by rw[hr];exact hh.2)
  have HR:=au hr;have d8:¬((824+8*i.toNat:Nat):Int)<0:=by omega
  generalize ((824+8*i.toNat:Nat):Int)=p at *;have dW:=kC;have OY:=oH;clear aD hr;go_enter func171,ntmps171;go_wp2_with fail;refine(HI.out _).mono ?_;rintro e w' ⟨rfl,rfl⟩;go_wp2_with fail;refine(HI.out _).mono ?_;rintro e w' ⟨rfl,rfl⟩;go_wp2_with fail;refine ma.out.mono ?_;rintro e w1 ⟨rfl,av⟩;obtain⟨w2,cv,KQ,bv⟩:=bB (P:= prog) (ty:= 195) (cs:=aW r) (by rw[bp,wN];exact ja) (bh.new w1 (aW (List.replicate 8 0)).toArray 195) (by simp[bp,wN]) (fh _);have cT:=(oK.out.keep av (by simp)).lt;have ae:az [] w w2:=((fW.out.trans' av).alloc (.cells (aW (List.replicate 8 0)).toArray 195)).trans bv (by intro x G;rw[ay] at G;omega);have cC:=((oK.out.keep av (by simp)).alloc (.cells (aW (List.replicate 8 0)).toArray 195)).keep bv (by rw[ay];omega);have cn:=au cv;have bW:=au (eY KQ wN);have Tp:=au (BV r wN (wD 0) (wD 1) w2);have fL:=au ae;have cR:=au cC;have OS:=au KQ;have yw:=au wD;have BS:=au wN;clear cv KQ bv av ae cC HI ma oK fW wD wN;go_wp2_with(first|(with_reducible refine gS 195 cn.out ?_)|(with_reducible refine gL 195 bW.out ?_));refine Tp.out.mono ?_;rintro e w5 ⟨rfl,j6⟩;obtain⟨wn,bQ,Ws,kG⟩:=bB (P:= prog) (ty:= 111) (cs:=mo (iR r) (.slice none 0 0)) (by rw[gU];exact iY) (bh.new w5 ZI 111) (by have hz:=Zk.out;rw[<-hz];rfl) (ku rfl);have d7:w1.heap.size<w5.heap.size:=bL OS.out.lt j6.size;have bg:az [] w2 wn:=(j6.alloc (.cells ZI 111)).trans kG (by intro x G;rw[ay] at G;have :=j6.size;omega);have bG:=au (OS.out.keep bg (by simp));have b9:=au (cR.out.keep bg (by simp));have bl:=au (fL.out.trans' bg);have bo:=au bQ;have WX:Hid (bh wn w5.heap.size (aR (iR r) (.slice none 0 0)) 111):=Ws;have e6:(Value.agg (mo (iR r) (.slice none 0 0)).toArray)= .agg (aR (iR r) (.slice none 0 0)):=rfl;rw[e6] at bo;have bY:=au (eY bG.out BS.out);have Hb:=au (JY (HS.out.keep bl.out (by simp) (by simp)) tu.out r BS.out yw.out);clear bQ Ws kG bg j6 OS cR fL Tp bW cn e6;go_wp2_with(first|(with_reducible refine gS 111 bo.out ?_)|(with_reducible refine gL 195 bY.out ?_));refine Hb.out.mono ?_;rintro e w3 ⟨la,W,ok,rfl,Tq,Tt,aY,bf⟩;obtain⟨w6,ck,cw,cu⟩:=bB (P:= prog) (ty:= 109) (cs:=zs la) (by rw[eF,aY];exact kP) (bh.new w3 (zs (List.replicate 13 0)).toArray 109) (by simp[eF,aY]) (l9 _);have dU:w5.heap.size<w3.heap.size:=bL WX.out.lt bf.size;have WY:az [] wn w6:=(bf.alloc (.cells (zs (List.replicate 13 0)).toArray 109)).trans cu (by intro x G;rw[ay] at G;have :=bf.size;omega);have dh:=au (bG.out.keep WY (by simp));have bI:=au (b9.out.keep WY (by simp));have Mh:=au (WX.out.keep WY (by simp));have bM:=au cw;have o8:=au (bl.out.trans' WY);have bb:=au ck;have eo:=au aY;have dP:w.heap.size<w1.heap.size:=cT;clear ck cw cu WY bf aY Hb bo bY bG b9 WX bl cT;cases ok
  ·have HN:=au (jC.out λh=>Tt rfl h.1)
   obtain⟨w9,Aw,Fh,j6⟩:=ot.out w6 bI.out;have Ay:=au Aw;have L5:=au Fh;have qG:=au (o8.out.trans j6 (by simp));clear Aw Fh j6 Tq Tt;generalize (zs la).toArray=cN at *;go_wp2_with(first|(with_reducible refine gS 109 bb.out ?_)|(with_reducible refine gS 111 Ay.out ?_));refine aL (bU results171 rfl L5.out rfl rfl) rfl ?_;have :=ky.no HN.out qG.out;rw[Zk.out] at this;exact this
  ·obtain⟨sX,rfl,rfl⟩:=Tq rfl
   have Hb:=au sX;clear Tq Tt sX;have b7:=yw.out 1;obtain⟨ak,Wq⟩:=Ph b7;obtain⟨sv,Zh⟩:∃sv,sv=wrap64 (r.getD 1 0):=⟨_,rfl⟩;rw[<-Zh] at ak Wq;have bH:w6.cell? ⟨w5.heap.size,3,none⟩=some (.int .i64 sv):=by rw[Mh.out.cell,Zh];rfl
   have bV:=au Zh;clear Zh;by_cases aM:sv<0\/832<sv
   ·have HN:=au (jC.out λh=>by have :=ak.1 h.2.1;omega)
    obtain⟨w9,Aw,Fh,j6⟩:=ot.out w6 bI.out;have Ay:=au Aw;have L5:=au Fh;have qG:=au (o8.out.trans j6 (by simp));clear Aw Fh j6 ak Wq b7;generalize (zs (dv (aA B ps) r)).toArray=cN at *;generalize r.getD 7 0=W at *;rcases aM with aM|aM
    ·go_wp2_with(first|(with_reducible refine gS 109 bb.out ?_)|(with_reducible refine gS 111 Ay.out ?_))
     refine aL (bU results171 rfl L5.out rfl rfl) rfl ?_;have :=ky.no HN.out qG.out;rw[Zk.out] at this;exact this
    ·have dC:¬sv<0:=by omega
     go_wp2_with(first|(with_reducible refine gS 109 bb.out ?_)|(with_reducible refine gS 111 Ay.out ?_));refine aL (bU results171 rfl L5.out rfl rfl) rfl ?_;have :=ky.no HN.out qG.out;rw[Zk.out] at this;exact this
   ·have bT:r.getD 1 0<=832:=ak.2 (by omega)
    have bn:=Wq bT;have dJ:Hid (wrap64 (r.getD 1 0)=r.getD 1 0):=by show _=_;rw[<-bV.out];exact bn
    have dC:¬r.getD 1 0<0:=by omega
    have eu:¬832<r.getD 1 0:=by omega
    rw[bn] at bH;clear ak Wq bn bV;have dN:¬832<r.getD 1 0:=by omega
    generalize cL:r.getD 1 0=r1 at *;have WZ:=au cL;generalize cz:r.getD 7 0=W at *;have aZ:=au cz;clear cL cz bT;have cK:w6.cell? ⟨w5.heap.size,1,none⟩=some (.int .i64 (iR r).K):=by rw[Mh.out.cell];rfl
    have cS:=bH;clear bH;have oo:=au (vt (X:=aA B ps) BS.out);have Pk:Hid (∀k,0<=(dv (aA B ps) r).getD k 0/\(dv (aA B ps) r).getD k 0<256):=Fx tu.out yw.out BS.out Hb.out;have cF:Hid (∀z,az [] w6 z->(loadVar 109 ⟨w3.heap.size,0,none⟩).run prog z= .ok (.agg (zs (dv (aA B ps) r)).toArray) z):=λz V=>
     fc (off:=0) (bM.out.keep V (by simp)) oo.out (λk V=>by rw[aX,aF,fR (by rw[oo.out];exact V)])
    have b8:(0<=i/\i<32):=by omega
    have dw:=au b8;clear b8 jK;have d9:w5.heap.size<w6.heap.size:=Mh.out.lt
    go_upto_if 45 with(with_reducible refine gS 109 bb.out ?_)
    go_cut [11,12] (λKR s12 z=>∃(n:bP) (v:Value) (g:Nat) (own:List Nat) (GY:Bool) (J:Nat),KR= .bool GY/\Hid (z.ownsRow J 3 1 s12 own.length (dE own)/\w6.heap.size<=J/\J<=z.heap.size/\(n.E.length≠0->g<J)/\w.heap.size<g/\own.length<=13/\bh z w5.heap.size (aR n v) 111/\n.B.length=13/\bC z v g n.E/\v.oneCell'=true/\yK n/\(∀k,k<n.E.length->(eU n.E k).size<=9223372036854775807)/\az [w5.heap.size] w6 z/\
     (GY=true->n=nu (aA B ps) r/\own=(if (iR r).K=2 then ((dv (aA B ps) r).take (bj r1.toNat)).map Int.toNat else [])/\((iR r).K=2->na (aA B ps) (dv (aA B ps) r) r1.toNat))/\(GY=false->¬mf (aA B ps) r)))
    case first=>
     have dM:=yw.out 0;have IK:Hid (yK { iR r with B:=dv (aA B ps) r }):=by
      have h3:=WZ.out;refine⟨?_,?_,?_,?_⟩
      ·show 0<=r.getD 0 0%256/\r.getD 0 0%256<256;omega
      ·show 0<=r.getD 0 0/256%256/\r.getD 0 0/256%256<256;omega
      ·show 0<=r.getD 0 0/65536%65536/\r.getD 0 0/65536%65536<65536;omega
      ·show 0<=wrap64 (r.getD 1 0)/\wrap64 (r.getD 1 0)<9223372036854775808;rw[h3,dJ.out];omega
     by_cases ae:(iR r).K=2
     ·have ek:((iR r).K==2)=true:=beq_iff_eq.2 ae
      obtain⟨m,hm⟩:∃m:Nat,r1=(m:Int):=⟨r1.toNat,by omega⟩;have W4:r1.toNat=m:=by omega
      rw[hm] at cS;have Fe:=au (JZ (HS.out.keep o8.out (by simp) (by simp)) tu.out (dv (aA B ps) r) oo.out Pk.out m (by omega));have Hc:=au (cF.out w6 (az.refl _ _));have bJ:=au W4;have cA:=λc hc z=>LG w3.heap.size c hc z
      obtain⟨i0,hi,bF,bt,bw⟩:=cP Tryz.info_int;have VB:=au hi;clear hm W4 hi;have Re:=au ae;generalize cp:(iR r).K=kk at cK ek;have sy:=au cp;clear cp ae;go_wp2_with(with_reducible refine gL 109 Hc.out ?_);refine Fe.out.mono ?_;rintro e w7 ⟨v,E,ba,g,rfl,hE,hg,Mg,G8,zW⟩;have bR:E.length<=24:=by
       cases ba
       ·rw[(G8 rfl).2];simp
       ·obtain⟨h1,h2⟩:=Mg rfl
        rw[h2,pC];exact h1.1
      have yz:bj E.length<=13:=by unfold bj;omega
      obtain⟨a,cap,rfl,dK,dA,-⟩:=hE.open;have Fy:=Mh.out.keep zW (by simp);have ej:w7.cell? ⟨w5.heap.size,17,none⟩=some (.slice none 0 0):=by rw[Fy.cell];exact zk _ rfl
      have dR:w7.frozen? ⟨w5.heap.size,17,none⟩=false:=Fy.frozen 17;have W6:=J2 (u:= .slice a E.length cap) (E:=E) Fy rfl;have dB:=au (ct W6 rfl);have Zg:=au (rG { iR r with E:=E } a cap rfl (by show E.length<=100000;omega));have b6:bC (w7.setCell ⟨w5.heap.size,17,none⟩ (.slice a E.length cap)) (.slice a E.length cap) g E:=hE.keep ((az.refl [w5.heap.size] w7).setCell (p:=⟨w5.heap.size,17,none⟩) (by simp) _) (λ_=>by rw[ay];omega);have uS:az [w5.heap.size] w6 (w7.setCell ⟨w5.heap.size,17,none⟩ (.slice a E.length cap)):=(zW.mono (by simp)).setCell (.inl (by simp)) _;have dz:=au b6;have Pm:=au uS;have Pd:=au W6;have HG:=au hg;have Dv:=au Mg;have N7:=au G8;have Au:=au bR;have dF:=au (bM.out.keep uS (by rw[ay];omega));have ei:=cA (bj E.length) yz;have dn:Hid (bj E.length<=13):=yz;unfold maxLen at dA;clear hE hg Mg G8 zW Fy W6 b6 uS cA bR yz Fe Hc;have dt:Hid (∀z,Calls prog 192 #[.agg (aR { iR r with E:=E } (.slice a E.length cap))] z λe w'=>e= .returned (.int .i64 ((bj E.length:Nat):Int))/\az [] z w'):=Zg.out;have cx:Hid (E.length=E.length):=rfl;clear Zg cx;go_wp2_with(with_reducible refine gL 111 dB.out ?_);refine(dt.out _).mono ?_;rintro e w9 ⟨rfl,DJ⟩;have dx:=au (dF.out.keep DJ (by simp));have cH:=au (dz.out.keep DJ (by simp));have WI:=au (Pd.out.keep DJ (by simp));have Zl:=au (Pm.out.trans DJ (by simp));clear DJ;generalize cg:bj E.length=c at *;have Tu:=au cg;clear cg;have dc:=dn.out;have hi:=VB.out;go_wp2_with(at_builtin;refine dO _ rfl _ _ 141 rfl w9.heap.size 3 i0 (.int .i64 0) 1 8 underlying141 hi bF bt bw rfl (by decide) (.slice none 0 0) 0 [] rfl ⟨rfl,.inl ⟨rfl,rfl⟩⟩ ⟨w3.heap.size,0,none⟩ c 13 (zs ((dv (aA B ps) r).take c)) rfl ?c1 ?c2 (l9 _) (by unfold maxLen;omega) (by omega) (aI _) ?_);case c1=>rw[eF,aJ,oo.out];omega
      case c2=>
       intro j u hu;rw[add_plain,aX,dx.out.cell,aF];have hj:j<c:=by
        have :=(List.getElem?_eq_some_iff.1 hu).1;rw[eF,aJ] at this;omega
       rw[fR (by rw[oo.out];omega)];rw[fR (by rw[aJ,oo.out];omega)] at hu;rw[<-hu];simp[hj]
      intro v' ax ac aa _;have Mi:az [] w9 ax:=az.of_grown aa (by simp[Value.ownBlock]);have cG:g<w9.heap.size\/E.length=0:=by
       obtain⟨a2,c2,-,-,-,h4⟩:=cH.out;by_cases h0:E.length=0
       ·exact .inr h0
       ·exact .inl (h4 h0).1
      have Pn:Hid (∃(n:bP) (v:Value) (g:Nat) (own:List Nat) (GY:Bool) (J:Nat),Value.bool ba= .bool GY/\Hid (ax.ownsRow J 3 1 v' own.length (dE own)/\w6.heap.size<=J/\J<=ax.heap.size/\(n.E.length≠0->g<J)/\w.heap.size<g/\own.length<=13/\bh ax w5.heap.size (aR n v) 111/\n.B.length=13/\bC ax v g n.E/\v.oneCell'=true/\yK n/\(∀k,k<n.E.length->(eU n.E k).size<=9223372036854775807)/\az [w5.heap.size] w6 ax/\
       (GY=true->n=nu (aA B ps) r/\own=(if (iR r).K=2 then ((dv (aA B ps) r).take (bj r1.toNat)).map Int.toNat else [])/\((iR r).K=2->na (aA B ps) (dv (aA B ps) r) r1.toNat))/\(GY=false->¬mf (aA B ps) r))):=by
       have cj:(((dv (aA B ps) r).take c).map Int.toNat).length=c:=by rw[bS,aJ,oo.out];omega
       have dG:dE (((dv (aA B ps) r).take c).map Int.toNat)=zs ((dv (aA B ps) r).take c):=ac1 λk=>by
        by_cases V:k<c
        ·have :=(Pk.out k).1
         simp only[aj,bO,aC V] at this ⊢;exact this
        ·rw[aj,bO,aB V]
         simp
       refine⟨{ iR r with E:=E },.slice a E.length cap,g,((dv (aA B ps) r).take c).map Int.toNat,ba,w9.heap.size,rfl,?_,Zl.out.size,Mi.size,λh=>cG.resolve_right h,by have :=HG.out;have :=o8.out.size;omega,by rw[cj];exact dc,WI.out.keep Mi (by simp),rfl,cH.out.keep Mi (by simp),rfl,⟨IK.out.f,IK.out.k,IK.out.l,IK.out.s⟩,?_,Zl.out.trans Mi (by simp),λh=> ?_,λh hr=> ?_⟩
       ·rw[cj,dG]
        exact ac
       ·intro k V
        cases aU:ba
        ·have h2:=(N7.out aU).2
         have ar:k<E.length:=V;rw[h2] at ar;simp at ar
        ·have h2:=(Dv.out aU).2
         have ar:k<E.length:=V;show(eU E k).size<=_;rw[h2,pC] at ar;rw[h2,(BR _ _ _ _ ar).1];have :=xS (zw (aA B ps) (dv (aA B ps) r) k);omega
       ·obtain⟨h1,h2⟩:=Dv.out h
        rw[bJ.out];refine⟨?_,?_,λ_=>h1⟩
        ·unfold nu
         rw[aC Re.out,WZ.out,bJ.out,<-h2]
        ·rw[aC Re.out,<-Tu.out,h2,pC]
       ·have h2:=hr.2.2.1 Re.out
        rw[WZ.out,bJ.out] at h2;exact(N7.out h).1 h2
      clear ac aa Mi cG hi;go_wp2_with fail;go_meet;case rel=>exact Pn.out
     ·have ek:((iR r).K==2)=false:=cQ.2 ae
      obtain⟨w7,cD,Fy,zW⟩:=Q9 (l:=dv (aA B ps) r) Mh.out rfl oo.out;have Hc:=au (cF.out w6 (az.refl _ _));have cY:=au cD;have Pn:Hid (∃(n:bP) (v:Value) (g:Nat) (own:List Nat) (GY:Bool) (J:Nat),Value.bool true= .bool GY/\Hid (w7.ownsRow J 3 1 (.slice none 0 0) own.length (dE own)/\w6.heap.size<=J/\J<=w7.heap.size/\(n.E.length≠0->g<J)/\w.heap.size<g/\own.length<=13/\bh w7 w5.heap.size (aR n v) 111/\n.B.length=13/\bC w7 v g n.E/\v.oneCell'=true/\yK n/\(∀k,k<n.E.length->(eU n.E k).size<=9223372036854775807)/\az [w5.heap.size] w6 w7/\
       (GY=true->n=nu (aA B ps) r/\own=(if (iR r).K=2 then ((dv (aA B ps) r).take (bj r1.toNat)).map Int.toNat else [])/\((iR r).K=2->na (aA B ps) (dv (aA B ps) r) r1.toNat))/\(GY=false->¬mf (aA B ps) r))):=by
       refine⟨{ iR r with B:=dv (aA B ps) r },.slice none 0 0,w6.heap.size,[],true,w6.heap.size,rfl,⟨rfl,.inl ⟨rfl,rfl⟩⟩,aI _,zW.size,λh=>absurd rfl h,by omega,by simp,Fy,oo.out,bC.nil _ _,rfl,IK.out,λk V=>absurd V (by show ¬k<0;omega),zW,λ_=>⟨?_,by rw[aB ae],λh=>absurd h ae⟩,λh=>(by cases h)⟩;unfold nu;rw[aB ae]
      clear cD Fy zW;generalize (zs (dv (aA B ps) r)).toArray=cN at *;generalize (iR r).K=kk at *;go_wp2_with(first|(with_reducible refine gL 109 Hc.out ?_)|(with_reducible refine gS 109 cY.out ?_));go_meet;case rel=>exact Pn.out
    case rest=>
     obtain⟨n,v,g,own,GY,J,rfl,HC⟩:=hcut;obtain⟨bk,dV,dZ,dI,dg,rI,CX,W7,hE,cV,cB,cd,af,Tq,Tt⟩:=HC.out;obtain⟨i0,hi,bF,bt,bw⟩:=cP Tryz.info_int;have VB:=au hi;have cm:=yw.out 7;rw[aZ.out] at cm;have dY:W<256:=by have :=Hb.out.1;rw[aZ.out] at this;exact this
     have zx:=au CX;have HE:=au hE;have Re:=au af;have bA:=au bk;have cX:=au cV;have dD:=au cB;have di:=au cd;have aV:=au Tq;have br:=au Tt;have KV:=au W7;clear HC bk CX hE af Tq Tt hi cV cB cd W7
     go_upto_if 63 with fail
     go_cut [12] (λs12 z=>∃(ga:Nat),Hid (lq z s12 ga (own++(if W=0 then [] else [W.toNat]))/\w.heap.size<ga/\bh z w5.heap.size (aR n v) 111/\bC z v g n.E/\az [w5.heap.size] w6 z))
     case first=>
      by_cases aS:W=0
      ·have e0:(W != 0)=false:=by rw[aS];rfl
       have Pn:Hid (∃(ga:Nat),Hid (lq wc u12 ga (own++(if W=0 then [] else [W.toNat]))/\w.heap.size<ga/\bh wc w5.heap.size (aR n v) 111/\bC wc v g n.E/\az [w5.heap.size] w6 wc)):=by
        obtain⟨ga,ho,tv⟩:=lq.of_row bA.out;rw[aC aS,bu];exact⟨ga,ho,by have :=o8.out.size;omega,zx.out,HE.out,Re.out⟩
       go_wp2_with fail;go_meet;case rel=>exact Pn.out
      ·have e0:(W != 0)=true:=bne_iff_ne.2 aS
       have hi:=VB.out;go_wp2_with(at_builtin;refine dO _ rfl _ _ 141 rfl J 3 i0 (.int .i64 0) 1 8 underlying141 hi bF bt bw rfl (by decide) u12 own.length (dE own) rfl (bA.out.alloc _) ⟨wc.heap.size,0,none⟩ 1 1 [.int .i64 W] rfl rfl ?c1 ?c2 (by unfold maxLen;omega) (by omega) (by simp;omega) ?_);case c1=>exact jP _ [_] _ _ rfl
       case c2=>simp[Value.oneCell']
       intro v' w8 ac aa cU;have Pn:Hid (∃(ga:Nat),Hid (lq w8 v' ga (own++(if W=0 then [] else [W.toNat]))/\w.heap.size<ga/\bh w8 w5.heap.size (aR n v) 111/\bC w8 v g n.E/\az [w5.heap.size] w6 w8)):=by
        have e1:dE (own++[W.toNat])=dE own++[.int .i64 W]:=by
         rw[sG]
         congr 1
         simp[dE];omega
        have aP:=ac;rw[<-e1,show own.length+1=(own++[W.toNat]).length by simp] at aP;obtain⟨ga,ho,tv⟩:=lq.of_row aP;rw[aB aS];have aN:∀k,u12.ownBlock=some k->J<=k:=cZ bA.out;have wM:az [w5.heap.size] w6 w8:=(Re.out.alloc (.cells #[.int .i64 W] 3)).trans (az.of_grown (l:=(u12.ownBlock).toList) aa (λk V=> .inl (by rw[V];simp))) (λx G=> .inr (by
         cases hub:u12.ownBlock with
         |none=>rw[hub] at G;simp at G
         |some y=>
          rw[hub] at G;simp at G;have :=aN y hub;omega))
        refine⟨ga,ho,by have :=o8.out.size;omega,?_,?_,wM⟩
        ·exact(aa.block _ (zx.out.alloc _).lt (λe=>by have :=aN _ e.symm;omega)).trans (zx.out.alloc _)
        ·refine(HE.out.keep ((az.refl [] wc).alloc _) (by simp)).keep (az.of_grown (l:=(u12.ownBlock).toList) aa (λk V=> .inl (by rw[V];simp))) λh0 hm=> ?_
         cases hub:u12.ownBlock with
         |none=>rw[hub] at hm;simp at hm
         |some y=>
          rw[hub] at hm;simp at hm;have :=aN y hub;have :=dI h0;omega
       clear ac aa cU hi;go_wp2_with fail;go_meet;case rel=>exact Pn.out
     case rest=>
      obtain⟨ga,HD⟩:=hcut;obtain⟨wP,tv,CX,hE,af⟩:=HD.out;have dQ:w.heap.size<w5.heap.size:=by omega
      have W8:=au (bI.out.keep af (by rw[ay];omega));have aO:Hid (az [] w wc):=o8.out.trans af (by intro x G;rw[ay] at G;omega);have cI:=dh.out.keep af (by rw[ay];omega);have cE:=bM.out.keep af (by rw[ay];omega);have aG:Hid (∀z,az [] wc z->(loadVar 3 ⟨w5.heap.size,0,none⟩).run prog z= .ok (.int .i64 n.F) z):=λz V=>ER (off:=0) underlying3 (CX.keep V (by simp)) rfl
      have AO:Hid (∀z,az [] wc z->(loadVar 111 ⟨w5.heap.size,0,none⟩).run prog z= .ok (.agg (aR n v)) z):=λz V=>ct (CX.keep V (by simp)) KV.out
      have W9:Hid (∀z,az [] wc z->(loadVar 109 ⟨w3.heap.size,0,none⟩).run prog z= .ok (.agg (zs (dv (aA B ps) r)).toArray) z):=λz V=>
       fc (off:=0) (cE.keep V (by simp)) oo.out (λk V=>by rw[aX,aF,fR (by rw[oo.out];exact V)])
      have Xa:Hid (∀z,az [] wc z->(loadVar 195 ⟨w1.heap.size,0,none⟩).run prog z= .ok (.agg (aW r).toArray) z):=λz V=>eY (cI.keep V (by simp)) BS.out
      have yR:Hid (∀z,az [] wc z->Calls prog 96 #[.agg (aR n v)] z λe w'=>e= .returned (.bool (decide (bZ n)))/\az [] z w'):=λz V=>nt n v g KV.out z (hE.keep V (by simp)) di.out
      have Dy:Hid (∀z,Calls prog 193 #[.agg (aR n v),.agg (zs (dv (aA B ps) r)).toArray,.int .i64 W] z λe w'=>e= .returned (.agg (aW (il n (dv (aA B ps) r) W)).toArray)/\az [] z w'):=λz=>
       CZ n v KV.out dD.out _ oo.out (λk=>by have :=Pk.out k;omega) W ⟨cm.1,by omega⟩ z
      have cM:(il n (dv (aA B ps) r) W).length=8:=by simp[il,oo.out]
      have bD:=au (λz=>Iq (a:=il n (dv (aA B ps) r) W) (b:=r) cM BS.out z);have ed:=tH;have J3:Hid (GY=true->(mf (aA B ps) r↔n.F=1/\bZ n/\il n (dv (aA B ps) r) W=r)):=λh=>by
       obtain⟨h1,-,h3⟩:=aV.out h;have hF:n.F=(iR r).F:=by
        rw[h1];unfold nu;split<;>rfl
       unfold mf;rw[<-h1,hF,aZ.out,WZ.out];exact⟨λh=>h.2.2.2,λh=>⟨Hb.out,by omega,h3,h⟩⟩
      have lU:Hid (∀z,az [] wc z->GY=true->mf (aA B ps) r->∃w',(storeVar 111 ⟨w.heap.size,0,none⟩ (.agg (aR n v))).run prog z= .ok () w'/\(loadVar 111 ⟨w.heap.size,0,none⟩).run prog w'= .ok (.agg (aR n v)) w'/\ky w (aA B ps) i (.returned (.tuple #[.agg (aR n v),u12,.bool true])) w'):=λz V aU bE=>by
       obtain⟨w',h1,h2,h3⟩:=bB (P:= prog) (ty:= 111) (cs:=mo n v) (by rw[gU,KV.out];exact iY) (W8.out.keep V (by simp)) (by have hz:=Zk.out;rw[<-hz,gU,KV.out];rfl) (ku cX.out);obtain⟨e1,e2,-⟩:=aV.out aU;have ar:az [] w w':=(aO.out.trans' V).trans h3 (by intro x G;rw[ay] at G;omega);refine⟨w',h1,ct h2 KV.out,n,v,g,own++(if W=0 then [] else [W.toNat]),u12,ga,true,rfl,KV.out,?_,Nat.le_of_lt dg,?_,Nat.le_of_lt tv,λ_=>⟨dw.out,?_,?_,?_⟩,λh=>(by cases h),ar⟩
       ·refine(hE.keep V (by simp)).keep h3 λh0=> ?_
        rw[ay];omega
       ·refine(wP.keep V (by simp)).keep h3 ?_
        rw[ay];omega
       ·rw[<-HR.out];exact bE
       ·rw[<-HR.out];exact e1
       ·rw[<-HR.out,e2]
        unfold DI;rw[aZ.out,WZ.out]
      clear HD wP tv CX hE af cI cE cM;obtain⟨tR,bN⟩:∃t,decide (bZ n)=t:=⟨_,rfl⟩;rw[bN] at yR;obtain⟨tW,bz⟩:∃t,decide (il n (dv (aA B ps) r) W=r)=t:=⟨_,rfl⟩;rw[bz] at bD;have dS:=bD.out;have cO:=au bN;have cJ:=au bz;clear bN bz bD;generalize (aW (il n (dv (aA B ps) r) W)).toArray=ZW at *;generalize (zs (dv (aA B ps) r)).toArray=ZA at *;generalize (aW r).toArray=ZR at *;generalize aR n v=ZN at *;generalize hf:n.F=f at *;have Rf:=au hf;clear hf;have bK:Hid (¬(GY=true/\f=1/\tR=true/\tW=true)->¬((0<=i/\i<32)/\mf (aA B ps) (fT (aA B ps) i))):=λh=>jC.out λhr=>by
       cases adm:GY
       ·exact br.out adm hr
       ·obtain⟨h1,h2,h3⟩:=(J3.out adm).1 hr
        refine h ⟨adm,h1,?_,?_⟩
        ·rw[<-cO.out];exact bq h2
        ·rw[<-cJ.out];exact bq h3
      by_cases yS:GY=true/\f=1/\tR=true/\tW=true
      ·obtain⟨rfl,rfl,rfl,rfl⟩:=yS
       have dm:Hid (mf (aA B ps) r):=(J3.out rfl).2 ⟨rfl,of_decide_eq_true cO.out,of_decide_eq_true cJ.out⟩;have Tv:(1:Int)=1:=rfl;clear bK jC J3 aV br;go_wp2_with fail;refine dX (S:=λz=>az [] wc z) (by kernel_rfl) (by kernel_rfl) (λd _ _ _ _ h=>by cases d<;>exact h) ((az.refl _ _).drew) (by kernel_rfl) ?_;repeat (first
        |(refine aK.cons (.int .i64 1) (bc.load rfl 3 (.tmp 71) rfl _ rfl λz G=>aG.out z G) ?_;simp only[Act.put,ag,ah,ai])
        |(refine aK.cons (.agg ZN) (bc.load rfl 111 (.tmp 8) rfl _ rfl λz G=>AO.out z G) ?_;simp only[Act.put,ag,ah,ai])
        |(refine aK.cons (.agg ZA) (bc.load rfl 109 (.tmp 9) rfl _ rfl λz G=>W9.out z G) ?_;simp only[Act.put,ag,ah,ai])
        |(refine aK.cons (.agg ZR) (bc.load rfl 195 (.tmp 7) rfl _ rfl λz G=>Xa.out z G) ?_;simp only[Act.put,ag,ah,ai])
        |(refine aK.cons (.bool true) (bc.call rfl 96 #[.agg ZN] ?U ?h) ?_;(case U=>(intro wz;go_simp));(case h=>exact λz G=>(yR.out z G).mono λe w' U=>⟨U.1,G.trans' U.2⟩);simp only[Act.put,ag,ah,ai])
        |(refine aK.cons (.agg ZW) (bc.call rfl 193 #[.agg ZN,.agg ZA,.int .i64 W] ?U ?h) ?_;(case U=>(intro wz;go_simp));(case h=>exact λz G=>(Dy.out z).mono λe w' U=>⟨U.1,G.trans' U.2⟩);simp only[Act.put,ag,ah,ai])
        |(refine aK.cons undef (bc.off rfl) ?_;simp only[Act.put,ag,ah,ai])
        |(refine aK.cons (.bool true) (bc.val rfl ?h) ?_;(case h=>(intro z G;clear G;first|(go_simp;done)|(go_simp;simp[Tv];done)));simp only[Act.put,ag,ah,ai])
        |(refine aK.cons (.bool false) (bc.val rfl ?h) ?_;(case h=>(intro z G;clear G;first|(go_simp;done)|(go_simp;simp[Tv];done)));simp only[Act.put,ag,ah,ai])
        |(refine aK.cons ?_ (bc.val rfl ?h) ?_;(case h=>(intro z G;clear G;go_simp;rfl));simp only[Act.put,ag,ah,ai]))
       refine aK.done λwz G=> ?_
       have wO:=au G;clear G;obtain⟨w9,AP,AQ,aH⟩:=lU.out wz wO.out trivial dm.out;have J4:=au AP;have J5:=au AQ;have df:=au aH;have dH:=au (AO.out wz wO.out);clear AP AQ aH;go_wp2_with(first|(with_reducible refine gL 111 dH.out ?_)|(with_reducible refine gS 111 J4.out ?_));exact aL (bU results171 rfl J5.out rfl rfl) rfl df.out
      ·have HN:=au (bK.out yS)
       clear bK jC J3 aV br lU;cases GY
       ·have Tv:(1:Int)=1:=rfl
        clear yS;go_wp2_with fail;refine dX (S:=λz=>az [] wc z) (by kernel_rfl) (by kernel_rfl) (λd _ _ _ _ h=>by cases d<;>exact h) ((az.refl _ _).drew) (by kernel_rfl) ?_;repeat (first
         |(refine aK.cons (.int .i64 f) (bc.load rfl 3 (.tmp 71) rfl _ rfl λz G=>aG.out z G) ?_;simp only[Act.put,ag,ah,ai])
         |(refine aK.cons (.agg ZN) (bc.load rfl 111 (.tmp 8) rfl _ rfl λz G=>AO.out z G) ?_;simp only[Act.put,ag,ah,ai])
         |(refine aK.cons (.agg ZA) (bc.load rfl 109 (.tmp 9) rfl _ rfl λz G=>W9.out z G) ?_;simp only[Act.put,ag,ah,ai])
         |(refine aK.cons (.agg ZR) (bc.load rfl 195 (.tmp 7) rfl _ rfl λz G=>Xa.out z G) ?_;simp only[Act.put,ag,ah,ai])
         |(refine aK.cons (.bool tR) (bc.call rfl 96 #[.agg ZN] ?U ?h) ?_;(case U=>(intro wz;go_simp));(case h=>exact λz G=>(yR.out z G).mono λe w' U=>⟨U.1,G.trans' U.2⟩);simp only[Act.put,ag,ah,ai])
         |(refine aK.cons (.agg ZW) (bc.call rfl 193 #[.agg ZN,.agg ZA,.int .i64 W] ?U ?h) ?_;(case U=>(intro wz;go_simp));(case h=>exact λz G=>(Dy.out z).mono λe w' U=>⟨U.1,G.trans' U.2⟩);simp only[Act.put,ag,ah,ai])
         |(refine aK.cons undef (bc.off rfl) ?_;simp only[Act.put,ag,ah,ai])
         |(refine aK.cons (.bool true) (bc.val rfl ?h) ?_;(case h=>(intro z G;clear G;first|(go_simp;done)|(go_simp;simp[Tv];done)));simp only[Act.put,ag,ah,ai])
         |(refine aK.cons (.bool false) (bc.val rfl ?h) ?_;(case h=>(intro z G;clear G;first|(go_simp;done)|(go_simp;simp[Tv];done)));simp only[Act.put,ag,ah,ai])
         |(refine aK.cons ?_ (bc.val rfl ?h) ?_;(case h=>(intro z G;clear G;go_simp;rfl));simp only[Act.put,ag,ah,ai]))
        refine aK.done λwz G=> ?_
        have wO:=au G;clear G;obtain⟨w9,AP,AQ,DJ⟩:=ot.out wz (W8.out.keep wO.out (by simp));have J4:=au AP;have J5:=au AQ;have Zl:=au ((aO.out.trans' wO.out).trans DJ (by intro x G;rw[ay] at G;omega));clear AP AQ DJ;go_wp2_with(with_reducible refine gS 111 J4.out ?_);refine aL (bU results171 rfl J5.out rfl rfl) rfl ?_;have :=ky.no HN.out Zl.out;rw[Zk.out] at this;exact this
       ·by_cases Zd:f=1
        ·subst Zd
         have Tv:(1:Int)=1:=rfl;cases tR
         ·clear yS
          go_wp2_with fail;refine dX (S:=λz=>az [] wc z) (by kernel_rfl) (by kernel_rfl) (λd _ _ _ _ h=>by cases d<;>exact h) ((az.refl _ _).drew) (by kernel_rfl) ?_;repeat (first
           |(refine aK.cons (.int .i64 1) (bc.load rfl 3 (.tmp 71) rfl _ rfl λz G=>aG.out z G) ?_;simp only[Act.put,ag,ah,ai])
           |(refine aK.cons (.agg ZN) (bc.load rfl 111 (.tmp 8) rfl _ rfl λz G=>AO.out z G) ?_;simp only[Act.put,ag,ah,ai])
           |(refine aK.cons (.agg ZA) (bc.load rfl 109 (.tmp 9) rfl _ rfl λz G=>W9.out z G) ?_;simp only[Act.put,ag,ah,ai])
           |(refine aK.cons (.agg ZR) (bc.load rfl 195 (.tmp 7) rfl _ rfl λz G=>Xa.out z G) ?_;simp only[Act.put,ag,ah,ai])
           |(refine aK.cons (.bool false) (bc.call rfl 96 #[.agg ZN] ?U ?h) ?_;(case U=>(intro wz;go_simp));(case h=>exact λz G=>(yR.out z G).mono λe w' U=>⟨U.1,G.trans' U.2⟩);simp only[Act.put,ag,ah,ai])
           |(refine aK.cons (.agg ZW) (bc.call rfl 193 #[.agg ZN,.agg ZA,.int .i64 W] ?U ?h) ?_;(case U=>(intro wz;go_simp));(case h=>exact λz G=>(Dy.out z).mono λe w' U=>⟨U.1,G.trans' U.2⟩);simp only[Act.put,ag,ah,ai])
           |(refine aK.cons undef (bc.off rfl) ?_;simp only[Act.put,ag,ah,ai])
           |(refine aK.cons (.bool true) (bc.val rfl ?h) ?_;(case h=>(intro z G;clear G;first|(go_simp;done)|(go_simp;simp[Tv];done)));simp only[Act.put,ag,ah,ai])
           |(refine aK.cons (.bool false) (bc.val rfl ?h) ?_;(case h=>(intro z G;clear G;first|(go_simp;done)|(go_simp;simp[Tv];done)));simp only[Act.put,ag,ah,ai])
           |(refine aK.cons ?_ (bc.val rfl ?h) ?_;(case h=>(intro z G;clear G;go_simp;rfl));simp only[Act.put,ag,ah,ai]))
          refine aK.done λwz G=> ?_
          have wO:=au G;clear G;obtain⟨w9,AP,AQ,DJ⟩:=ot.out wz (W8.out.keep wO.out (by simp));have J4:=au AP;have J5:=au AQ;have Zl:=au ((aO.out.trans' wO.out).trans DJ (by intro x G;rw[ay] at G;omega));clear AP AQ DJ;go_wp2_with(with_reducible refine gS 111 J4.out ?_);refine aL (bU results171 rfl J5.out rfl rfl) rfl ?_;have :=ky.no HN.out Zl.out;rw[Zk.out] at this;exact this
         ·cases tW
          ·clear yS
           go_wp2_with fail;refine dX (S:=λz=>az [] wc z) (by kernel_rfl) (by kernel_rfl) (λd _ _ _ _ h=>by cases d<;>exact h) ((az.refl _ _).drew) (by kernel_rfl) ?_;repeat (first
            |(refine aK.cons (.int .i64 1) (bc.load rfl 3 (.tmp 71) rfl _ rfl λz G=>aG.out z G) ?_;simp only[Act.put,ag,ah,ai])
            |(refine aK.cons (.agg ZN) (bc.load rfl 111 (.tmp 8) rfl _ rfl λz G=>AO.out z G) ?_;simp only[Act.put,ag,ah,ai])
            |(refine aK.cons (.agg ZA) (bc.load rfl 109 (.tmp 9) rfl _ rfl λz G=>W9.out z G) ?_;simp only[Act.put,ag,ah,ai])
            |(refine aK.cons (.agg ZR) (bc.load rfl 195 (.tmp 7) rfl _ rfl λz G=>Xa.out z G) ?_;simp only[Act.put,ag,ah,ai])
            |(refine aK.cons (.bool true) (bc.call rfl 96 #[.agg ZN] ?U ?h) ?_;(case U=>(intro wz;go_simp));(case h=>exact λz G=>(yR.out z G).mono λe w' U=>⟨U.1,G.trans' U.2⟩);simp only[Act.put,ag,ah,ai])
            |(refine aK.cons (.agg ZW) (bc.call rfl 193 #[.agg ZN,.agg ZA,.int .i64 W] ?U ?h) ?_;(case U=>(intro wz;go_simp));(case h=>exact λz G=>(Dy.out z).mono λe w' U=>⟨U.1,G.trans' U.2⟩);simp only[Act.put,ag,ah,ai])
            |(refine aK.cons undef (bc.off rfl) ?_;simp only[Act.put,ag,ah,ai])
            |(refine aK.cons (.bool true) (bc.val rfl ?h) ?_;(case h=>(intro z G;clear G;first|(go_simp;done)|(go_simp;simp[Tv];done)));simp only[Act.put,ag,ah,ai])
            |(refine aK.cons (.bool false) (bc.val rfl ?h) ?_;(case h=>(intro z G;clear G;first|(go_simp;done)|(go_simp;simp[Tv];done)));simp only[Act.put,ag,ah,ai])
            |(refine aK.cons ?_ (bc.val rfl ?h) ?_;(case h=>(intro z G;clear G;go_simp;rfl));simp only[Act.put,ag,ah,ai]))
           refine aK.done λwz G=> ?_
           have wO:=au G;clear G;obtain⟨w9,AP,AQ,DJ⟩:=ot.out wz (W8.out.keep wO.out (by simp));have J4:=au AP;have J5:=au AQ;have Zl:=au ((aO.out.trans' wO.out).trans DJ (by intro x G;rw[ay] at G;omega));clear AP AQ DJ;go_wp2_with(with_reducible refine gS 111 J4.out ?_);refine aL (bU results171 rfl J5.out rfl rfl) rfl ?_;have :=ky.no HN.out Zl.out;rw[Zk.out] at this;exact this
          ·exact absurd ⟨rfl,rfl,rfl,rfl⟩ yS
        ·have Tv:(f != 1)=true:=bne_iff_ne.2 Zd
         clear yS;go_wp2_with fail;refine dX (S:=λz=>az [] wc z) (by kernel_rfl) (by kernel_rfl) (λd _ _ _ _ h=>by cases d<;>exact h) ((az.refl _ _).drew) (by kernel_rfl) ?_;repeat (first
          |(refine aK.cons (.int .i64 f) (bc.load rfl 3 (.tmp 71) rfl _ rfl λz G=>aG.out z G) ?_;simp only[Act.put,ag,ah,ai])
          |(refine aK.cons (.agg ZN) (bc.load rfl 111 (.tmp 8) rfl _ rfl λz G=>AO.out z G) ?_;simp only[Act.put,ag,ah,ai])
          |(refine aK.cons (.agg ZA) (bc.load rfl 109 (.tmp 9) rfl _ rfl λz G=>W9.out z G) ?_;simp only[Act.put,ag,ah,ai])
          |(refine aK.cons (.agg ZR) (bc.load rfl 195 (.tmp 7) rfl _ rfl λz G=>Xa.out z G) ?_;simp only[Act.put,ag,ah,ai])
          |(refine aK.cons (.bool tR) (bc.call rfl 96 #[.agg ZN] ?U ?h) ?_;(case U=>(intro wz;go_simp));(case h=>exact λz G=>(yR.out z G).mono λe w' U=>⟨U.1,G.trans' U.2⟩);simp only[Act.put,ag,ah,ai])
          |(refine aK.cons (.agg ZW) (bc.call rfl 193 #[.agg ZN,.agg ZA,.int .i64 W] ?U ?h) ?_;(case U=>(intro wz;go_simp));(case h=>exact λz G=>(Dy.out z).mono λe w' U=>⟨U.1,G.trans' U.2⟩);simp only[Act.put,ag,ah,ai])
          |(refine aK.cons undef (bc.off rfl) ?_;simp only[Act.put,ag,ah,ai])
          |(refine aK.cons (.bool true) (bc.val rfl ?h) ?_;(case h=>(intro z G;clear G;first|(go_simp;done)|(go_simp;simp[Tv];done)));simp only[Act.put,ag,ah,ai])
          |(refine aK.cons (.bool false) (bc.val rfl ?h) ?_;(case h=>(intro z G;clear G;first|(go_simp;done)|(go_simp;simp[Tv];done)));simp only[Act.put,ag,ah,ai])
          |(refine aK.cons ?_ (bc.val rfl ?h) ?_;(case h=>(intro z G;clear G;go_simp;rfl));simp only[Act.put,ag,ah,ai]))
         refine aK.done λwz G=> ?_
         have wO:=au G;clear G;obtain⟨w9,AP,AQ,DJ⟩:=ot.out wz (W8.out.keep wO.out (by simp));have J4:=au AP;have J5:=au AQ;have Zl:=au ((aO.out.trans' wO.out).trans DJ (by intro x G;rw[ay] at G;omega));clear AP AQ DJ;go_wp2_with(with_reducible refine gS 111 J4.out ?_);refine aL (bU results171 rfl J5.out rfl rfl) rfl ?_;have :=ky.no HN.out Zl.out;rw[Zk.out] at this;exact this
def ownRow (n:bP) (own:List Nat) (m:Nat):List Int:=if m<bj n.E.length then iG n.E m else (dY n own).drop 5
structure Fz (X:List Int) (q:Nat) (n:bP) (own:List Nat):Prop where
 row:eu X q=il n (dY n own) ((fk n own:Nat):Int)
 own:∀m,m<own.length->eu X (1080+8*own.getD m 0)=ownRow n own m
theorem jt{l:List Nat}(h:k<l.length):l.getD k 0∈l:=by
 rw[aj,aG h];exact bA _
theorem getD_inj{l:List Nat}(W:l.Nodup){j k:Nat}(J:j<l.length)(G:k<l.length)(h:l.getD j 0=l.getD k 0):j=k:=by
 rw[aj,aj,aG J,aG G] at h;have U:=cU.1 W;rcases Nat.lt_trichotomy j k with z|V|z
 ·exact absurd h (U j k J G z)
 ·exact V
 ·exact absurd h.symm (U k j G J z)
theorem Xb (z:X.length=3128)(p:Nat)(l:List Int)(j:Nat):∀k,p+k<=3128->(aA X (jD p l k)).getD j 0=if p<=j/\j<p+k then l.getD (j-p) 0 else X.getD j 0:=by
 intro k;induction k with
 |zero=>intro _;rw[aB (by omega)];rfl
 |succ k ih=>
  intro G;rw[zu,bD,nC,aH,zZ,b7,z,ih (by omega)];by_cases e:p+k=j
  ·subst e
   rw[aC ⟨rfl,by omega⟩,aC ⟨by omega,by omega⟩,cY]
  ·rw[aB (by omega)]
   by_cases h:p<=j/\j<p+k
   ·rw[aC h,aC ⟨h.1,by omega⟩]
   ·rw[aB h,aB (by omega)]
theorem Rg (h:X.length=3128)(p:Nat)(z:p+8<=3128)(l:List Int)(j:Nat):(aA X (jD p l 8)).getD j 0=if p<=j/\j<p+8 then l.getD (j-p) 0 else X.getD j 0:=Xb h p l j 8 z
theorem Mj{p:Nat}(G:l.length=8)(h:∀j,j<8->X.getD (p+j) 0=l.getD j 0):eu X p=l:=
 CV (by rw[iD,G]) λk z=>by
  rw[iD] at z;rw[j5 _ _ _ z,h k z]
theorem qh (h:X.length=3128)(p:Nat)(z:p+8<=3128){l:List Int}(G:l.length=8):eu (aA X (jD p l 8)) p=l:=
 Mj G λj J=>by rw[Rg h p z,aC ⟨by omega,by omega⟩,cY]
theorem qj (G:X.length=3128)(p z:Nat)(U:p+8<=3128){l:List Int}(h:z+8<=p\/p+8<=z):eu (aA X (jD p l 8)) z=eu X z:=
 Mj (iD _ _) λj J=>by rw[Rg G p U,aB (by omega),j5 _ _ _ J]
theorem Po (h:l.length=13)(x:Int):(il n l x).length=8:=by simp[il,h]
theorem rq (z:bj n.E.length<=own.length){k:Nat}(h:k<bj n.E.length):(dY n own).getD k 0=((own.getD k 0:Nat):Int):=by rw[tZ z,aC h]
theorem Mk (G:X.length=3128){n:bP}{own:List Nat}(V:bj n.E.length<=own.length)(J:own.Nodup)(z:∀c∈own,c≠0/\c<256):∀k,k<=bj n.E.length->∀m,m<k->eu (aA X (rM n.E (dY n own) k)) (1080+8*own.getD m 0)=iG n.E m:=by
 intro k;induction k with
 |zero=>intro _ m z;omega
 |succ k ih=>
  intro hk m aa;have W:=z _ (jt (show k<own.length by omega));have U:=z _ (jt (show m<own.length by omega));rw[zA,bD,rq V (by omega),aH];by_cases e:m=k
  ·subst e
   exact qh (by rw[b7,G]) _ (by omega) (lC _ _ _)
  ·have :own.getD m 0≠own.getD k 0:=λh=>e (getD_inj J (by omega) (by omega) h)
   rw[qj (by rw[b7,G]) _ _ (by omega) (by omega)];exact ih (by omega) m (by omega)
theorem Xc (G:X.length=3128)(i:Nat)(hi:i<32){n:bP}{own:List Nat}(hB:n.B.length=13)(hc:bj n.E.length<=6)(ho:bj n.E.length<=own.length)(G8:own.length<=bj n.E.length+1)(hn:own.Nodup)(U:∀c∈own,c≠0/\c<256):
  Fz (aA X (vz i n own)) (824+8*i) n own:=by
 have J:=tY hB (by omega) ho;unfold vz;rw[bD,bD];refine⟨qh (by rw[b7,b7,G]) _ (by omega) (Po J _),λm V=> ?_⟩;have ac:=U _ (jt V);rw[qj (by rw[b7,b7,G]) _ _ (by omega) (by omega)];unfold ownRow pE;by_cases z:m<bj n.E.length
 ·rw[aC z]
  split
  ·rename_i hlt
   have aa:=U _ (jt hlt);have :own.getD m 0≠own.getD (bj n.E.length) 0:=λh=>by have :=getD_inj hn V hlt h;omega
   have W:fk n own=own.getD (bj n.E.length) 0:=by unfold fk;rw[aC hlt]
   rw[W,qj (by rw[b7,G]) _ _ (by omega) (by omega)];exact Mk G ho hn U _ (aI _) m z
  ·exact Mk G ho hn U _ (aI _) m z
 ·obtain rfl:m=bj n.E.length:=by omega
  rw[aB z,aC V];have W:fk n own=own.getD (bj n.E.length) 0:=by unfold fk;rw[aC V]
  rw[W];exact qh (by rw[b7,G]) _ (by omega) (by rw[bE,J])
theorem FA:∀(l:List Nat) (X:List Int),(∀c∈l,c≠0/\c<256)->p∈cW X l->(816<=p.1.toNat/\p.1.toNat<820)\/(1080<=p.1.toNat/\(p.1.toNat-1080)/8∈l):=by
 intro l;induction l with
 |nil=>intro X _ h;simp[cW] at h
 |cons b l ih=>
  intro X G h;obtain⟨W,U⟩:=G b (by simp);have z:p∈(eJ X b true++gT b)++cW (aA X (eJ X b true++gT b)) l:=h;rw[aU,aU] at z;rcases z with(z|z)|z
  ·left
   unfold eJ at z;rw[aB (by omega),ay] at z;subst z;show 816<=Int.toNat ((_:Nat):Int)/\Int.toNat ((_:Nat):Int)<820;rw[aH];omega
  ·right
   obtain⟨j,V,rfl⟩:=wZ z;show 1080<=Int.toNat ((_:Nat):Int)/\(Int.toNat ((_:Nat):Int)-1080)/8∈_;rw[aH];refine⟨by omega,?_⟩;rw[show(1080+b*8+j-1080)/8=b by omega];simp
  ·rcases ih _ (λc J=>G c (by simp[J])) z with z|z
   ·exact .inl z
   ·exact .inr ⟨z.1,by simp[z.2]⟩
theorem lF (h:p∈jD q l k):∃j,j<k/\p.1.toNat=q+j/\p.2=l.getD j 0:=by
 unfold jD at h;obtain⟨j,z,rfl⟩:=bH.1 h;exact⟨j,by simpa using z,aH _,rfl⟩
theorem rN (W:bj n.E.length<=own.length)(h:p∈vz i n own):(1080<=p.1.toNat/\(p.1.toNat-1080)/8∈own/\∃m j,j<8/\p.2=(ownRow n own m).getD j 0)\/(824+8*i<=p.1.toNat/\p.1.toNat<832+8*i/\∃j,j<8/\p.2=(il n (dY n own) ((fk n own:Nat):Int)).getD j 0):=by
 unfold vz at h;rw[aU,aU] at h;rcases h with h|h|h
 ·left
  unfold rM at h;obtain⟨k,U,h⟩:=List.mem_flatMap.1 h;rw[bX] at U;obtain⟨j,G,z,J⟩:=lF h;rw[rq W U,aH] at z;refine⟨by omega,?_,k,j,G,by rw[J,ownRow,aC U]⟩;rw[z,show(1080+8*own.getD k 0+j-1080)/8=own.getD k 0 by omega];exact jt (by omega)
 ·left
  unfold pE at h;split at h
  ·rename_i hlt
   obtain⟨j,G,z,J⟩:=lF h;have V:fk n own=own.getD (bj n.E.length) 0:=by unfold fk;rw[aC hlt]
   rw[V] at z;refine⟨by omega,?_,bj n.E.length,j,G,by rw[J,ownRow,aB (Nat.lt_irrefl _)]⟩;rw[z,show(1080+8*own.getD (bj n.E.length) 0+j-1080)/8=own.getD (bj n.E.length) 0 by omega];exact jt hlt
  ·simp at h
 ·right
  obtain⟨j,G,z,J⟩:=lF h;exact⟨by omega,by omega,j,G,J⟩
theorem Tw (W:bj n.E.length<=own.length)(U:∀c∈own,c≠0/\c<256){k:Nat}(hk:820<=k)(J:¬(1080<=k/\(k-1080)/8∈own))(V:¬(824+8*i<=k/\k<832+8*i)):(aA X (oP X i n own)).getD k 0=X.getD k 0:=by
 refine ey _ _ _ λp G z=> ?_
 unfold oP at G;rw[aU] at G;rcases G with G|G
 ·rcases FA _ _ U G with h|h
  ·omega
  ·rw[z] at h;exact J h
 ·rcases rN W G with h|h
  ·rw[z] at h;exact J ⟨h.1,h.2.1⟩
  ·rw[z] at h;exact V ⟨h.1,h.2.1⟩
theorem Ml (s:ByteArray):kv (bl s)<18446744073709551616:=by
 unfold kv;split
 ·rename_i h
  exact VI (nN h).2 (Ao s)
 ·omega
theorem Tx{E:List (ByteArray×Int)}(z:∀k,k<E.length->0<=jl E k/\jl E k<18446744073709551616)(k j:Nat):0<=(iG E k).getD j 0/\(iG E k).getD j 0<18446744073709551616:=by
 by_cases h:j<8
 ·unfold iG
  rw[pA _ _ _ _ h];split
  ·unfold JU
   split
   ·have :=Ml (eU E (4*k+j/2));omega
   ·exact z _ (by omega)
  ·omega
 ·rw[aj,aT (by rw[iG,lC];omega)]
  simp
theorem adn (aa:In64 X)(hX:X.length=3128){i:Nat}{n:bP}{own:List Nat}(hB:n.B.length=13)(G:bZ n)(U:bj n.E.length<=own.length)(V:∀c∈own,c≠0/\c<256):In64 (aA X (oP X i n own)):=by
 have W:=jz G;have z:=tY (own:=own) hB (by omega) U;have vv:=B0 G hB U V;have hT:=sH G;unfold oP;rw[bD];refine(mN own X aa hX V).1.put λp hp=> ?_
 rcases rN U hp with ⟨-,-,m,j,J,h⟩|⟨-,-,j,J,h⟩
 ·rw[h]
  unfold ownRow;split
  ·refine Tx (λk hk=> ?_) m j
   have :=((W.2.2 (by omega)).2.2.2.2 k hk).2.1;omega
  ·rw[aj,bT,<-aj]
   have :=vv (5+j);omega
 ·rw[h]
  unfold il;have tO:fk n own<256:=by
   unfold fk;split
   ·exact(V _ (jt (by assumption))).2
   ·omega
  obtain⟨t1,t2,t3,t4⟩:=hT
  match j,J with
  |0,_=>show 0<=oh n/\oh n<_;unfold oh;omega
  |1,_=>show 0<=n.S/\n.S<_;omega
  |j+2,J=>
   show 0<=((dY n own).take 5++[((fk n own:Nat):Int)]).getD j 0/\((dY n own).take 5++[((fk n own:Nat):Int)]).getD j 0<_;rw[aj,iy];split
   ·rename_i h5
    rw[aJ,z] at h5;rw[bO,aC (by omega),<-aj];have :=vv j;omega
   ·rename_i h5
    rw[aJ,z] at h5;rw[aJ,z,show j-min 5 13=0 by omega];show 0<=((fk n own:Nat):Int)/\((fk n own:Nat):Int)<_;omega
theorem Mm (G:bZ n)(l:List Int)(x:Int):iR (il n l x)=⟨n.F,n.K,n.L,n.S,List.replicate 13 0,[]⟩:=by
 obtain⟨hF,hL,z⟩:=G;have U:n.K=1\/n.K=2:=z.imp (·.1) (·.1);have hS:0<=n.S/\n.S<=832:=by
  rcases z with ⟨_,h⟩|⟨_,h⟩
  ·exact h.1
  ·have W:=h.1
   have h2:=h.2.1;omega
 have J:(il n l x).getD 0 0=n.F+256*n.K+65536*n.L:=rfl;have V:(il n l x).getD 1 0=n.S:=rfl;unfold iR;rw[J,V,show(n.F+256*n.K+65536*n.L)%256=n.F by omega,show(n.F+256*n.K+65536*n.L)/256%256=n.K by omega,show(n.F+256*n.K+65536*n.L)/65536%65536=n.L by omega,show wrap64 n.S=n.S by unfold wrap64;omega]
theorem Xd (h:l.length=13)(x:Int):(il n l x).getD 7 0=x:=by
 show(l.take 5++[x]).getD 5 0=x;rw[aj,aQ (by rw[aJ,h];omega),aJ,h];rfl
theorem Xe (h:l.length=13)(x:Int):((il n l x).drop 2).take 5=l.take 5:=by
 show(l.take 5++[x]).take 5=_;rw[ia (by rw[aJ,h];omega),List.take_take];rfl
theorem vC (n:bP):bj n.E.length<=eZ n/\eZ n<=bj n.E.length+1:=by unfold eZ;split<;>omega
theorem Ty{c:Nat}(z:c<=own.length)(G:own.length<=c+1):own.take c++(if c<own.length then [own.getD c 0] else [])=own:=by
 split
 ·rename_i h
  have :own.drop c=[own.getD c 0]:=by
   rw[fE h,dF (by omega),aj,aG h];rfl
  rw[<-this,eI]
 ·rw[bu,aV (by omega)]
theorem Tz (h:bj n.E.length<=own.length):((dY n own).take (bj n.E.length)).map Int.toNat=own.take (bj n.E.length):=by
 unfold dY;rw[ia (by rw[bS,aJ];omega),aV (by rw[bS,aJ];omega),List.map_map]
 conv=>rhs;rw[<-List.map_id (List.take (bj n.E.length) own)]
 exact dD λa _=>aH a
theorem Cc (hB:n.B.length=13)(hR:bZ n)(hF:n.F=1)(ho:own.length=eZ n)(hm:∀c∈own,c≠0/\c<256)(h:Fz X q n own):
  mf X (eu X q)/\nu X (eu X q)=n/\DI X (eu X q)=own:=by
 have ax:=jz hR;have au:=vC n;have L9:bj n.E.length<=own.length:=by omega
 have U:=tY (own:=own) hB (by omega) L9;have vv:=B0 hR hB L9 hm;have Pp:=Mm hR (dY n own) ((fk n own:Nat):Int);have g1:(il n (dY n own) ((fk n own:Nat):Int)).getD 1 0=n.S:=rfl;have g7:=Xd (n:=n) U ((fk n own:Nat):Int);have g5:=Xe (n:=n) U ((fk n own:Nat):Int);have hK:n.K=1\/n.K=2:=hR.2.2.imp (·.1) (·.1);have Xf:n.K=1->n.E=[]/\bj n.E.length=0:=λz=>by
  rcases hR.2.2 with h|h
  ·have :=h.2.2.1
   exact⟨List.length_eq_zero_iff.1 this,by unfold bj;omega⟩
  ·have :=h.1;omega
 have Mn:n.K=2->og n:=λz=>by
  rcases hR.2.2 with h|h
  ·have :=h.1;omega
  ·exact h.2
 have av:fk n own<256:=by
  unfold fk;split
  ·exact(hm _ (jt (by assumption))).2
  ·omega
 -- the list, or none
 have J:(bj n.E.length<own.length/\fk n own=own.getD (bj n.E.length) 0/\fk n own≠0/\(dY n own).drop 5≠List.replicate 8 0)\/(bj n.E.length=own.length/\fk n own=0/\(dY n own).drop 5=List.replicate 8 0):=by
  by_cases W:bj n.E.length<own.length
  ·left
   have tO:fk n own=own.getD (bj n.E.length) 0:=by unfold fk;rw[aC W]
   refine⟨W,tO,by rw[tO];exact(hm _ (jt W)).1,λhz=> ?_⟩;have h5:5<bj n.E.length\/n.B.drop 5≠List.replicate 8 0:=by
    rcases Classical.em (5<bj n.E.length\/n.B.drop 5≠List.replicate 8 0) with h|h
    ·exact h
    ·have :eZ n=bj n.E.length:=by unfold eZ;rw[aB h]
     omega
   by_cases h6:5<bj n.E.length
   ·have e:=rq L9 h6
    have e2:((dY n own).drop 5).getD 0 0=(0:Int):=by rw[hz];rfl
    rw[aj,bT,<-aj,e] at e2;have :=(hm _ (jt (show 5<own.length by omega))).1;omega
   ·have h7:=h5.resolve_left h6
    rcases hK with z|z
    ·have ag:=(Xf z).2
     apply h7;rw[<-hz];unfold dY;rw[ag];rfl
    ·apply h7
     rw[(Mn z).2.2.1];rfl
  ·right
   have ar:bj n.E.length=own.length:=by omega
   have tO:fk n own=0:=by unfold fk;rw[aB W]
   have h5:¬(5<bj n.E.length\/n.B.drop 5≠List.replicate 8 0):=λh=>by
    have :eZ n=bj n.E.length+1:=by unfold eZ;rw[aC h]
    omega
   have h6:n.B.drop 5=List.replicate 8 0:=Classical.not_not.1 λh=>h5 (.inr h)
   refine⟨ar,tO,CV (by rw[bE,U];rfl) λk z=> ?_⟩;rw[<-h6,aj,bT,<-aj,tZ L9,aB (by omega),aj,aj,bT]
 have sX:dv X (il n (dY n own) ((fk n own:Nat):Int))=dY n own:=by
  unfold dv;rw[g5,g7]
  conv=>rhs;rw[<-eI 5 (dY n own)]
  congr 1
  rcases J with ⟨W,tO,h0,-⟩|⟨W,tO,h0⟩
  ·rw[aB (by omega),aH,tO,h.own _ W,ownRow,aB (Nat.lt_irrefl _)]
  ·rw[aC (by omega),h0]
 have Xg:n.K=2->n.S.toNat=n.E.length/\na X (dY n own) n.E.length/\rH X (dY n own) n.E.length=n.E:=λz=>by
  have hd:=Mn z;have aa:∀e,e<n.E.length->X.getD (wj (dY n own) e) 0=((kv (bl (eU n.E e)):Nat):Int)/\X.getD (wj (dY n own) e+1) 0=jl n.E e/\kf (kv (bl (eU n.E e)))=some (bl (eU n.E e)):=λe he=>by
   have af:e/4<bj n.E.length:=by unfold bj;omega
   have V:=h.own (e/4) (by omega);rw[ownRow,aC af] at V;have ac:wj (dY n own) e=1080+8*own.getD (e/4) 0+2*(e%4):=by unfold wj;rw[rq L9 af,aH]
   have r0:(eu X (1080+8*own.getD (e/4) 0)).getD (2*(e%4)) 0=(iG n.E (e/4)).getD (2*(e%4)) 0:=by rw[V]
   have r1:(eu X (1080+8*own.getD (e/4) 0)).getD (2*(e%4)+1) 0=(iG n.E (e/4)).getD (2*(e%4)+1) 0:=by rw[V]
   rw[j5 _ _ _ (by omega)] at r0 r1;unfold iG at r0 r1;rw[pA _ _ _ _ (by omega),aC (by omega),JU,aC (by omega),show 4*(e/4)+2*(e%4)/2=e by omega] at r0;rw[pA _ _ _ _ (by omega),aC (by omega),JU,aB (by omega),show 4*(e/4)+(2*(e%4)+1)/2=e by omega] at r1;have hg:=(hd.2.2.2 e he).1;refine⟨by rw[ac,r0],by rw[ac,Nat.add_assoc,r1],?_⟩;unfold kv;rw[aC hg];exact nO hg (Ao _)
  have hE:rH X (dY n own) n.E.length=n.E:=V7 (pC _ _ _) λe he=>by
   rw[pC] at he;obtain⟨h1,h2,h3⟩:=aa e he;obtain⟨e1,e2⟩:=BR X (dY n own) n.E.length e he;rw[e1,e2];unfold zw vk;rw[h1,h2,aH,h3];exact⟨D4 _,rfl⟩
  refine⟨by rw[hd.2.1,aH],⟨hd.1,?_,λk z=> ?_⟩,hE⟩
  ·refine CV (by rw[U,tJ U (by omega)]) λk _=> ?_
   rw[tK U (by omega)];split
   ·rfl
   ·rw[tZ L9,aB (by assumption),hd.2.2.1,aj,bo]
    split<;>rfl
  ·have ae:k<own.length:=by omega
   have Iz:=hm _ (jt ae);refine⟨by rw[rq L9 z];omega,λj hj=> ?_,?_⟩
   ·obtain⟨h1,h2,h3⟩:=aa (4*k+j) (by omega)
    unfold zw vk;rw[h1,h2,aH,h3];have :=(hd.2.2.2 (4*k+j) (by omega)).2.1;exact⟨rfl,by omega⟩
   ·rw[hE,rq L9 z,aH]
    have :=h.own k ae;rw[ownRow,aC z] at this;exact this.symm
 rw[h.row];have G:nu X (il n (dY n own) ((fk n own:Nat):Int))=n:=by
  unfold nu;rw[sX,Pp,g1];obtain⟨F,K,L,S,B,E⟩:=n;rcases hK with z|z
  ·have hb:=Xf z
   rw[aB (show ¬K=2 by have :K=1:=z;omega)];show bP.mk F K L S _ []=bP.mk F K L S B E;have he:E=[]:=hb.1;have ag:bj E.length=0:=hb.2;rw[he]
   congr 1
   unfold dY;have ah:bj ([]:List (ByteArray×Int)).length=0:=by decide
   show(own.take (bj ([]:List (ByteArray×Int)).length)).map _++B.drop (bj ([]:List (ByteArray×Int)).length)=B;rw[ah];rfl
  ·obtain⟨e1,e2,e3⟩:=Xg z
   have ai:S.toNat=E.length:=e1;rw[aC (show K=2 from z)];show bP.mk F K L S (List.replicate 13 0) (rH X _ S.toNat)=bP.mk F K L S B E;have hb:B=List.replicate 13 0:=(Mn z).2.2.1;rw[ai,hb]
   congr 1
   rw[<-hb];exact e3
 refine⟨⟨⟨by rw[g7];omega,λk _=>by rw[sX];exact(vv k).2,?_⟩,?_,λz=> ?_,by rw[Pp];exact hF,by rw[G];exact hR,by rw[G,sX,g7]⟩,G,?_⟩
 ·rw[g7,sX]
  rcases J with ⟨_,_,_,h0⟩|⟨_,h0,_⟩
  ·exact .inr h0
  ·exact .inl (by omega)
 ·rw[g1]
  rcases hK with z|z
  ·rcases hR.2.2 with h|h
   ·exact h.2.1.2
   ·have :=h.1;omega
  ·have :=(Mn z).2.1;omega
 ·rw[Pp] at z
  obtain⟨e1,e2,e3⟩:=Xg z;rw[sX,g1,e1];exact e2
 ·unfold DI
  rw[sX,Pp,g1,g7];have ak:(if ((fk n own:Nat):Int)=0 then [] else [((fk n own:Nat):Int).toNat])=if bj n.E.length<own.length then [own.getD (bj n.E.length) 0] else []:=by
   rcases J with ⟨W,tO,h0,-⟩|⟨W,tO,-⟩
   ·rw[aB (by omega),aC W,aH,tO]
   ·rw[aC (by omega),aB (by omega)]
  rw[ak];have h1:(if (bP.mk n.F n.K n.L n.S (List.replicate 13 0) []).K=2 then ((dY n own).take (bj n.S.toNat)).map Int.toNat else [])=own.take (bj n.E.length):=by
   rcases hK with z|z
   ·rw[aB (show ¬n.K=2 by omega),(Xf z).2]
    rfl
   ·rw[aC (show n.K=2 from z),(Xg z).1,Tz L9]
  rw[h1];exact Ty L9 (by omega)
end Go.Proofs.YtepbpdipenedhaaGreatDoor
