/- Lemmas. -/
import Derived.Test.YtcecbdeamjigiaaGreatDoorH08
import Derived.Deep.DeepCutAuto
set_option maxHeartbeats 8000000
set_option maxRecDepth 100000
namespace Go.Proofs.YtcecbdeamjigiaaGreatDoor
open Go.RowKit
variable{X l:List Int}{w:World}{i k q:Nat}{n:bM}{own:List Nat}{p:Int×Int}
def eO (X:List Int) (i:Int):List Int:=dy X (824+8*i.toNat)
def kW (X r:List Int):bM:=
 if (gq r).K=2 then { gq r with E:=oG X (cM X r) (r.getD 1 0).toNat } else { gq r with B:=cM X r }
def Al (X r:List Int):List Nat:=
 (if (gq r).K=2 then ((cM X r).take (aZ (r.getD 1 0).toNat)).map Int.toNat else [])++(if r.getD 7 0=0 then [] else [(r.getD 7 0).toNat])
def j5 (X r:List Int):Prop:=
 rV X r/\r.getD 1 0<=832/\((gq r).K=2->kQ X (cM X r) (r.getD 1 0).toNat)/\(gq r).F=1/\bP (kW X r)/\fE (kW X r) (cM X r) (r.getD 7 0)=r
theorem B4{r:List Int}(h:dD X)(U:dD r)(y:r.length=8)(J:rV X r):∀k,0<=(cM X r).getD k 0/\(cM X r).getD k 0<256:=by
 intro k;by_cases V:k<13
 ·refine⟨?_,J.2.1 k V⟩
  unfold cM;by_cases G:k<5
  ·simp only[aj]
   rw[aW (by simp[y];omega),bN,aB G,bX];have :=(U (2+k)).1;rwa[aj] at this
  ·simp only[aj]
   rw[aM (by simp[y];omega)];split
   ·rw[aY]
    split<;>simp
   ·have :((r.drop 2).take 5).length=5:=by simp[y]
    rw[this];have z:=iJ X (1080+8*(r.getD 7 0).toNat) (k-5) (by omega);rw[aj,aj] at z;rw[<-aj,<-aj,aj,aj] at *;rw[z];have :=(h (1080+8*(r.getD 7 0).toNat+(k-5))).1;rwa[aj] at this
 ·rw[aj,aO (by rw[rp y];omega)]
  simp
theorem K8{y:Int}(h:0<=y/\y<18446744073709551616):(y<=832↔0<=wrap64 y/\wrap64 y<=832)/\(y<=832->wrap64 y=y):=by
 unfold wrap64;omega
def jb (w:World) (X:List Int) (i:Int) (e:Ending) (w':World):Prop:=
 ∃n v g own h y ok,e= .returned (.tuple #[.agg (aU n v),h,.bool ok])/\n.B.length=13/\bz w' v g n.E/\w.heap.size<=g/\jL w' h y own/\w.heap.size<=y/\
  (ok=true->(0<=i/\i<32)/\j5 X (eO X i)/\n=kW X (eO X i)/\own=Al X (eO X i))/\
  (ok=false->¬((0<=i/\i<32)/\j5 X (eO X i))/\n=cB/\own=[])/\ay [] w w'
theorem jb.no{w':World}{i:Int}(h:¬((0<=i/\i<32)/\j5 X (eO X i)))(y:ay [] w w'):jb w X i (.returned (.tuple #[.agg (aU cB (.slice none 0 0)),.slice none 0 0,.bool false])) w':=
 ⟨cB,_,w.heap.size,[],_,w.heap.size,false,rfl,rfl,bz.nil _ _,aG _,jL.nil _ _,aG _,λh=>(by cases h),λ_=>⟨h,rfl,rfl⟩,y⟩
theorem K9{g:Nat}(h:bm w g (aU cB (.slice none 0 0)) 110):
  ∃w',(storeVar 110 ⟨g,0,none⟩ (.agg (aU cB (.slice none 0 0)))).run Tryz.prog w= .ok () w'/\(loadVar 110 ⟨g,0,none⟩).run Tryz.prog w'= .ok (.agg (aU cB (.slice none 0 0))) w'/\ay [g] w w':=by
 obtain⟨w',z,y,G⟩:=br (P:= Tryz.prog) (ty:= 110) (cs:=lL cB (.slice none 0 0)) (by rw[fC];exact gZ) h rfl (jg rfl);exact⟨w',z,cH (n:=cB) (v:= .slice none 0 0) y rfl,G⟩
theorem VX{b gp:Nat}{B:List Int}{ps:List (Int×Int)}(h:eF w b gp B ps)(eT:dD (az B ps))(i:Int):
  Calls Tryz.prog 168 #[.pointer (some ⟨b,0,none⟩),.int .i64 i] w (jb w (az B ps) i):=by
 have HS:=ar h;have sf:=ar eT;have bu:=bm.new w (aU cB (.slice none 0 0)) 110;have fS:Hid (ay [] w (w.alloc (.cells (aU cB (.slice none 0 0)) 110))):=(ay.refl _ _).alloc _;have nu:=ar bu;have xf:=eV;have HI:=ar (ja i);clear h eT bu;have vC:Hid (∀z:World,bm z w.heap.size (aU cB (.slice none 0 0)) 110->∃w',(storeVar 110 ⟨w.heap.size,0,none⟩ (.agg (aU cB (.slice none 0 0)))).run Tryz.prog z= .ok () w'/\(loadVar 110 ⟨w.heap.size,0,none⟩).run Tryz.prog w'= .ok (.agg (aU cB (.slice none 0 0))) w'/\ay [w.heap.size] z w'):=λz hb=>K9 hb
 obtain⟨ZI,aw⟩:∃ZI,aU cB (.slice none 0 0)=ZI:=⟨_,rfl⟩;rw[aw] at vC nu fS;have VY:∀w:World,(zeroValue 110).run Tryz.prog w= .ok (.agg ZI) w:=λw=>by rw[<-aw];exact xf w
 have UD:=ar aw;clear xf aw;by_cases jt:i<0\/32<=i
 ·have k6:eZ i= -1:=by unfold eZ;rw[aB jt]
  rw[k6] at HI;obtain⟨w1,bh,ny,dc⟩:=vC.out _ nu.out;have ck:=ar bh;have nJ:=ar ny;have iH:=ar (fS.out.trans dc (by simp));have HN:Hid (¬((0<=i/\i<32)/\j5 (az B ps) (eO (az B ps) i))):=λh=>by have :=h.1;omega
  clear bh ny dc k6 jt;go_enter Tryz.func168,Tryz.ntmps168;go_wp2_with fail;refine(HI.out _).mono ?_;rintro e w' ⟨rfl,rfl⟩;go_wp2_with(with_reducible refine gS 110 ck.out ?_);refine aK (bE Tryz.results168 rfl nJ.out rfl rfl) rfl ?_;have :=jb.no HN.out iH.out;rw[UD.out] at this;exact this
 ·have k6:eZ i=((824+8*i.toNat:Nat):Int):=by unfold eZ;rw[aA jt];omega
  rw[k6] at HI;obtain⟨r,hr⟩:∃r,r=eO (az B ps) i:=⟨_,rfl⟩;have sI:r.length=8:=by rw[hr];exact fQ _ _
  have sr:dD r:=λj=>by
   rw[hr];unfold eO;by_cases hj:j<8
   ·rw[iJ _ _ _ hj];exact sf.out _
   ·rw[aj,aO (by rw[fQ];omega)]
    simp
  have j1:Hid (Calls Tryz.prog 138 #[.pointer (some ⟨b,0,none⟩),.int .i64 ((824+8*i.toNat:Nat):Int)] (w.alloc (.cells ZI 110)) λe w'=>e= .returned (.agg (aR r).toArray)/\ay [] (w.alloc (.cells ZI 110)) w'):=by
   rw[hr];exact l6 (HS.out.keep fS.out (by simp) (by simp)) (824+8*i.toNat) (by omega)
  have jr:Hid (¬j5 (az B ps) r->¬((0<=i/\i<32)/\j5 (az B ps) (eO (az B ps) i))):=λh hh=>h (by rw[hr];exact hh.2)
  have HR:=ar hr;have MS:¬((824+8*i.toNat:Nat):Int)<0:=by omega
  generalize ((824+8*i.toNat:Nat):Int)=p at *;have cw:=jd;have N9:=lV;clear k6 hr;go_enter Tryz.func168,Tryz.ntmps168;go_wp2_with fail;refine(HI.out _).mono ?_;rintro e w' ⟨rfl,rfl⟩;go_wp2_with fail;refine(HI.out _).mono ?_;rintro e w' ⟨rfl,rfl⟩;go_wp2_with fail;refine j1.out.mono ?_;rintro e w1 ⟨rfl,dc⟩;obtain⟨w2,OG,GM,aS⟩:=br (P:= Tryz.prog) (ty:= 188) (cs:=aR r) (by rw[bc,sI];exact gH) (bm.new w1 (aR (List.replicate 8 0)).toArray 188) (by simp[bc,sI]) (eu _);have XV:=(nu.out.keep dc (by simp)).lt;have ac:ay [] w w2:=((fS.out.trans' dc).alloc (.cells (aR (List.replicate 8 0)).toArray 188)).trans aS (by intro x G;rw[au] at G;omega);have bb:=((nu.out.keep dc (by simp)).alloc (.cells (aR (List.replicate 8 0)).toArray 188)).keep aS (by rw[au];omega);have bv:=ar OG;have XW:=ar (ea GM sI);have UE:=ar (yt r sI (sr 0) (sr 1) w2);have fj:=ar ac;have bw:=ar bb;have KN:=ar GM;have uw:=ar sr;have yo:=ar sI;clear OG GM aS dc ac bb HI j1 nu fS sr sI;go_wp2_with(first|(with_reducible refine gS 188 bv.out ?_)|(with_reducible refine gL 188 XW.out ?_));refine UE.out.mono ?_;rintro e w5 ⟨rfl,jG⟩;obtain⟨wn,bt,RU,jz⟩:=br (P:= Tryz.prog) (ty:= 110) (cs:=lL (gq r) (.slice none 0 0)) (by rw[fC];exact gZ) (bm.new w5 ZI 110) (by have hz:=UD.out;rw[<-hz];rfl) (jg rfl);have cu:w1.heap.size<w5.heap.size:=bC KN.out.lt jG.size;have VZ:ay [] w2 wn:=(jG.alloc (.cells ZI 110)).trans jz (by intro x G;rw[au] at G;have :=jG.size;omega);have ZJ:=ar (KN.out.keep VZ (by simp));have bf:=ar (bw.out.keep VZ (by simp));have aN:=ar (fj.out.trans' VZ);have ZK:=ar bt;have Sx:Hid (bm wn w5.heap.size (aU (gq r) (.slice none 0 0)) 110):=RU;have e6:(Value.agg (lL (gq r) (.slice none 0 0)).toArray)= .agg (aU (gq r) (.slice none 0 0)):=rfl;rw[e6] at ZK;have bo:=ar (ea ZJ.out yo.out);have Dz:=ar (FW (HS.out.keep aN.out (by simp) (by simp)) sf.out r yo.out uw.out);clear bt RU jz VZ jG KN bw fj UE XW bv e6;go_wp2_with(first|(with_reducible refine gS 110 ZK.out ?_)|(with_reducible refine gL 188 bo.out ?_));refine Dz.out.mono ?_;rintro e w3 ⟨la,V,ok,rfl,OH,OI,av,aq⟩;obtain⟨w6,bn,V0,bl⟩:=br (P:= Tryz.prog) (ty:= 108) (cs:=zs la) (by rw[dJ,av];exact jf) (bm.new w3 (zs (List.replicate 13 0)).toArray 108) (by simp[dJ,av]) (jY _);have cr:w5.heap.size<w3.heap.size:=bC Sx.out.lt aq.size;have Sy:ay [] wn w6:=(aq.alloc (.cells (zs (List.replicate 13 0)).toArray 108)).trans bl (by intro x G;rw[au] at G;have :=aq.size;omega);have bU:=ar (ZJ.out.keep Sy (by simp));have ZV:=ar (bf.out.keep Sy (by simp));have ID:=ar (Sx.out.keep Sy (by simp));have ZX:=ar V0;have mX:=ar (aN.out.trans' Sy);have V1:=ar bn;have VT:=ar av;have cv:w.heap.size<w1.heap.size:=XV;clear bn V0 bl Sy aq av Dz ZK bo ZJ bf Sx aN XV;cases ok
  ·have HN:=ar (jr.out λh=>OI rfl h.1)
   obtain⟨w9,wT,BP,jG⟩:=vC.out w6 ZV.out;have wU:=ar wT;have Ip:=ar BP;have oH:=ar (mX.out.trans jG (by simp));clear wT BP jG OH OI;generalize (zs la).toArray=a6 at *;go_wp2_with(first|(with_reducible refine gS 108 V1.out ?_)|(with_reducible refine gS 110 wU.out ?_));refine aK (bE Tryz.results168 rfl Ip.out rfl rfl) rfl ?_;have :=jb.no HN.out oH.out;rw[UD.out] at this;exact this
  ·obtain⟨pG,rfl,rfl⟩:=OH rfl
   have Dz:=ar pG;clear OH OI pG;have a8:=uw.out 1;obtain⟨Sz,RT⟩:=K8 a8;obtain⟨sv,Uz⟩:∃sv,sv=wrap64 (r.getD 1 0):=⟨_,rfl⟩;rw[<-Uz] at Sz RT;have aQ:w6.cell? ⟨w5.heap.size,3,none⟩=some (.int .i64 sv):=by rw[ID.out.cell,Uz];rfl
   have bA:=ar Uz;clear Uz;by_cases FN:sv<0\/832<sv
   ·have HN:=ar (jr.out λh=>by have :=Sz.1 h.2.1;omega)
    obtain⟨w9,wT,BP,jG⟩:=vC.out w6 ZV.out;have wU:=ar wT;have Ip:=ar BP;have oH:=ar (mX.out.trans jG (by simp));clear wT BP jG Sz RT a8;generalize (zs (cM (az B ps) r)).toArray=a6 at *;generalize r.getD 7 0=V at *;rcases FN with FN|FN
    ·go_wp2_with(first|(with_reducible refine gS 108 V1.out ?_)|(with_reducible refine gS 110 wU.out ?_))
     refine aK (bE Tryz.results168 rfl Ip.out rfl rfl) rfl ?_;have :=jb.no HN.out oH.out;rw[UD.out] at this;exact this
    ·have b9:¬sv<0:=by omega
     go_wp2_with(first|(with_reducible refine gS 108 V1.out ?_)|(with_reducible refine gS 110 wU.out ?_));refine aK (bE Tryz.results168 rfl Ip.out rfl rfl) rfl ?_;have :=jb.no HN.out oH.out;rw[UD.out] at this;exact this
   ·have XX:r.getD 1 0<=832:=Sz.2 (by omega)
    have ZY:=RT XX;have cf:Hid (wrap64 (r.getD 1 0)=r.getD 1 0):=by show _=_;rw[<-bA.out];exact ZY
    have b9:¬r.getD 1 0<0:=by omega
    have cz:¬832<r.getD 1 0:=by omega
    rw[ZY] at aQ;clear Sz RT ZY bA;have ct:¬832<r.getD 1 0:=by omega
    generalize bD:r.getD 1 0=r1 at *;have SA:=ar bD;generalize bB:r.getD 7 0=V at *;have V2:=ar bB;clear bD bB XX;have cK:w6.cell? ⟨w5.heap.size,1,none⟩=some (.int .i64 (gq r).K):=by rw[ID.out.cell];rfl
    have cS:=aQ;clear aQ;have mC:=ar (rp (X:=az B ps) yo.out);have La:Hid (∀k,0<=(cM (az B ps) r).getD k 0/\(cM (az B ps) r).getD k 0<256):=B4 sf.out uw.out yo.out Dz.out;have bL:Hid (∀z,ay [] w6 z->(loadVar 108 ⟨w3.heap.size,0,none⟩).run Tryz.prog z= .ok (.agg (zs (cM (az B ps) r)).toArray) z):=λz W=>
     eD (off:=0) (ZX.out.keep W (by simp)) mC.out (λk W=>by rw[aX,aC,eR (by rw[mC.out];exact W)])
    have XY:(0<=i/\i<32):=by omega
    have XU:=ar XY;clear XY jt;have cx:w5.heap.size<w6.heap.size:=ID.out.lt
    go_upto_if 45 with(with_reducible refine gS 108 V1.out ?_)
    go_cut [11,12] (λNY s12 z=>∃(n:bM) (v:Value) (g:Nat) (own:List Nat) (Dn:Bool) (J:Nat),NY= .bool Dn/\Hid (z.ownsRow J 3 1 s12 own.length (cW own)/\w6.heap.size<=J/\J<=z.heap.size/\(n.E.length≠0->g<J)/\w.heap.size<g/\own.length<=13/\bm z w5.heap.size (aU n v) 110/\n.B.length=13/\bz z v g n.E/\v.oneCell'=true/\uG n/\(∀k,k<n.E.length->(eh n.E k).size<=9223372036854775807)/\ay [w5.heap.size] w6 z/\
     (Dn=true->n=kW (az B ps) r/\own=(if (gq r).K=2 then ((cM (az B ps) r).take (aZ r1.toNat)).map Int.toNat else [])/\((gq r).K=2->kQ (az B ps) (cM (az B ps) r) r1.toNat))/\(Dn=false->¬j5 (az B ps) r)))
    case first=>
     have YP:=uw.out 0;have K4:Hid (uG { gq r with B:=cM (az B ps) r }):=by
      have h3:=SA.out;refine⟨?_,?_,?_,?_⟩
      ·show 0<=r.getD 0 0%256/\r.getD 0 0%256<256;omega
      ·show 0<=r.getD 0 0/256%256/\r.getD 0 0/256%256<256;omega
      ·show 0<=r.getD 0 0/65536%65536/\r.getD 0 0/65536%65536<65536;omega
      ·show 0<=wrap64 (r.getD 1 0)/\wrap64 (r.getD 1 0)<9223372036854775808;rw[h3,cf.out];omega
     by_cases ac:(gq r).K=2
     ·have ek:((gq r).K==2)=true:=beq_iff_eq.2 ac
      obtain⟨m,hm⟩:∃m:Nat,r1=(m:Int):=⟨r1.toNat,by omega⟩;have bI:r1.toNat=m:=by omega
      rw[hm] at cS;have BM:=ar (FX (HS.out.keep mX.out (by simp) (by simp)) sf.out (cM (az B ps) r) mC.out La.out m (by omega));have UF:=ar (bL.out w6 (ay.refl _ _));have aW:=ar bI;have BI:=λc hc z=>Hu w3.heap.size c hc z
      obtain⟨i0,hi,aY,aL,aT⟩:=cJ Tryz.info_int;have QL:=ar hi;clear hm bI hi;have ae:=ar ac;generalize xJ:(gq r).K=kk at cK ek;have rv:=ar xJ;clear xJ ac;go_wp2_with(with_reducible refine gL 108 UF.out ?_);refine BM.out.mono ?_;rintro e w7 ⟨v,E,ax,g,rfl,hE,hg,IC,Dx,AJ⟩;have bG:E.length<=24:=by
       cases ax
       ·rw[(Dx rfl).2];simp
       ·obtain⟨h1,h2⟩:=IC rfl
        rw[h2,mB];exact h1.1
      have uy:aZ E.length<=13:=by unfold aZ;omega
      obtain⟨a,cap,rfl,nz,bX,-⟩:=hE.open;have B5:=ID.out.keep AJ (by simp);have cC:w7.cell? ⟨w5.heap.size,17,none⟩=some (.slice none 0 0):=by rw[B5.cell];exact vk _ rfl
      have cm:w7.frozen? ⟨w5.heap.size,17,none⟩=false:=B5.frozen 17;have SB:=F0 (u:= .slice a E.length cap) (E:=E) B5 rfl;have bZ:=ar (cH SB rfl);have Uy:=ar (oD { gq r with E:=E } a cap rfl (by show E.length<=100000;omega));have XZ:bz (w7.setCell ⟨w5.heap.size,17,none⟩ (.slice a E.length cap)) (.slice a E.length cap) g E:=hE.keep ((ay.refl [w5.heap.size] w7).setCell (p:=⟨w5.heap.size,17,none⟩) (by simp) _) (λ_=>by rw[au];omega);have qP:ay [w5.heap.size] w6 (w7.setCell ⟨w5.heap.size,17,none⟩ (.slice a E.length cap)):=(AJ.mono (by simp)).setCell (.inl (by simp)) _;have Z2:=ar XZ;have QM:=ar qP;have K2:=ar SB;have HG:=ar hg;have z6:=ar IC;have MF:=ar Dx;have wQ:=ar bG;have bY:=ar (ZX.out.keep qP (by rw[au];omega));have cp:=BI (aZ E.length) uy;have Zb:Hid (aZ E.length<=13):=uy;unfold maxLen at bX;clear hE hg IC Dx AJ B5 SB XZ qP BI bG uy BM UF;have cj:Hid (∀z,Calls Tryz.prog 189 #[.agg (aU { gq r with E:=E } (.slice a E.length cap))] z λe w'=>e= .returned (.int .i64 ((aZ E.length:Nat):Int))/\ay [] z w'):=Uy.out;have bO:Hid (E.length=E.length):=rfl;clear Uy bO;go_wp2_with(with_reducible refine gL 110 bZ.out ?_);refine(cj.out _).mono ?_;rintro e w9 ⟨rfl,EE⟩;have bT:=ar (bY.out.keep EE (by simp));have bF:=ar (Z2.out.keep EE (by simp));have XM:=ar (K2.out.keep EE (by simp));have UG:=ar (QM.out.trans EE (by simp));clear EE;generalize MM:aZ E.length=c at *;have SC:=ar MM;clear MM;have SD:=Zb.out;have hi:=QL.out;go_wp2_with(at_builtin;refine dE _ rfl _ _ 134 rfl w9.heap.size 3 i0 (.int .i64 0) 1 8 Tryz.underlying134 hi aY aL aT rfl (by decide) (.slice none 0 0) 0 [] rfl ⟨rfl,.inl ⟨rfl,rfl⟩⟩ ⟨w3.heap.size,0,none⟩ c 13 (zs ((cM (az B ps) r).take c)) rfl ?c1 ?c2 (jY _) (by unfold maxLen;omega) (by omega) (aG _) ?_);case c1=>rw[dJ,aI,mC.out];omega
      case c2=>
       intro j u hu;rw[add_plain,aX,bT.out.cell,aC];have hj:j<c:=by
        have :=(List.getElem?_eq_some_iff.1 hu).1;rw[dJ,aI] at this;omega
       rw[eR (by rw[mC.out];omega)];rw[eR (by rw[aI,mC.out];omega)] at hu;rw[<-hu];simp[hj]
      intro v' af aa Z _;have SE:ay [] w9 af:=ay.of_grown Z (by simp[Value.ownBlock]);have bg:g<w9.heap.size\/E.length=0:=by
       obtain⟨a2,c2,-,-,-,h4⟩:=bF.out;by_cases h0:E.length=0
       ·exact .inr h0
       ·exact .inl (h4 h0).1
      have Lb:Hid (∃(n:bM) (v:Value) (g:Nat) (own:List Nat) (Dn:Bool) (J:Nat),Value.bool ax= .bool Dn/\Hid (af.ownsRow J 3 1 v' own.length (cW own)/\w6.heap.size<=J/\J<=af.heap.size/\(n.E.length≠0->g<J)/\w.heap.size<g/\own.length<=13/\bm af w5.heap.size (aU n v) 110/\n.B.length=13/\bz af v g n.E/\v.oneCell'=true/\uG n/\(∀k,k<n.E.length->(eh n.E k).size<=9223372036854775807)/\ay [w5.heap.size] w6 af/\
       (Dn=true->n=kW (az B ps) r/\own=(if (gq r).K=2 then ((cM (az B ps) r).take (aZ r1.toNat)).map Int.toNat else [])/\((gq r).K=2->kQ (az B ps) (cM (az B ps) r) r1.toNat))/\(Dn=false->¬j5 (az B ps) r))):=by
       have nM:(((cM (az B ps) r).take c).map Int.toNat).length=c:=by rw[bJ,aI,mC.out];omega
       have b8:cW (((cM (az B ps) r).take c).map Int.toNat)=zs ((cM (az B ps) r).take c):=Zq λk=>by
        by_cases W:k<c
        ·have :=(La.out k).1
         simp only[aj,bN,aB W] at this ⊢;exact this
        ·rw[aj,bN,aA W]
         simp
       refine⟨{ gq r with E:=E },.slice a E.length cap,g,((cM (az B ps) r).take c).map Int.toNat,ax,w9.heap.size,rfl,?_,UG.out.size,SE.size,λh=>bg.resolve_right h,by have :=HG.out;have :=mX.out.size;omega,by rw[nM];exact SD,XM.out.keep SE (by simp),rfl,bF.out.keep SE (by simp),rfl,⟨K4.out.f,K4.out.k,K4.out.l,K4.out.s⟩,?_,UG.out.trans SE (by simp),λh=> ?_,λh hr=> ?_⟩
       ·rw[nM,b8]
        exact aa
       ·intro k W
        cases gW:ax
        ·have h2:=(MF.out gW).2
         have rN:k<E.length:=W;rw[h2] at rN;simp at rN
        ·have h2:=(z6.out gW).2
         have rN:k<E.length:=W;show(eh E k).size<=_;rw[h2,mB] at rN;rw[h2,(ym _ _ _ _ rN).1];have :=tY (vA (az B ps) (cM (az B ps) r) k);omega
       ·obtain⟨h1,h2⟩:=z6.out h
        rw[aW.out];refine⟨?_,?_,λ_=>h1⟩
        ·unfold kW
         rw[aB ae.out,SA.out,aW.out,<-h2]
        ·rw[aB ae.out,<-SC.out,h2,mB]
       ·have h2:=hr.2.2.1 ae.out
        rw[SA.out,aW.out] at h2;exact(MF.out h).1 h2
      clear aa Z SE bg hi;go_wp2_with fail;go_meet;case rel=>exact Lb.out
     ·have ek:((gq r).K==2)=false:=cg.2 ac
      obtain⟨w7,a7,B5,AJ⟩:=MP (l:=cM (az B ps) r) ID.out rfl mC.out;have UF:=ar (bL.out w6 (ay.refl _ _));have b5:=ar a7;have Lb:Hid (∃(n:bM) (v:Value) (g:Nat) (own:List Nat) (Dn:Bool) (J:Nat),Value.bool true= .bool Dn/\Hid (w7.ownsRow J 3 1 (.slice none 0 0) own.length (cW own)/\w6.heap.size<=J/\J<=w7.heap.size/\(n.E.length≠0->g<J)/\w.heap.size<g/\own.length<=13/\bm w7 w5.heap.size (aU n v) 110/\n.B.length=13/\bz w7 v g n.E/\v.oneCell'=true/\uG n/\(∀k,k<n.E.length->(eh n.E k).size<=9223372036854775807)/\ay [w5.heap.size] w6 w7/\
       (Dn=true->n=kW (az B ps) r/\own=(if (gq r).K=2 then ((cM (az B ps) r).take (aZ r1.toNat)).map Int.toNat else [])/\((gq r).K=2->kQ (az B ps) (cM (az B ps) r) r1.toNat))/\(Dn=false->¬j5 (az B ps) r))):=by
       refine⟨{ gq r with B:=cM (az B ps) r },.slice none 0 0,w6.heap.size,[],true,w6.heap.size,rfl,⟨rfl,.inl ⟨rfl,rfl⟩⟩,aG _,AJ.size,λh=>absurd rfl h,by omega,by simp,B5,mC.out,bz.nil _ _,rfl,K4.out,λk W=>absurd W (by show ¬k<0;omega),AJ,λ_=>⟨?_,by rw[aA ac],λh=>absurd h ac⟩,λh=>(by cases h)⟩;unfold kW;rw[aA ac]
      clear a7 B5 AJ;generalize (zs (cM (az B ps) r)).toArray=a6 at *;generalize (gq r).K=kk at *;go_wp2_with(first|(with_reducible refine gL 108 UF.out ?_)|(with_reducible refine gS 108 b5.out ?_));go_meet;case rel=>exact Lb.out
    case rest=>
     obtain⟨n,v,g,own,Dn,J,rfl,HC⟩:=hcut;obtain⟨aF,cA,cq,bV,ce,pE,J7,SF,hE,Z3,V3,bH,vB,OH,OI⟩:=HC.out;obtain⟨i0,hi,aY,aL,aT⟩:=cJ Tryz.info_int;have QL:=ar hi;have bp:=uw.out 7;rw[V2.out] at bp;have ZG:V<256:=by have :=Dz.out.1;rw[V2.out] at this;exact this
     have Af:=ar J7;have HE:=ar hE;have ae:=ar vB;have aH:=ar aF;have b6:=ar Z3;have cd:=ar V3;have V4:=ar bH;have V5:=ar OH;have Z5:=ar OI;have GR:=ar SF;clear HC aF J7 hE vB OH OI hi Z3 V3 bH SF
     go_upto_if 63 with fail
     go_cut [12] (λs12 z=>∃(ga:Nat),Hid (jL z s12 ga (own++(if V=0 then [] else [V.toNat]))/\w.heap.size<ga/\bm z w5.heap.size (aU n v) 110/\bz z v g n.E/\ay [w5.heap.size] w6 z))
     case first=>
      by_cases aD:V=0
      ·have e0:(V != 0)=false:=by rw[aD];rfl
       have Lb:Hid (∃(ga:Nat),Hid (jL wc u12 ga (own++(if V=0 then [] else [V.toNat]))/\w.heap.size<ga/\bm wc w5.heap.size (aU n v) 110/\bz wc v g n.E/\ay [w5.heap.size] w6 wc)):=by
        obtain⟨ga,ho,sk⟩:=jL.of_row aH.out;rw[aB aD,bq];exact⟨ga,ho,by have :=mX.out.size;omega,Af.out,HE.out,ae.out⟩
       go_wp2_with fail;go_meet;case rel=>exact Lb.out
      ·have e0:(V != 0)=true:=bne_iff_ne.2 aD
       have hi:=QL.out;go_wp2_with(at_builtin;refine dE _ rfl _ _ 134 rfl J 3 i0 (.int .i64 0) 1 8 Tryz.underlying134 hi aY aL aT rfl (by decide) u12 own.length (cW own) rfl (aH.out.alloc _) ⟨wc.heap.size,0,none⟩ 1 1 [.int .i64 V] rfl rfl ?c1 ?c2 (by unfold maxLen;omega) (by omega) (by simp;omega) ?_);case c1=>exact iP _ [_] _ _ rfl
       case c2=>simp[Value.oneCell']
       intro v' w8 aa Z bs;have Lb:Hid (∃(ga:Nat),Hid (jL w8 v' ga (own++(if V=0 then [] else [V.toNat]))/\w.heap.size<ga/\bm w8 w5.heap.size (aU n v) 110/\bz w8 v g n.E/\ay [w5.heap.size] w6 w8)):=by
        have e1:cW (own++[V.toNat])=cW own++[.int .i64 V]:=by
         rw[sW]
         congr 1
         simp[cW];omega
        have ap:=aa;rw[<-e1,show own.length+1=(own++[V.toNat]).length by simp] at ap;obtain⟨ga,ho,sk⟩:=jL.of_row ap;rw[aA aD];have pk:∀k,u12.ownBlock=some k->J<=k:=cE aH.out;have C5:ay [w5.heap.size] w6 w8:=(ae.out.alloc (.cells #[.int .i64 V] 3)).trans (ay.of_grown (l:=(u12.ownBlock).toList) Z (λk W=> .inl (by rw[W];simp))) (λx G=> .inr (by
         cases Z7:u12.ownBlock with
         |none=>rw[Z7] at G;simp at G
         |some y=>
          rw[Z7] at G;simp at G;have :=pk y Z7;omega))
        refine⟨ga,ho,by have :=mX.out.size;omega,?_,?_,C5⟩
        ·exact(Z.block _ (Af.out.alloc _).lt (λe=>by have :=pk _ e.symm;omega)).trans (Af.out.alloc _)
        ·refine(HE.out.keep ((ay.refl [] wc).alloc _) (by simp)).keep (ay.of_grown (l:=(u12.ownBlock).toList) Z (λk W=> .inl (by rw[W];simp))) λh0 hm=> ?_
         cases Z7:u12.ownBlock with
         |none=>rw[Z7] at hm;simp at hm
         |some y=>
          rw[Z7] at hm;simp at hm;have :=pk y Z7;have :=bV h0;omega
       clear aa Z bs hi;go_wp2_with fail;go_meet;case rel=>exact Lb.out
     case rest=>
      obtain⟨ga,HD⟩:=hcut;obtain⟨IE,sk,J7,hE,vB⟩:=HD.out;have cn:w.heap.size<w5.heap.size:=by omega
      have SG:=ar (ZV.out.keep vB (by rw[au];omega));have ak:Hid (ay [] w wc):=mX.out.trans vB (by intro x G;rw[au] at G;omega);have bk:=bU.out.keep vB (by rw[au];omega);have bR:=ZX.out.keep vB (by rw[au];omega);have VA:Hid (∀z,ay [] wc z->(loadVar 3 ⟨w5.heap.size,0,none⟩).run Tryz.prog z= .ok (.int .i64 n.F) z):=λz W=>Bv (off:=0) Tryz.underlying3 (J7.keep W (by simp)) rfl
      have xK:Hid (∀z,ay [] wc z->(loadVar 110 ⟨w5.heap.size,0,none⟩).run Tryz.prog z= .ok (.agg (aU n v)) z):=λz W=>cH (J7.keep W (by simp)) GR.out
      have SH:Hid (∀z,ay [] wc z->(loadVar 108 ⟨w3.heap.size,0,none⟩).run Tryz.prog z= .ok (.agg (zs (cM (az B ps) r)).toArray) z):=λz W=>
       eD (off:=0) (bR.keep W (by simp)) mC.out (λk W=>by rw[aX,aC,eR (by rw[mC.out];exact W)])
      have SI:Hid (∀z,ay [] wc z->(loadVar 188 ⟨w1.heap.size,0,none⟩).run Tryz.prog z= .ok (.agg (aR r).toArray) z):=λz W=>ea (bk.keep W (by simp)) yo.out
      have uM:Hid (∀z,ay [] wc z->Calls Tryz.prog 94 #[.agg (aU n v)] z λe w'=>e= .returned (.bool (decide (bP n)))/\ay [] z w'):=λz W=>kV n v g GR.out z (hE.keep W (by simp)) V4.out
      have Aa:Hid (∀z,Calls Tryz.prog 190 #[.agg (aU n v),.agg (zs (cM (az B ps) r)).toArray,.int .i64 V] z λe w'=>e= .returned (.agg (aR (fE n (cM (az B ps) r) V)).toArray)/\ay [] z w'):=λz=>
       zq n v GR.out cd.out _ mC.out (λk=>by have :=La.out k;omega) V ⟨bp.1,by omega⟩ z
      have bQ:(fE n (cM (az B ps) r) V).length=8:=by simp[fE,mC.out]
      have Z9:=ar (λz=>El (a:=fE n (cM (az B ps) r) V) (b:=r) bQ yo.out z);have VF:=pZ;have F3:Hid (Dn=true->(j5 (az B ps) r↔n.F=1/\bP n/\fE n (cM (az B ps) r) V=r)):=λh=>by
       obtain⟨h1,-,h3⟩:=V5.out h;have hF:n.F=(gq r).F:=by
        rw[h1];unfold kW;split<;>rfl
       unfold j5;rw[<-h1,hF,V2.out,SA.out];exact⟨λh=>h.2.2.2,λh=>⟨Dz.out,by omega,h3,h⟩⟩
      have lX:Hid (∀z,ay [] wc z->Dn=true->j5 (az B ps) r->∃w',(storeVar 110 ⟨w.heap.size,0,none⟩ (.agg (aU n v))).run Tryz.prog z= .ok () w'/\(loadVar 110 ⟨w.heap.size,0,none⟩).run Tryz.prog w'= .ok (.agg (aU n v)) w'/\jb w (az B ps) i (.returned (.tuple #[.agg (aU n v),u12,.bool true])) w'):=λz W gW IG=>by
       obtain⟨w',h1,h2,h3⟩:=br (P:= Tryz.prog) (ty:= 110) (cs:=lL n v) (by rw[fC,GR.out];exact gZ) (SG.out.keep W (by simp)) (by have hz:=UD.out;rw[<-hz,fC,GR.out];rfl) (jg b6.out);obtain⟨e1,e2,-⟩:=V5.out gW;have rN:ay [] w w':=(ak.out.trans' W).trans h3 (by intro x G;rw[au] at G;omega);refine⟨w',h1,cH h2 GR.out,n,v,g,own++(if V=0 then [] else [V.toNat]),u12,ga,true,rfl,GR.out,?_,Nat.le_of_lt ce,?_,Nat.le_of_lt sk,λ_=>⟨XU.out,?_,?_,?_⟩,λh=>(by cases h),rN⟩
       ·refine(hE.keep W (by simp)).keep h3 λh0=> ?_
        rw[au];omega
       ·refine(IE.keep W (by simp)).keep h3 ?_
        rw[au];omega
       ·rw[<-HR.out];exact IG
       ·rw[<-HR.out];exact e1
       ·rw[<-HR.out,e2]
        unfold Al;rw[V2.out,SA.out]
      clear HD IE sk J7 hE vB bk bR bQ;obtain⟨tR,aM⟩:∃t,decide (bP n)=t:=⟨_,rfl⟩;rw[aM] at uM;obtain⟨tW,aP⟩:∃t,decide (fE n (cM (az B ps) r) V=r)=t:=⟨_,rfl⟩;rw[aP] at Z9;have cy:=Z9.out;have bK:=ar aM;have bS:=ar aP;clear aM aP Z9;generalize (aR (fE n (cM (az B ps) r) V)).toArray=ZW at *;generalize (zs (cM (az B ps) r)).toArray=ZA at *;generalize (aR r).toArray=ZR at *;generalize aU n v=ZN at *;generalize hf:n.F=f at *;have V6:=ar hf;clear hf;have aV:Hid (¬(Dn=true/\f=1/\tR=true/\tW=true)->¬((0<=i/\i<32)/\j5 (az B ps) (eO (az B ps) i))):=λh=>jr.out λhr=>by
       cases aab:Dn
       ·exact Z5.out aab hr
       ·obtain⟨h1,h2,h3⟩:=(F3.out aab).1 hr
        refine h ⟨aab,h1,?_,?_⟩
        ·rw[<-bK.out];exact bj h2
        ·rw[<-bS.out];exact bj h3
      by_cases uN:Dn=true/\f=1/\tR=true/\tW=true
      ·obtain⟨rfl,rfl,rfl,rfl⟩:=uN
       have bW:Hid (j5 (az B ps) r):=(F3.out rfl).2 ⟨rfl,of_decide_eq_true bK.out,of_decide_eq_true bS.out⟩;have OJ:(1:Int)=1:=rfl;clear aV jr F3 V5 Z5;go_wp2_with fail;refine dv (S:=λz=>ay [] wc z) (by kernel_rfl) (by kernel_rfl) (λd _ _ _ _ h=>by cases d<;>exact h) ((ay.refl _ _).drew) (by kernel_rfl) ?_;repeat (first
        |(refine aJ.cons (.int .i64 1) (ba.load rfl 3 (.tmp 71) rfl _ rfl λz G=>VA.out z G) ?_;simp only[Act.put,ag,ah,ai])
        |(refine aJ.cons (.agg ZN) (ba.load rfl 110 (.tmp 8) rfl _ rfl λz G=>xK.out z G) ?_;simp only[Act.put,ag,ah,ai])
        |(refine aJ.cons (.agg ZA) (ba.load rfl 108 (.tmp 9) rfl _ rfl λz G=>SH.out z G) ?_;simp only[Act.put,ag,ah,ai])
        |(refine aJ.cons (.agg ZR) (ba.load rfl 188 (.tmp 7) rfl _ rfl λz G=>SI.out z G) ?_;simp only[Act.put,ag,ah,ai])
        |(refine aJ.cons (.bool true) (ba.call rfl 94 #[.agg ZN] ?U ?h) ?_;(case U=>(intro wz;go_simp));(case h=>exact λz G=>(uM.out z G).mono λe w' U=>⟨U.1,G.trans' U.2⟩);simp only[Act.put,ag,ah,ai])
        |(refine aJ.cons (.agg ZW) (ba.call rfl 190 #[.agg ZN,.agg ZA,.int .i64 V] ?U ?h) ?_;(case U=>(intro wz;go_simp));(case h=>exact λz G=>(Aa.out z).mono λe w' U=>⟨U.1,G.trans' U.2⟩);simp only[Act.put,ag,ah,ai])
        |(refine aJ.cons undef (ba.off rfl) ?_;simp only[Act.put,ag,ah,ai])
        |(refine aJ.cons (.bool true) (ba.val rfl ?h) ?_;(case h=>(intro z G;clear G;first|(go_simp;done)|(go_simp;simp[OJ];done)));simp only[Act.put,ag,ah,ai])
        |(refine aJ.cons (.bool false) (ba.val rfl ?h) ?_;(case h=>(intro z G;clear G;first|(go_simp;done)|(go_simp;simp[OJ];done)));simp only[Act.put,ag,ah,ai])
        |(refine aJ.cons ?_ (ba.val rfl ?h) ?_;(case h=>(intro z G;clear G;go_simp;rfl));simp only[Act.put,ag,ah,ai]))
       refine aJ.done λwz G=> ?_
       have Ah:=ar G;clear G;obtain⟨w9,xg,xh,Ex⟩:=lX.out wz Ah.out trivial bW.out;have F4:=ar xg;have F5:=ar xh;have V7:=ar Ex;have b7:=ar (xK.out wz Ah.out);clear xg xh Ex;go_wp2_with(first|(with_reducible refine gL 110 b7.out ?_)|(with_reducible refine gS 110 F4.out ?_));exact aK (bE Tryz.results168 rfl F5.out rfl rfl) rfl V7.out
      ·have HN:=ar (aV.out uN)
       clear aV jr F3 V5 Z5 lX;cases Dn
       ·have OJ:(1:Int)=1:=rfl
        clear uN;go_wp2_with fail;refine dv (S:=λz=>ay [] wc z) (by kernel_rfl) (by kernel_rfl) (λd _ _ _ _ h=>by cases d<;>exact h) ((ay.refl _ _).drew) (by kernel_rfl) ?_;repeat (first
         |(refine aJ.cons (.int .i64 f) (ba.load rfl 3 (.tmp 71) rfl _ rfl λz G=>VA.out z G) ?_;simp only[Act.put,ag,ah,ai])
         |(refine aJ.cons (.agg ZN) (ba.load rfl 110 (.tmp 8) rfl _ rfl λz G=>xK.out z G) ?_;simp only[Act.put,ag,ah,ai])
         |(refine aJ.cons (.agg ZA) (ba.load rfl 108 (.tmp 9) rfl _ rfl λz G=>SH.out z G) ?_;simp only[Act.put,ag,ah,ai])
         |(refine aJ.cons (.agg ZR) (ba.load rfl 188 (.tmp 7) rfl _ rfl λz G=>SI.out z G) ?_;simp only[Act.put,ag,ah,ai])
         |(refine aJ.cons (.bool tR) (ba.call rfl 94 #[.agg ZN] ?U ?h) ?_;(case U=>(intro wz;go_simp));(case h=>exact λz G=>(uM.out z G).mono λe w' U=>⟨U.1,G.trans' U.2⟩);simp only[Act.put,ag,ah,ai])
         |(refine aJ.cons (.agg ZW) (ba.call rfl 190 #[.agg ZN,.agg ZA,.int .i64 V] ?U ?h) ?_;(case U=>(intro wz;go_simp));(case h=>exact λz G=>(Aa.out z).mono λe w' U=>⟨U.1,G.trans' U.2⟩);simp only[Act.put,ag,ah,ai])
         |(refine aJ.cons undef (ba.off rfl) ?_;simp only[Act.put,ag,ah,ai])
         |(refine aJ.cons (.bool true) (ba.val rfl ?h) ?_;(case h=>(intro z G;clear G;first|(go_simp;done)|(go_simp;simp[OJ];done)));simp only[Act.put,ag,ah,ai])
         |(refine aJ.cons (.bool false) (ba.val rfl ?h) ?_;(case h=>(intro z G;clear G;first|(go_simp;done)|(go_simp;simp[OJ];done)));simp only[Act.put,ag,ah,ai])
         |(refine aJ.cons ?_ (ba.val rfl ?h) ?_;(case h=>(intro z G;clear G;go_simp;rfl));simp only[Act.put,ag,ah,ai]))
        refine aJ.done λwz G=> ?_
        have Ah:=ar G;clear G;obtain⟨w9,xg,xh,EE⟩:=vC.out wz (SG.out.keep Ah.out (by simp));have F4:=ar xg;have F5:=ar xh;have UG:=ar ((ak.out.trans' Ah.out).trans EE (by intro x G;rw[au] at G;omega));clear xg xh EE;go_wp2_with(with_reducible refine gS 110 F4.out ?_);refine aK (bE Tryz.results168 rfl F5.out rfl rfl) rfl ?_;have :=jb.no HN.out UG.out;rw[UD.out] at this;exact this
       ·by_cases Uw:f=1
        ·subst Uw
         have OJ:(1:Int)=1:=rfl;cases tR
         ·clear uN
          go_wp2_with fail;refine dv (S:=λz=>ay [] wc z) (by kernel_rfl) (by kernel_rfl) (λd _ _ _ _ h=>by cases d<;>exact h) ((ay.refl _ _).drew) (by kernel_rfl) ?_;repeat (first
           |(refine aJ.cons (.int .i64 1) (ba.load rfl 3 (.tmp 71) rfl _ rfl λz G=>VA.out z G) ?_;simp only[Act.put,ag,ah,ai])
           |(refine aJ.cons (.agg ZN) (ba.load rfl 110 (.tmp 8) rfl _ rfl λz G=>xK.out z G) ?_;simp only[Act.put,ag,ah,ai])
           |(refine aJ.cons (.agg ZA) (ba.load rfl 108 (.tmp 9) rfl _ rfl λz G=>SH.out z G) ?_;simp only[Act.put,ag,ah,ai])
           |(refine aJ.cons (.agg ZR) (ba.load rfl 188 (.tmp 7) rfl _ rfl λz G=>SI.out z G) ?_;simp only[Act.put,ag,ah,ai])
           |(refine aJ.cons (.bool false) (ba.call rfl 94 #[.agg ZN] ?U ?h) ?_;(case U=>(intro wz;go_simp));(case h=>exact λz G=>(uM.out z G).mono λe w' U=>⟨U.1,G.trans' U.2⟩);simp only[Act.put,ag,ah,ai])
           |(refine aJ.cons (.agg ZW) (ba.call rfl 190 #[.agg ZN,.agg ZA,.int .i64 V] ?U ?h) ?_;(case U=>(intro wz;go_simp));(case h=>exact λz G=>(Aa.out z).mono λe w' U=>⟨U.1,G.trans' U.2⟩);simp only[Act.put,ag,ah,ai])
           |(refine aJ.cons undef (ba.off rfl) ?_;simp only[Act.put,ag,ah,ai])
           |(refine aJ.cons (.bool true) (ba.val rfl ?h) ?_;(case h=>(intro z G;clear G;first|(go_simp;done)|(go_simp;simp[OJ];done)));simp only[Act.put,ag,ah,ai])
           |(refine aJ.cons (.bool false) (ba.val rfl ?h) ?_;(case h=>(intro z G;clear G;first|(go_simp;done)|(go_simp;simp[OJ];done)));simp only[Act.put,ag,ah,ai])
           |(refine aJ.cons ?_ (ba.val rfl ?h) ?_;(case h=>(intro z G;clear G;go_simp;rfl));simp only[Act.put,ag,ah,ai]))
          refine aJ.done λwz G=> ?_
          have Ah:=ar G;clear G;obtain⟨w9,xg,xh,EE⟩:=vC.out wz (SG.out.keep Ah.out (by simp));have F4:=ar xg;have F5:=ar xh;have UG:=ar ((ak.out.trans' Ah.out).trans EE (by intro x G;rw[au] at G;omega));clear xg xh EE;go_wp2_with(with_reducible refine gS 110 F4.out ?_);refine aK (bE Tryz.results168 rfl F5.out rfl rfl) rfl ?_;have :=jb.no HN.out UG.out;rw[UD.out] at this;exact this
         ·cases tW
          ·clear uN
           go_wp2_with fail;refine dv (S:=λz=>ay [] wc z) (by kernel_rfl) (by kernel_rfl) (λd _ _ _ _ h=>by cases d<;>exact h) ((ay.refl _ _).drew) (by kernel_rfl) ?_;repeat (first
            |(refine aJ.cons (.int .i64 1) (ba.load rfl 3 (.tmp 71) rfl _ rfl λz G=>VA.out z G) ?_;simp only[Act.put,ag,ah,ai])
            |(refine aJ.cons (.agg ZN) (ba.load rfl 110 (.tmp 8) rfl _ rfl λz G=>xK.out z G) ?_;simp only[Act.put,ag,ah,ai])
            |(refine aJ.cons (.agg ZA) (ba.load rfl 108 (.tmp 9) rfl _ rfl λz G=>SH.out z G) ?_;simp only[Act.put,ag,ah,ai])
            |(refine aJ.cons (.agg ZR) (ba.load rfl 188 (.tmp 7) rfl _ rfl λz G=>SI.out z G) ?_;simp only[Act.put,ag,ah,ai])
            |(refine aJ.cons (.bool true) (ba.call rfl 94 #[.agg ZN] ?U ?h) ?_;(case U=>(intro wz;go_simp));(case h=>exact λz G=>(uM.out z G).mono λe w' U=>⟨U.1,G.trans' U.2⟩);simp only[Act.put,ag,ah,ai])
            |(refine aJ.cons (.agg ZW) (ba.call rfl 190 #[.agg ZN,.agg ZA,.int .i64 V] ?U ?h) ?_;(case U=>(intro wz;go_simp));(case h=>exact λz G=>(Aa.out z).mono λe w' U=>⟨U.1,G.trans' U.2⟩);simp only[Act.put,ag,ah,ai])
            |(refine aJ.cons undef (ba.off rfl) ?_;simp only[Act.put,ag,ah,ai])
            |(refine aJ.cons (.bool true) (ba.val rfl ?h) ?_;(case h=>(intro z G;clear G;first|(go_simp;done)|(go_simp;simp[OJ];done)));simp only[Act.put,ag,ah,ai])
            |(refine aJ.cons (.bool false) (ba.val rfl ?h) ?_;(case h=>(intro z G;clear G;first|(go_simp;done)|(go_simp;simp[OJ];done)));simp only[Act.put,ag,ah,ai])
            |(refine aJ.cons ?_ (ba.val rfl ?h) ?_;(case h=>(intro z G;clear G;go_simp;rfl));simp only[Act.put,ag,ah,ai]))
           refine aJ.done λwz G=> ?_
           have Ah:=ar G;clear G;obtain⟨w9,xg,xh,EE⟩:=vC.out wz (SG.out.keep Ah.out (by simp));have F4:=ar xg;have F5:=ar xh;have UG:=ar ((ak.out.trans' Ah.out).trans EE (by intro x G;rw[au] at G;omega));clear xg xh EE;go_wp2_with(with_reducible refine gS 110 F4.out ?_);refine aK (bE Tryz.results168 rfl F5.out rfl rfl) rfl ?_;have :=jb.no HN.out UG.out;rw[UD.out] at this;exact this
          ·exact absurd ⟨rfl,rfl,rfl,rfl⟩ uN
        ·have OJ:(f != 1)=true:=bne_iff_ne.2 Uw
         clear uN;go_wp2_with fail;refine dv (S:=λz=>ay [] wc z) (by kernel_rfl) (by kernel_rfl) (λd _ _ _ _ h=>by cases d<;>exact h) ((ay.refl _ _).drew) (by kernel_rfl) ?_;repeat (first
          |(refine aJ.cons (.int .i64 f) (ba.load rfl 3 (.tmp 71) rfl _ rfl λz G=>VA.out z G) ?_;simp only[Act.put,ag,ah,ai])
          |(refine aJ.cons (.agg ZN) (ba.load rfl 110 (.tmp 8) rfl _ rfl λz G=>xK.out z G) ?_;simp only[Act.put,ag,ah,ai])
          |(refine aJ.cons (.agg ZA) (ba.load rfl 108 (.tmp 9) rfl _ rfl λz G=>SH.out z G) ?_;simp only[Act.put,ag,ah,ai])
          |(refine aJ.cons (.agg ZR) (ba.load rfl 188 (.tmp 7) rfl _ rfl λz G=>SI.out z G) ?_;simp only[Act.put,ag,ah,ai])
          |(refine aJ.cons (.bool tR) (ba.call rfl 94 #[.agg ZN] ?U ?h) ?_;(case U=>(intro wz;go_simp));(case h=>exact λz G=>(uM.out z G).mono λe w' U=>⟨U.1,G.trans' U.2⟩);simp only[Act.put,ag,ah,ai])
          |(refine aJ.cons (.agg ZW) (ba.call rfl 190 #[.agg ZN,.agg ZA,.int .i64 V] ?U ?h) ?_;(case U=>(intro wz;go_simp));(case h=>exact λz G=>(Aa.out z).mono λe w' U=>⟨U.1,G.trans' U.2⟩);simp only[Act.put,ag,ah,ai])
          |(refine aJ.cons undef (ba.off rfl) ?_;simp only[Act.put,ag,ah,ai])
          |(refine aJ.cons (.bool true) (ba.val rfl ?h) ?_;(case h=>(intro z G;clear G;first|(go_simp;done)|(go_simp;simp[OJ];done)));simp only[Act.put,ag,ah,ai])
          |(refine aJ.cons (.bool false) (ba.val rfl ?h) ?_;(case h=>(intro z G;clear G;first|(go_simp;done)|(go_simp;simp[OJ];done)));simp only[Act.put,ag,ah,ai])
          |(refine aJ.cons ?_ (ba.val rfl ?h) ?_;(case h=>(intro z G;clear G;go_simp;rfl));simp only[Act.put,ag,ah,ai]))
         refine aJ.done λwz G=> ?_
         have Ah:=ar G;clear G;obtain⟨w9,xg,xh,EE⟩:=vC.out wz (SG.out.keep Ah.out (by simp));have F4:=ar xg;have F5:=ar xh;have UG:=ar ((ak.out.trans' Ah.out).trans EE (by intro x G;rw[au] at G;omega));clear xg xh EE;go_wp2_with(with_reducible refine gS 110 F4.out ?_);refine aK (bE Tryz.results168 rfl F5.out rfl rfl) rfl ?_;have :=jb.no HN.out UG.out;rw[UD.out] at this;exact this
def ownRow (n:bM) (own:List Nat) (m:Nat):List Int:=if m<aZ n.E.length then fT n.E m else (dw n own).drop 5
structure B7 (X:List Int) (q:Nat) (n:bM) (own:List Nat):Prop where
 row:dy X q=fE n (dw n own) ((ew n own:Nat):Int)
 own:∀m,m<own.length->dy X (1080+8*own.getD m 0)=ownRow n own m
theorem ia{l:List Nat}(h:k<l.length):l.getD k 0∈l:=by
 rw[aj,aD h];exact bp _
theorem getD_inj{l:List Nat}(V:l.Nodup){j k:Nat}(G:j<l.length)(z:k<l.length)(h:l.getD j 0=l.getD k 0):j=k:=by
 rw[aj,aj,aD G,aD z] at h;have J:=cz.1 V;rcases Nat.lt_trichotomy j k with y|U|y
 ·exact absurd h (J j k G z y)
 ·exact U
 ·exact absurd h.symm (J k j z G y)
theorem SJ (y:X.length=3128)(p:Nat)(l:List Int)(j:Nat):∀k,p+k<=3128->(az X (ir p l k)).getD j 0=if p<=j/\j<p+k then l.getD (j-p) 0 else X.getD j 0:=by
 intro k;induction k with
 |zero=>intro _;rw[aA (by omega)];rfl
 |succ k ih=>
  intro z;rw[vz,bo,k9,aH,wu,bO,y,ih (by omega)];by_cases e:p+k=j
  ·subst e
   rw[aB ⟨rfl,by omega⟩,aB ⟨by omega,by omega⟩,cX]
  ·rw[aA (by omega)]
   by_cases h:p<=j/\j<p+k
   ·rw[aB h,aB ⟨h.1,by omega⟩]
   ·rw[aA h,aA (by omega)]
theorem MT (h:X.length=3128)(p:Nat)(y:p+8<=3128)(l:List Int)(j:Nat):(az X (ir p l 8)).getD j 0=if p<=j/\j<p+8 then l.getD (j-p) 0 else X.getD j 0:=SJ h p l j 8 y
theorem IH{p:Nat}(z:l.length=8)(h:∀j,j<8->X.getD (p+j) 0=l.getD j 0):dy X p=l:=
 zk (by rw[fQ,z]) λk y=>by
  rw[fQ] at y;rw[iJ _ _ _ y,h k y]
theorem mZ (h:X.length=3128)(p:Nat)(y:p+8<=3128){l:List Int}(z:l.length=8):dy (az X (ir p l 8)) p=l:=
 IH z λj G=>by rw[MT h p y,aB ⟨by omega,by omega⟩,cX]
theorem na (z:X.length=3128)(p y:Nat)(G:p+8<=3128){l:List Int}(h:y+8<=p\/p+8<=y):dy (az X (ir p l 8)) y=dy X y:=
 IH (fQ _ _) λj J=>by rw[MT z p G,aA (by omega),iJ _ _ _ J]
theorem Lc (h:l.length=13)(x:Int):(fE n l x).length=8:=by simp[fE,h]
theorem og (y:aZ n.E.length<=own.length){k:Nat}(h:k<aZ n.E.length):(dw n own).getD k 0=((own.getD k 0:Nat):Int):=by rw[qp y,aB h]
theorem II (z:X.length=3128){n:bM}{own:List Nat}(J:aZ n.E.length<=own.length)(G:own.Nodup)(y:∀c∈own,c≠0/\c<256):∀k,k<=aZ n.E.length->∀m,m<k->dy (az X (oM n.E (dw n own) k)) (1080+8*own.getD m 0)=fT n.E m:=by
 intro k;induction k with
 |zero=>intro _ m y;omega
 |succ k ih=>
  intro W m Z;have U:=y _ (ia (show k<own.length by omega));have V:=y _ (ia (show m<own.length by omega));rw[vE,bo,og J (by omega),aH];by_cases e:m=k
  ·subst e
   exact mZ (by rw[bO,z]) _ (by omega) (jA _ _ _)
  ·have :own.getD m 0≠own.getD k 0:=λh=>e (getD_inj G (by omega) (by omega) h)
   rw[na (by rw[bO,z]) _ _ (by omega) (by omega)];exact ih (by omega) m (by omega)
theorem SK (y:X.length=3128)(i:Nat)(hi:i<32){n:bM}{own:List Nat}(hB:n.B.length=13)(hc:aZ n.E.length<=6)(W:aZ n.E.length<=own.length)(Dx:own.length<=aZ n.E.length+1)(V:own.Nodup)(J:∀c∈own,c≠0/\c<256):
  B7 (az X (rr i n own)) (824+8*i) n own:=by
 have Z:=qo hB (by omega) W;unfold rr;rw[bo,bo];refine⟨mZ (by rw[bO,bO,y]) _ (by omega) (Lc Z _),λm z=> ?_⟩;have J5:=J _ (ia z);rw[na (by rw[bO,bO,y]) _ _ (by omega) (by omega)];unfold ownRow mG;by_cases G:m<aZ n.E.length
 ·rw[aB G]
  split
  ·rename_i hlt
   have aa:=J _ (ia hlt);have :own.getD m 0≠own.getD (aZ n.E.length) 0:=λh=>by have :=getD_inj V z hlt h;omega
   have U:ew n own=own.getD (aZ n.E.length) 0:=by unfold ew;rw[aB hlt]
   rw[U,na (by rw[bO,y]) _ _ (by omega) (by omega)];exact II y W V J _ (aG _) m G
  ·exact II y W V J _ (aG _) m G
 ·obtain rfl:m=aZ n.E.length:=by omega
  rw[aA G,aB z];have U:ew n own=own.getD (aZ n.E.length) 0:=by unfold ew;rw[aB z]
  rw[U];exact mZ (by rw[bO,y]) _ (by omega) (by rw[bu,Z])
theorem B8:∀(l:List Nat) (X:List Int),(∀c∈l,c≠0/\c<256)->p∈cL X l->(816<=p.1.toNat/\p.1.toNat<820)\/(1080<=p.1.toNat/\(p.1.toNat-1080)/8∈l):=by
 intro l;induction l with
 |nil=>intro X _ h;simp[cL] at h
 |cons b l ih=>
  intro X z h;obtain⟨J,U⟩:=z b (by simp);have y:p∈(dG X b true++fg b)++cL (az X (dG X b true++fg b)) l:=h;rw[aP,aP] at y;rcases y with(y|y)|y
  ·left
   unfold dG at y;rw[aA (by omega),au] at y;subst y;show 816<=Int.toNat ((_:Nat):Int)/\Int.toNat ((_:Nat):Int)<820;rw[aH];omega
  ·right
   obtain⟨j,V,rfl⟩:=sT y;show 1080<=Int.toNat ((_:Nat):Int)/\(Int.toNat ((_:Nat):Int)-1080)/8∈_;rw[aH];refine⟨by omega,?_⟩;rw[show(1080+b*8+j-1080)/8=b by omega];simp
  ·rcases ih _ (λc G=>z c (by simp[G])) y with y|y
   ·exact .inl y
   ·exact .inr ⟨y.1,by simp[y.2]⟩
theorem jD (h:p∈ir q l k):∃j,j<k/\p.1.toNat=q+j/\p.2=l.getD j 0:=by
 unfold ir at h;obtain⟨j,y,rfl⟩:=bB.1 h;exact⟨j,by simpa using y,aH _,rfl⟩
theorem oN (V:aZ n.E.length<=own.length)(h:p∈rr i n own):(1080<=p.1.toNat/\(p.1.toNat-1080)/8∈own/\∃m j,j<8/\p.2=(ownRow n own m).getD j 0)\/(824+8*i<=p.1.toNat/\p.1.toNat<832+8*i/\∃j,j<8/\p.2=(fE n (dw n own) ((ew n own:Nat):Int)).getD j 0):=by
 unfold rr at h;rw[aP,aP] at h;rcases h with h|h|h
 ·left
  unfold oM at h;obtain⟨k,J,h⟩:=List.mem_flatMap.1 h;rw[bS] at J;obtain⟨j,G,y,z⟩:=jD h;rw[og V J,aH] at y;refine⟨by omega,?_,k,j,G,by rw[z,ownRow,aB J]⟩;rw[y,show(1080+8*own.getD k 0+j-1080)/8=own.getD k 0 by omega];exact ia (by omega)
 ·left
  unfold mG at h;split at h
  ·rename_i hlt
   obtain⟨j,G,y,z⟩:=jD h;have U:ew n own=own.getD (aZ n.E.length) 0:=by unfold ew;rw[aB hlt]
   rw[U] at y;refine⟨by omega,?_,aZ n.E.length,j,G,by rw[z,ownRow,aA (Nat.lt_irrefl _)]⟩;rw[y,show(1080+8*own.getD (aZ n.E.length) 0+j-1080)/8=own.getD (aZ n.E.length) 0 by omega];exact ia hlt
  ·simp at h
 ·right
  obtain⟨j,G,y,z⟩:=jD h;exact⟨by omega,by omega,j,G,z⟩
theorem OL (V:aZ n.E.length<=own.length)(U:∀c∈own,c≠0/\c<256){k:Nat}(W:820<=k)(G:¬(1080<=k/\(k-1080)/8∈own))(J:¬(824+8*i<=k/\k<832+8*i)):(az X (l9 X i n own)).getD k 0=X.getD k 0:=by
 refine eo _ _ _ λp y z=> ?_
 unfold l9 at y;rw[aP] at y;rcases y with y|y
 ·rcases B8 _ _ U y with h|h
  ·omega
  ·rw[z] at h;exact G h
 ·rcases oN V y with h|h
  ·rw[z] at h;exact G ⟨h.1,h.2.1⟩
  ·rw[z] at h;exact J ⟨h.1,h.2.1⟩
theorem IK (s:ByteArray):iY (bl s)<18446744073709551616:=by
 unfold iY;split
 ·rename_i h
  exact QW (ml h).2 (wO s)
 ·omega
theorem OM{E:List (ByteArray×Int)}(h:∀k,k<E.length->0<=gT E k/\gT E k<18446744073709551616)(k j:Nat):0<=(fT E k).getD j 0/\(fT E k).getD j 0<18446744073709551616:=by
 by_cases y:j<8
 ·unfold fT
  rw[my _ _ _ _ y];split
  ·unfold FT
   split
   ·have :=IK (eh E (4*k+j/2));omega
   ·exact h _ (by omega)
  ·omega
 ·rw[aj,aO (by rw[fT,jA];omega)]
  simp
theorem aac (eT:dD X)(hX:X.length=3128){i:Nat}{n:bM}{own:List Nat}(Z:n.B.length=13)(y:bP n)(z:aZ n.E.length<=own.length)(J:∀c∈own,c≠0/\c<256):dD (az X (l9 X i n own)):=by
 have G:=iA y;have V:=qo (own:=own) Z (by omega) z;have W:=yv y Z z J;have hT:=py y;unfold l9;rw[bo];refine(kA own X eT hX J).1.put λp hp=> ?_
 rcases oN z hp with ⟨-,-,m,j,U,h⟩|⟨-,-,j,U,h⟩
 ·rw[h]
  unfold ownRow;split
  ·refine OM (λk hk=> ?_) m j
   have :=((G.2.2 (by omega)).2.2.2.2 k hk).2.1;omega
  ·rw[aj,bX,<-aj]
   have :=W (5+j);omega
 ·rw[h]
  unfold fE;have wh:ew n own<256:=by
   unfold ew;split
   ·exact(J _ (ia (by assumption))).2
   ·omega
  obtain⟨t1,t2,t3,t4⟩:=hT
  match j,U with
  |0,_=>show 0<=lN n/\lN n<_;unfold lN;omega
  |1,_=>show 0<=n.S/\n.S<_;omega
  |j+2,U=>
   show 0<=((dw n own).take 5++[((ew n own:Nat):Int)]).getD j 0/\((dw n own).take 5++[((ew n own:Nat):Int)]).getD j 0<_;rw[aj,fK];split
   ·rename_i h5
    rw[aI,V] at h5;rw[bN,aB (by omega),<-aj];have :=W j;omega
   ·rename_i h5
    rw[aI,V] at h5;rw[aI,V,show j-min 5 13=0 by omega];show 0<=((ew n own:Nat):Int)/\((ew n own:Nat):Int)<_;omega
theorem IL (U:bP n)(l:List Int)(x:Int):gq (fE n l x)=⟨n.F,n.K,n.L,n.S,List.replicate 13 0,[]⟩:=by
 obtain⟨hF,V,y⟩:=U;have G:n.K=1\/n.K=2:=y.imp (·.1) (·.1);have W:0<=n.S/\n.S<=832:=by
  rcases y with ⟨_,h⟩|⟨_,h⟩
  ·exact h.1
  ·have Z:=h.1
   have h2:=h.2.1;omega
 have z:(fE n l x).getD 0 0=n.F+256*n.K+65536*n.L:=rfl;have J:(fE n l x).getD 1 0=n.S:=rfl;unfold gq;rw[z,J,show(n.F+256*n.K+65536*n.L)%256=n.F by omega,show(n.F+256*n.K+65536*n.L)/256%256=n.K by omega,show(n.F+256*n.K+65536*n.L)/65536%65536=n.L by omega,show wrap64 n.S=n.S by unfold wrap64;omega]
theorem SL (h:l.length=13)(x:Int):(fE n l x).getD 7 0=x:=by
 show(l.take 5++[x]).getD 5 0=x;rw[aj,aM (by rw[aI,h];omega),aI,h];rfl
theorem SM (h:l.length=13)(x:Int):((fE n l x).drop 2).take 5=l.take 5:=by
 show(l.take 5++[x]).take 5=_;rw[fp (by rw[aI,h];omega),List.take_take];rfl
theorem ry (n:bM):aZ n.E.length<=dX n/\dX n<=aZ n.E.length+1:=by unfold dX;split<;>omega
theorem OO{c:Nat}(z:c<=own.length)(y:own.length<=c+1):own.take c++(if c<own.length then [own.getD c 0] else [])=own:=by
 split
 ·rename_i h
  have :own.drop c=[own.getD c 0]:=by
   rw[eH h,dm (by omega),aj,aD h];rfl
  rw[<-this,dM]
 ·rw[bq,aQ (by omega)]
theorem OP (h:aZ n.E.length<=own.length):((dw n own).take (aZ n.E.length)).map Int.toNat=own.take (aZ n.E.length):=by
 unfold dw;rw[fp (by rw[bJ,aI];omega),aQ (by rw[bJ,aI];omega),List.map_map]
 conv=>rhs;rw[<-List.map_id (List.take (aZ n.E.length) own)]
 exact dQ λa _=>aH a
theorem yy (hB:n.B.length=13)(V:bP n)(hF:n.F=1)(ho:own.length=dX n)(hm:∀c∈own,c≠0/\c<256)(h:B7 X q n own):
  j5 X (dy X q)/\kW X (dy X q)=n/\Al X (dy X q)=own:=by
 have aq:=iA V;have MM:=ry n;have G:aZ n.E.length<=own.length:=by omega
 have lR:=qo (own:=own) hB (by omega) G;have rq:=yv V hB G hm;have Ld:=IL V (dw n own) ((ew n own:Nat):Int);have g1:(fE n (dw n own) ((ew n own:Nat):Int)).getD 1 0=n.S:=rfl;have g7:=SL (n:=n) lR ((ew n own:Nat):Int);have g5:=SM (n:=n) lR ((ew n own:Nat):Int);have hK:n.K=1\/n.K=2:=V.2.2.imp (·.1) (·.1);have SN:n.K=1->n.E=[]/\aZ n.E.length=0:=λy=>by
  rcases V.2.2 with h|h
  ·have :=h.2.2.1
   exact⟨List.length_eq_zero_iff.1 this,by unfold aZ;omega⟩
  ·have :=h.1;omega
 have IM:n.K=2->lM n:=λy=>by
  rcases V.2.2 with h|h
  ·have :=h.1;omega
  ·exact h.2
 have ap:ew n own<256:=by
  unfold ew;split
  ·exact(hm _ (ia (by assumption))).2
  ·omega
 -- the list, or none
 have SP:(aZ n.E.length<own.length/\ew n own=own.getD (aZ n.E.length) 0/\ew n own≠0/\(dw n own).drop 5≠List.replicate 8 0)\/(aZ n.E.length=own.length/\ew n own=0/\(dw n own).drop 5=List.replicate 8 0):=by
  by_cases J:aZ n.E.length<own.length
  ·left
   have U:ew n own=own.getD (aZ n.E.length) 0:=by unfold ew;rw[aB J]
   refine⟨J,U,by rw[U];exact(hm _ (ia J)).1,λhz=> ?_⟩;have h5:5<aZ n.E.length\/n.B.drop 5≠List.replicate 8 0:=by
    rcases Classical.em (5<aZ n.E.length\/n.B.drop 5≠List.replicate 8 0) with h|h
    ·exact h
    ·have :dX n=aZ n.E.length:=by unfold dX;rw[aA h]
     omega
   by_cases h6:5<aZ n.E.length
   ·have e:=og G h6
    have e2:((dw n own).drop 5).getD 0 0=(0:Int):=by rw[hz];rfl
    rw[aj,bX,<-aj,e] at e2;have :=(hm _ (ia (show 5<own.length by omega))).1;omega
   ·have h7:=h5.resolve_left h6
    rcases hK with y|y
    ·have af:=(SN y).2
     apply h7;rw[<-hz];unfold dw;rw[af];rfl
    ·apply h7
     rw[(IM y).2.2.1];rfl
  ·right
   have ah:aZ n.E.length=own.length:=by omega
   have U:ew n own=0:=by unfold ew;rw[aA J]
   have h5:¬(5<aZ n.E.length\/n.B.drop 5≠List.replicate 8 0):=λh=>by
    have :dX n=aZ n.E.length+1:=by unfold dX;rw[aB h]
    omega
   have h6:n.B.drop 5=List.replicate 8 0:=Classical.not_not.1 λh=>h5 (.inr h)
   refine⟨ah,U,zk (by rw[bu,lR];rfl) λk y=> ?_⟩;rw[<-h6,aj,bX,<-aj,qp G,aA (by omega),aj,aj,bX]
 have pG:cM X (fE n (dw n own) ((ew n own:Nat):Int))=dw n own:=by
  unfold cM;rw[g5,g7]
  conv=>rhs;rw[<-dM 5 (dw n own)]
  congr 1
  rcases SP with ⟨J,U,Z,-⟩|⟨J,U,Z⟩
  ·rw[aA (by omega),aH,U,h.own _ J,ownRow,aA (Nat.lt_irrefl _)]
  ·rw[aB (by omega),Z]
 have SQ:n.K=2->n.S.toNat=n.E.length/\kQ X (dw n own) n.E.length/\oG X (dw n own) n.E.length=n.E:=λy=>by
  have hd:=IM y;have SR:∀e,e<n.E.length->X.getD (rU (dw n own) e) 0=((iY (bl (eh n.E e)):Nat):Int)/\X.getD (rU (dw n own) e+1) 0=gT n.E e/\iL (iY (bl (eh n.E e)))=some (bl (eh n.E e)):=λe W=>by
   have aa:e/4<aZ n.E.length:=by unfold aZ;omega
   have z:=h.own (e/4) (by omega);rw[ownRow,aB aa] at z;have ae:rU (dw n own) e=1080+8*own.getD (e/4) 0+2*(e%4):=by unfold rU;rw[og G aa,aH]
   have r0:(dy X (1080+8*own.getD (e/4) 0)).getD (2*(e%4)) 0=(fT n.E (e/4)).getD (2*(e%4)) 0:=by rw[z]
   have r1:(dy X (1080+8*own.getD (e/4) 0)).getD (2*(e%4)+1) 0=(fT n.E (e/4)).getD (2*(e%4)+1) 0:=by rw[z]
   rw[iJ _ _ _ (by omega)] at r0 r1;unfold fT at r0 r1;rw[my _ _ _ _ (by omega),aB (by omega),FT,aB (by omega),show 4*(e/4)+2*(e%4)/2=e by omega] at r0;rw[my _ _ _ _ (by omega),aB (by omega),FT,aA (by omega),show 4*(e/4)+(2*(e%4)+1)/2=e by omega] at r1;have hg:=(hd.2.2.2 e W).1;refine⟨by rw[ae,r0],by rw[ae,Nat.add_assoc,r1],?_⟩;unfold iY;rw[aB hg];exact lq hg (wO _)
  have hE:oG X (dw n own) n.E.length=n.E:=Rv (mB _ _ _) λe W=>by
   rw[mB] at W;obtain⟨h1,h2,h3⟩:=SR e W;obtain⟨e1,e2⟩:=ym X (dw n own) n.E.length e W;rw[e1,e2];unfold vA rk;rw[h1,h2,aH,h3];exact⟨Az _,rfl⟩
  refine⟨by rw[hd.2.1,aH],⟨hd.1,?_,λk y=> ?_⟩,hE⟩
  ·refine zk (by rw[lR,mr lR (by omega)]) λk _=> ?_
   rw[n4 lR (by omega)];split
   ·rfl
   ·rw[qp G,aA (by assumption),hd.2.2.1,aj,aY]
    split<;>rfl
  ·have ac:k<own.length:=by omega
   have GN:=hm _ (ia ac);refine⟨by rw[og G y];omega,λj hj=> ?_,?_⟩
   ·obtain⟨h1,h2,h3⟩:=SR (4*k+j) (by omega)
    unfold vA rk;rw[h1,h2,aH,h3];have :=(hd.2.2.2 (4*k+j) (by omega)).2.1;exact⟨rfl,by omega⟩
   ·rw[hE,og G y,aH]
    have :=h.own k ac;rw[ownRow,aB y] at this;exact this.symm
 rw[h.row];have IG:kW X (fE n (dw n own) ((ew n own:Nat):Int))=n:=by
  unfold kW;rw[pG,Ld,g1];obtain⟨F,K,L,S,B,E⟩:=n;rcases hK with y|y
  ·have hb:=SN y
   rw[aA (show ¬K=2 by have :K=1:=y;omega)];show bM.mk F K L S _ []=bM.mk F K L S B E;have W:E=[]:=hb.1;have af:aZ E.length=0:=hb.2;rw[W]
   congr 1
   unfold dw;have ai:aZ ([]:List (ByteArray×Int)).length=0:=by decide
   show(own.take (aZ ([]:List (ByteArray×Int)).length)).map _++B.drop (aZ ([]:List (ByteArray×Int)).length)=B;rw[ai];rfl
  ·obtain⟨e1,e2,e3⟩:=SQ y
   have ag:S.toNat=E.length:=e1;rw[aB (show K=2 from y)];show bM.mk F K L S (List.replicate 13 0) (oG X _ S.toNat)=bM.mk F K L S B E;have hb:B=List.replicate 13 0:=(IM y).2.2.1;rw[ag,hb]
   congr 1
   rw[<-hb];exact e3
 refine⟨⟨⟨by rw[g7];omega,λk _=>by rw[pG];exact(rq k).2,?_⟩,?_,λy=> ?_,by rw[Ld];exact hF,by rw[IG];exact V,by rw[IG,pG,g7]⟩,IG,?_⟩
 ·rw[g7,pG]
  rcases SP with ⟨_,_,_,Z⟩|⟨_,Z,_⟩
  ·exact .inr Z
  ·exact .inl (by omega)
 ·rw[g1]
  rcases hK with y|y
  ·rcases V.2.2 with h|h
   ·exact h.2.1.2
   ·have :=h.1;omega
  ·have :=(IM y).2.1;omega
 ·rw[Ld] at y
  obtain⟨e1,e2,e3⟩:=SQ y;rw[pG,g1,e1];exact e2
 ·unfold Al
  rw[pG,Ld,g1,g7];have ak:(if ((ew n own:Nat):Int)=0 then [] else [((ew n own:Nat):Int).toNat])=if aZ n.E.length<own.length then [own.getD (aZ n.E.length) 0] else []:=by
   rcases SP with ⟨J,U,Z,-⟩|⟨J,U,-⟩
   ·rw[aA (by omega),aB J,aH,U]
   ·rw[aB (by omega),aA (by omega)]
  rw[ak];have h1:(if (bM.mk n.F n.K n.L n.S (List.replicate 13 0) []).K=2 then ((dw n own).take (aZ n.S.toNat)).map Int.toNat else [])=own.take (aZ n.E.length):=by
   rcases hK with y|y
   ·rw[aA (show ¬n.K=2 by omega),(SN y).2]
    rfl
   ·rw[aB (show n.K=2 from y),(SQ y).1,OP G]
  rw[h1];exact OO G (by omega)
end Go.Proofs.YtcecbdeamjigiaaGreatDoor
