/- Lemmas. -/
import Derived.Test.YtepbpdipenedhaaGreatDoorS08
import Derived.Deep.DeepCutAuto
set_option maxHeartbeats 8000000
set_option maxRecDepth 100000
namespace Go.Proofs.YtepbpdipenedhaaGreatDoor
open Go.Proofs.Tryz
open Go.RowKit
variable{X l:List Int}{w:World}{i k q:Nat}{n:bN}{own:List Nat}{p:Int×Int}
def fe (X:List Int) (i:Int):List Int:=dz X (824+8*i.toNat)
def lQ (X r:List Int):bN:=
 if (gX r).K=2 then { gX r with E:=pj X (cD X r) (r.getD 1 0).toNat } else { gX r with B:=cD X r }
def Aw (X r:List Int):List Nat:=
 (if (gX r).K=2 then ((cD X r).take (aY (r.getD 1 0).toNat)).map Int.toNat else [])++(if r.getD 7 0=0 then [] else [(r.getD 7 0).toNat])
def kJ (X r:List Int):Prop:=
 sA X r/\r.getD 1 0<=832/\((gX r).K=2->lI X (cD X r) (r.getD 1 0).toNat)/\(gX r).F=1/\bR (lQ X r)/\fV (lQ X r) (cD X r) (r.getD 7 0)=r
theorem Ck{r:List Int}(h:In64 X)(U:In64 r)(y:r.length=8)(J:sA X r):∀k,0<=(cD X r).getD k 0/\(cD X r).getD k 0<256:=by
 intro k;by_cases G:k<13
 ·refine⟨?_,J.2.1 k G⟩
  unfold cD;by_cases V:k<5
  ·simp only[aj]
   rw[bg (by simp[y];omega),cy,aB V,cg];have :=(U (2+k)).1;rwa[aj] at this
  ·simp only[aj]
   rw[aT (by simp[y];omega)];split
   ·rw[bb]
    split<;>simp
   ·have :((r.drop 2).take 5).length=5:=by simp[y]
    rw[this];have z:=jt X (1080+8*(r.getD 7 0).toNat) (k-5) (by omega);rw[aj,aj] at z;rw[<-aj,<-aj,aj,aj] at *;rw[z];have :=(h (1080+8*(r.getD 7 0).toNat+(k-5))).1;rwa[aj] at this
 ·rw[aj,aP (by rw[rH y];omega)]
  simp
theorem La{y:Int}(h:0<=y/\y<18446744073709551616):(y<=832↔0<=wrap64 y/\wrap64 y<=832)/\(y<=832->wrap64 y=y):=by
 unfold wrap64;omega
def jv (w:World) (X:List Int) (i:Int) (e:Ending) (w':World):Prop:=
 ∃n v g own h y ok,e= .returned (.tuple #[.agg (aU n v),h,.bool ok])/\n.B.length=13/\br w' v g n.E/\w.heap.size<=g/\kb w' h y own/\w.heap.size<=y/\
  (ok=true->(0<=i/\i<32)/\kJ X (fe X i)/\n=lQ X (fe X i)/\own=Aw X (fe X i))/\
  (ok=false->¬((0<=i/\i<32)/\kJ X (fe X i))/\n=cX/\own=[])/\ay [] w w'
theorem jv.no{w':World}{i:Int}(h:¬((0<=i/\i<32)/\kJ X (fe X i)))(y:ay [] w w'):jv w X i (.returned (.tuple #[.agg (aU cX (.slice none 0 0)),.slice none 0 0,.bool false])) w':=
 ⟨cX,_,w.heap.size,[],_,w.heap.size,false,rfl,rfl,br.nil _ _,aG _,kb.nil _ _,aG _,λh=>(by cases h),λ_=>⟨h,rfl,rfl⟩,y⟩
theorem Lb{g:Nat}(h:bf w g (aU cX (.slice none 0 0)) 111):
  ∃w',(storeVar 111 ⟨g,0,none⟩ (.agg (aU cX (.slice none 0 0)))).run prog w= .ok () w'/\(loadVar 111 ⟨g,0,none⟩).run prog w'= .ok (.agg (aU cX (.slice none 0 0))) w'/\ay [g] w w':=by
 obtain⟨w',z,y,G⟩:=bo (P:= prog) (ty:= 111) (cs:=mr cX (.slice none 0 0)) (by rw[fT];exact iH) h rfl (jD rfl);exact⟨w',z,cC (n:=cX) (v:= .slice none 0 0) y rfl,G⟩
theorem VC{b gp:Nat}{B:List Int}{ps:List (Int×Int)}(h:eT w b gp B ps)(cp:In64 (az B ps))(i:Int):
  Calls prog 171 #[.pointer (some ⟨b,0,none⟩),.int .i64 i] w (jv w (az B ps) i):=by
 have HS:=ar h;have sD:=ar cp;have bJ:=bf.new w (aU cX (.slice none 0 0)) 111;have gH:Hid (ay [] w (w.alloc (.cells (aU cX (.slice none 0 0)) 111))):=(ay.refl _ _).alloc _;have nW:=ar bJ;have xB:=fu;have HI:=ar (ju i);clear h cp bJ;have uo:Hid (∀z:World,bf z w.heap.size (aU cX (.slice none 0 0)) 111->∃w',(storeVar 111 ⟨w.heap.size,0,none⟩ (.agg (aU cX (.slice none 0 0)))).run prog z= .ok () w'/\(loadVar 111 ⟨w.heap.size,0,none⟩).run prog w'= .ok (.agg (aU cX (.slice none 0 0))) w'/\ay [w.heap.size] z w'):=λz hb=>Lb hb
 obtain⟨ZI,aT⟩:∃ZI,aU cX (.slice none 0 0)=ZI:=⟨_,rfl⟩;rw[aT] at uo nW gH;have VD:∀w:World,(zeroValue 111).run prog w= .ok (.agg ZI) w:=λw=>by rw[<-aT];exact xB w
 have Uk:=ar aT;clear xB aT;by_cases kg:i<0\/32<=i
 ·have aK:fA i= -1:=by unfold fA;rw[aB kg]
  rw[aK] at HI;obtain⟨w1,bU,oa,ak⟩:=uo.out _ nW.out;have cO:=ar bU;have nC:=ar oa;have jl:=ar (gH.out.trans ak (by simp));have HN:Hid (¬((0<=i/\i<32)/\kJ (az B ps) (fe (az B ps) i))):=λh=>by have :=h.1;omega
  clear bU oa ak aK kg;go_enter func171,ntmps171;go_wp2_with fail;refine(HI.out _).mono ?_;rintro e w' ⟨rfl,rfl⟩;go_wp2_with(with_reducible refine gS 111 cO.out ?_);refine aL (bB results171 rfl nC.out rfl rfl) rfl ?_;have :=jv.no HN.out jl.out;rw[Uk.out] at this;exact this
 ·have aK:fA i=((824+8*i.toNat:Nat):Int):=by unfold fA;rw[aA kg];omega
  rw[aK] at HI;obtain⟨r,hr⟩:∃r,r=fe (az B ps) i:=⟨_,rfl⟩;have sQ:r.length=8:=by rw[hr];exact iB _ _
  have sH:In64 r:=λj=>by
   rw[hr];unfold fe;by_cases hj:j<8
   ·rw[jt _ _ _ hj];exact sD.out _
   ·rw[aj,aP (by rw[iB];omega)]
    simp
  have kH:Hid (Calls prog 141 #[.pointer (some ⟨b,0,none⟩),.int .i64 ((824+8*i.toNat:Nat):Int)] (w.alloc (.cells ZI 111)) λe w'=>e= .returned (.agg (aO r).toArray)/\ay [] (w.alloc (.cells ZI 111)) w'):=by
   rw[hr];exact mL (HS.out.keep gH.out (by simp) (by simp)) (824+8*i.toNat) (by omega)
  have jc:Hid (¬kJ (az B ps) r->¬((0<=i/\i<32)/\kJ (az B ps) (fe (az B ps) i))):=λh hh=>h (by rw[hr];exact hh.2)
  have HR:=ar hr;have dg:¬((824+8*i.toNat:Nat):Int)<0:=by omega
  generalize ((824+8*i.toNat:Nat):Int)=p at *;have dA:=jx;have Oa:=mH;clear aK hr;go_enter func171,ntmps171;go_wp2_with fail;refine(HI.out _).mono ?_;rintro e w' ⟨rfl,rfl⟩;go_wp2_with fail;refine(HI.out _).mono ?_;rintro e w' ⟨rfl,rfl⟩;go_wp2_with fail;refine kH.out.mono ?_;rintro e w1 ⟨rfl,ak⟩;obtain⟨w2,bP,G5,bz⟩:=bo (P:= prog) (ty:= 195) (cs:=aO r) (by rw[aZ,sQ];exact il) (bf.new w1 (aO (List.replicate 8 0)).toArray 195) (by simp[aZ,sQ]) (eF _);have Xt:=(nW.out.keep ak (by simp)).lt;have ac:ay [] w w2:=((gH.out.trans' ak).alloc (.cells (aO (List.replicate 8 0)).toArray 195)).trans bz (by intro x G;rw[au] at G;omega);have cv:=((nW.out.keep ak (by simp)).alloc (.cells (aO (List.replicate 8 0)).toArray 195)).keep bz (by rw[au];omega);have bM:=ar bP;have Xu:=ar (dX G5 sQ);have Ul:=ar (yN r sQ (sH 0) (sH 1) w2);have fF:=ar ac;have bQ:=ar cv;have KQ:=ar G5;have uM:=ar sH;have yL:=ar sQ;clear bP G5 bz ak ac cv HI kH nW gH sH sQ;go_wp2_with(first|(with_reducible refine gS 195 bM.out ?_)|(with_reducible refine gL 195 Xu.out ?_));refine Ul.out.mono ?_;rintro e w5 ⟨rfl,kr⟩;obtain⟨wn,cf,RF,jZ⟩:=bo (P:= prog) (ty:= 111) (cs:=mr (gX r) (.slice none 0 0)) (by rw[fT];exact iH) (bf.new w5 ZI 111) (by have hz:=Uk.out;rw[<-hz];rfl) (jD rfl);have dh:w1.heap.size<w5.heap.size:=bt KQ.out.lt kr.size;have VE:ay [] w2 wn:=(kr.alloc (.cells ZI 111)).trans jZ (by intro x G;rw[au] at G;have :=kr.size;omega);have Y5:=ar (KQ.out.keep VE (by simp));have bE:=ar (bQ.out.keep VE (by simp));have bl:=ar (fF.out.trans' VE);have Y6:=ar cf;have Sg:Hid (bf wn w5.heap.size (aU (gX r) (.slice none 0 0)) 111):=RF;have e6:(Value.agg (mr (gX r) (.slice none 0 0)).toArray)= .agg (aU (gX r) (.slice none 0 0)):=rfl;rw[e6] at Y6;have cm:=ar (dX Y5.out yL.out);have DK:=ar (Gb (HS.out.keep bl.out (by simp) (by simp)) sD.out r yL.out uM.out);clear cf RF jZ VE kr KQ bQ fF Ul Xu bM e6;go_wp2_with(first|(with_reducible refine gS 111 Y6.out ?_)|(with_reducible refine gL 195 cm.out ?_));refine DK.out.mono ?_;rintro e w3 ⟨la,V,ok,rfl,OH,OI,aR,aW⟩;obtain⟨w6,b8,VF,bF⟩:=bo (P:= prog) (ty:= 109) (cs:=zs la) (by rw[dG,aR];exact jC) (bf.new w3 (zs (List.replicate 13 0)).toArray 109) (by simp[dG,aR]) (kD _);have dD:w5.heap.size<w3.heap.size:=bt Sg.out.lt aW.size;have Si:ay [] wn w6:=(aW.alloc (.cells (zs (List.replicate 13 0)).toArray 109)).trans bF (by intro x G;rw[au] at G;have :=aW.size;omega);have cG:=ar (Y5.out.keep Si (by simp));have Y7:=ar (bE.out.keep Si (by simp));have IV:=ar (Sg.out.keep Si (by simp));have Y8:=ar VF;have nM:=ar (bl.out.trans' Si);have VG:=ar b8;have Vy:=ar aR;have dc:w.heap.size<w1.heap.size:=Xt;clear b8 VF bF Si aW aR DK Y6 cm Y5 bE Sg bl Xt;cases ok
  ·have HN:=ar (jc.out λh=>OI rfl h.1)
   obtain⟨w9,xm,BZ,kr⟩:=uo.out w6 Y7.out;have xo:=ar xm;have IG:=ar BZ;have pk:=ar (nM.out.trans kr (by simp));clear xm BZ kr OH OI;generalize (zs la).toArray=bD at *;go_wp2_with(first|(with_reducible refine gS 109 VG.out ?_)|(with_reducible refine gS 111 xo.out ?_));refine aL (bB results171 rfl IG.out rfl rfl) rfl ?_;have :=jv.no HN.out pk.out;rw[Uk.out] at this;exact this
  ·obtain⟨qh,rfl,rfl⟩:=OH rfl
   have DK:=ar qh;clear OH OI qh;have cx:=uM.out 1;obtain⟨ae,RD⟩:=La cx;obtain⟨sv,Uh⟩:∃sv,sv=wrap64 (r.getD 1 0):=⟨_,rfl⟩;rw[<-Uh] at ae RD;have bj:w6.cell? ⟨w5.heap.size,3,none⟩=some (.int .i64 sv):=by rw[IV.out.cell,Uh];rfl
   have cu:=ar Uh;clear Uh;by_cases aF:sv<0\/832<sv
   ·have HN:=ar (jc.out λh=>by have :=ae.1 h.2.1;omega)
    obtain⟨w9,xm,BZ,kr⟩:=uo.out w6 Y7.out;have xo:=ar xm;have IG:=ar BZ;have pk:=ar (nM.out.trans kr (by simp));clear xm BZ kr ae RD cx;generalize (zs (cD (az B ps) r)).toArray=bD at *;generalize r.getD 7 0=V at *;rcases aF with aF|aF
    ·go_wp2_with(first|(with_reducible refine gS 109 VG.out ?_)|(with_reducible refine gS 111 xo.out ?_))
     refine aL (bB results171 rfl IG.out rfl rfl) rfl ?_;have :=jv.no HN.out pk.out;rw[Uk.out] at this;exact this
    ·have cR:¬sv<0:=by omega
     go_wp2_with(first|(with_reducible refine gS 109 VG.out ?_)|(with_reducible refine gS 111 xo.out ?_));refine aL (bB results171 rfl IG.out rfl rfl) rfl ?_;have :=jv.no HN.out pk.out;rw[Uk.out] at this;exact this
   ·have Xv:r.getD 1 0<=832:=ae.2 (by omega)
    have Y9:=RD Xv;have cH:Hid (wrap64 (r.getD 1 0)=r.getD 1 0):=by show _=_;rw[<-cu.out];exact Y9
    have cR:¬r.getD 1 0<0:=by omega
    have dv:¬832<r.getD 1 0:=by omega
    rw[Y9] at bj;clear ae RD Y9 cu;have dC:¬832<r.getD 1 0:=by omega
    generalize bX:r.getD 1 0=r1 at *;have Sj:=ar bX;generalize bS:r.getD 7 0=V at *;have VH:=ar bS;clear bX bS Xv;have cK:w6.cell? ⟨w5.heap.size,1,none⟩=some (.int .i64 (gX r).K):=by rw[IV.out.cell];rfl
    have cS:=bj;clear bj;have nt:=ar (rH (X:=az B ps) yL.out);have Lc:Hid (∀k,0<=(cD (az B ps) r).getD k 0/\(cD (az B ps) r).getD k 0<256):=Ck sD.out uM.out yL.out DK.out;have ct:Hid (∀z,ay [] w6 z->(loadVar 109 ⟨w3.heap.size,0,none⟩).run prog z= .ok (.agg (zs (cD (az B ps) r)).toArray) z):=λz W=>
     eN (off:=0) (Y8.out.keep W (by simp)) nt.out (λk W=>by rw[aV,aC,fp (by rw[nt.out];exact W)])
    have Xw:(0<=i/\i<32):=by omega
    have Xq:=ar Xw;clear Xw kg;have dn:w5.heap.size<w6.heap.size:=IV.out.lt
    go_upto_if 45 with(with_reducible refine gS 109 VG.out ?_)
    go_cut [11,12] (λNZ s12 z=>∃(n:bN) (v:Value) (g:Nat) (own:List Nat) (Dy:Bool) (J:Nat),NZ= .bool Dy/\Hid (z.ownsRow J 3 1 s12 own.length (cM own)/\w6.heap.size<=J/\J<=z.heap.size/\(n.E.length≠0->g<J)/\w.heap.size<g/\own.length<=13/\bf z w5.heap.size (aU n v) 111/\n.B.length=13/\br z v g n.E/\v.oneCell'=true/\uW n/\(∀k,k<n.E.length->(dZ n.E k).size<=9223372036854775807)/\ay [w5.heap.size] w6 z/\
     (Dy=true->n=lQ (az B ps) r/\own=(if (gX r).K=2 then ((cD (az B ps) r).take (aY r1.toNat)).map Int.toNat else [])/\((gX r).K=2->lI (az B ps) (cD (az B ps) r) r1.toNat))/\(Dy=false->¬kJ (az B ps) r)))
    case first=>
     have dm:=uM.out 0;have K6:Hid (uW { gX r with B:=cD (az B ps) r }):=by
      have h3:=Sj.out;refine⟨?_,?_,?_,?_⟩
      ·show 0<=r.getD 0 0%256/\r.getD 0 0%256<256;omega
      ·show 0<=r.getD 0 0/256%256/\r.getD 0 0/256%256<256;omega
      ·show 0<=r.getD 0 0/65536%65536/\r.getD 0 0/65536%65536<65536;omega
      ·show 0<=wrap64 (r.getD 1 0)/\wrap64 (r.getD 1 0)<9223372036854775808;rw[h3,cH.out];omega
     by_cases ac:(gX r).K=2
     ·have ek:((gX r).K==2)=true:=beq_iff_eq.2 ac
      obtain⟨m,hm⟩:∃m:Nat,r1=(m:Int):=⟨r1.toNat,by omega⟩;have Sk:r1.toNat=m:=by omega
      rw[hm] at cS;have BS:=ar (Gc (HS.out.keep nM.out (by simp) (by simp)) sD.out (cD (az B ps) r) nt.out Lc.out m (by omega));have Um:=ar (ct.out w6 (ay.refl _ _));have bp:=ar Sk;have bK:=λc hc z=>Ij w3.heap.size c hc z
      obtain⟨i0,hi,bu,bA,bv⟩:=cr Tryz.info_int;have QF:=ar hi;clear hm Sk hi;have aD:=ar ac;generalize bC:(gX r).K=kk at cK ek;have rL:=ar bC;clear bC ac;go_wp2_with(with_reducible refine gL 109 Um.out ?_);refine BS.out.mono ?_;rintro e w7 ⟨v,E,ba,g,rfl,hE,hg,IU,DG,Df⟩;have ck:E.length<=24:=by
       cases ba
       ·rw[(DG rfl).2];simp
       ·obtain⟨h1,h2⟩:=IU rfl
        rw[h2,nr];exact h1.1
      have yR:aY E.length<=13:=by unfold aY;omega
      obtain⟨a,cap,rfl,cY,cN,-⟩:=hE.open;have Cl:=IV.out.keep Df (by simp);have dz:w7.cell? ⟨w5.heap.size,17,none⟩=some (.slice none 0 0):=by rw[Cl.cell];exact vN _ rfl
      have dB:w7.frozen? ⟨w5.heap.size,17,none⟩=false:=Cl.frozen 17;have Sl:=Gf (u:= .slice a E.length cap) (E:=E) Cl rfl;have cE:=ar (cC Sl rfl);have Ug:=ar (pg { gX r with E:=E } a cap rfl (by show E.length<=100000;omega));have Xx:br (w7.setCell ⟨w5.heap.size,17,none⟩ (.slice a E.length cap)) (.slice a E.length cap) g E:=hE.keep ((ay.refl [w5.heap.size] w7).setCell (p:=⟨w5.heap.size,17,none⟩) (by simp) _) (λ_=>by rw[au];omega);have sX:ay [w5.heap.size] w6 (w7.setCell ⟨w5.heap.size,17,none⟩ (.slice a E.length cap)):=(Df.mono (by simp)).setCell (.inl (by simp)) _;have Za:=ar Xx;have QG:=ar sX;have K5:=ar Sl;have HG:=ar hg;have Ag:=ar IU;have MH:=ar DG;have xj:=ar ck;have cF:=ar (Y8.out.keep sX (by rw[au];omega));have df:=bK (aY E.length) yR;have YF:Hid (aY E.length<=13):=yR;unfold maxLen at cN;clear hE hg IU DG Df Cl Sl Xx sX bK ck yR BS Um;have cT:Hid (∀z,Calls prog 192 #[.agg (aU { gX r with E:=E } (.slice a E.length cap))] z λe w'=>e= .returned (.int .i64 ((aY E.length:Nat):Int))/\ay [] z w'):=Ug.out;have bW:Hid (E.length=E.length):=rfl;clear Ug bW;go_wp2_with(with_reducible refine gL 111 cE.out ?_);refine(cT.out _).mono ?_;rintro e w9 ⟨rfl,EK⟩;have cW:=ar (cF.out.keep EK (by simp));have bT:=ar (Za.out.keep EK (by simp));have Xl:=ar (K5.out.keep EK (by simp));have Un:=ar (QG.out.trans EK (by simp));clear EK;generalize bY:aY E.length=c at *;have Sm:=ar bY;clear bY;have cU:=YF.out;have hi:=QF.out;go_wp2_with(at_builtin;refine dw _ rfl _ _ 141 rfl w9.heap.size 3 i0 (.int .i64 0) 1 8 underlying141 hi bu bA bv rfl (by decide) (.slice none 0 0) 0 [] rfl ⟨rfl,.inl ⟨rfl,rfl⟩⟩ ⟨w3.heap.size,0,none⟩ c 13 (zs ((cD (az B ps) r).take c)) rfl ?c1 ?c2 (kD _) (by unfold maxLen;omega) (by omega) (aG _) ?_);case c1=>rw[dG,aI,nt.out];omega
      case c2=>
       intro j u hu;rw[add_plain,aV,cW.out.cell,aC];have hj:j<c:=by
        have :=(List.getElem?_eq_some_iff.1 hu).1;rw[dG,aI] at this;omega
       rw[fp (by rw[nt.out];omega)];rw[fp (by rw[aI,nt.out];omega)] at hu;rw[<-hu];simp[hj]
      intro v' ax aa Z _;have Sn:ay [] w9 ax:=ay.of_grown Z (by simp[Value.ownBlock]);have b6:g<w9.heap.size\/E.length=0:=by
       obtain⟨a2,c2,-,-,-,h4⟩:=bT.out;by_cases h0:E.length=0
       ·exact .inr h0
       ·exact .inl (h4 h0).1
      have Ld:Hid (∃(n:bN) (v:Value) (g:Nat) (own:List Nat) (Dy:Bool) (J:Nat),Value.bool ba= .bool Dy/\Hid (ax.ownsRow J 3 1 v' own.length (cM own)/\w6.heap.size<=J/\J<=ax.heap.size/\(n.E.length≠0->g<J)/\w.heap.size<g/\own.length<=13/\bf ax w5.heap.size (aU n v) 111/\n.B.length=13/\br ax v g n.E/\v.oneCell'=true/\uW n/\(∀k,k<n.E.length->(dZ n.E k).size<=9223372036854775807)/\ay [w5.heap.size] w6 ax/\
       (Dy=true->n=lQ (az B ps) r/\own=(if (gX r).K=2 then ((cD (az B ps) r).take (aY r1.toNat)).map Int.toNat else [])/\((gX r).K=2->lI (az B ps) (cD (az B ps) r) r1.toNat))/\(Dy=false->¬kJ (az B ps) r))):=by
       have bH:(((cD (az B ps) r).take c).map Int.toNat).length=c:=by rw[bG,aI,nt.out];omega
       have cL:cM (((cD (az B ps) r).take c).map Int.toNat)=zs ((cD (az B ps) r).take c):=YS λk=>by
        by_cases W:k<c
        ·have :=(Lc.out k).1
         simp only[aj,cy,aB W] at this ⊢;exact this
        ·rw[aj,cy,aA W]
         simp
       refine⟨{ gX r with E:=E },.slice a E.length cap,g,((cD (az B ps) r).take c).map Int.toNat,ba,w9.heap.size,rfl,?_,Un.out.size,Sn.size,λh=>b6.resolve_right h,by have :=HG.out;have :=nM.out.size;omega,by rw[bH];exact cU,Xl.out.keep Sn (by simp),rfl,bT.out.keep Sn (by simp),rfl,⟨K6.out.f,K6.out.k,K6.out.l,K6.out.s⟩,?_,Un.out.trans Sn (by simp),λh=> ?_,λh hr=> ?_⟩
       ·rw[bH,cL]
        exact aa
       ·intro k W
        cases bb:ba
        ·have h2:=(MH.out bb).2
         have av:k<E.length:=W;rw[h2] at av;simp at av
        ·have h2:=(Ag.out bb).2
         have av:k<E.length:=W;show(dZ E k).size<=_;rw[h2,nr] at av;rw[h2,(yK _ _ _ _ av).1];have :=um (vU (az B ps) (cD (az B ps) r) k);omega
       ·obtain⟨h1,h2⟩:=Ag.out h
        rw[bp.out];refine⟨?_,?_,λ_=>h1⟩
        ·unfold lQ
         rw[aB aD.out,Sj.out,bp.out,<-h2]
        ·rw[aB aD.out,<-Sm.out,h2,nr]
       ·have h2:=hr.2.2.1 aD.out
        rw[Sj.out,bp.out] at h2;exact(MH.out h).1 h2
      clear aa Z Sn b6 hi;go_wp2_with fail;go_meet;case rel=>exact Ld.out
     ·have ek:((gX r).K==2)=false:=cj.2 ac
      obtain⟨w7,cd,Cl,Df⟩:=MO (l:=cD (az B ps) r) IV.out rfl nt.out;have Um:=ar (ct.out w6 (ay.refl _ _));have cA:=ar cd;have Ld:Hid (∃(n:bN) (v:Value) (g:Nat) (own:List Nat) (Dy:Bool) (J:Nat),Value.bool true= .bool Dy/\Hid (w7.ownsRow J 3 1 (.slice none 0 0) own.length (cM own)/\w6.heap.size<=J/\J<=w7.heap.size/\(n.E.length≠0->g<J)/\w.heap.size<g/\own.length<=13/\bf w7 w5.heap.size (aU n v) 111/\n.B.length=13/\br w7 v g n.E/\v.oneCell'=true/\uW n/\(∀k,k<n.E.length->(dZ n.E k).size<=9223372036854775807)/\ay [w5.heap.size] w6 w7/\
       (Dy=true->n=lQ (az B ps) r/\own=(if (gX r).K=2 then ((cD (az B ps) r).take (aY r1.toNat)).map Int.toNat else [])/\((gX r).K=2->lI (az B ps) (cD (az B ps) r) r1.toNat))/\(Dy=false->¬kJ (az B ps) r))):=by
       refine⟨{ gX r with B:=cD (az B ps) r },.slice none 0 0,w6.heap.size,[],true,w6.heap.size,rfl,⟨rfl,.inl ⟨rfl,rfl⟩⟩,aG _,Df.size,λh=>absurd rfl h,by omega,by simp,Cl,nt.out,br.nil _ _,rfl,K6.out,λk W=>absurd W (by show ¬k<0;omega),Df,λ_=>⟨?_,by rw[aA ac],λh=>absurd h ac⟩,λh=>(by cases h)⟩;unfold lQ;rw[aA ac]
      clear cd Cl Df;generalize (zs (cD (az B ps) r)).toArray=bD at *;generalize (gX r).K=kk at *;go_wp2_with(first|(with_reducible refine gL 109 Um.out ?_)|(with_reducible refine gS 109 cA.out ?_));go_meet;case rel=>exact Ld.out
    case rest=>
     obtain⟨n,v,g,own,Dy,J,rfl,HC⟩:=hcut;obtain⟨bc,cZ,di,cB,cP,qg,Ex,Sq,hE,cw,b9,b7,af,OH,OI⟩:=HC.out;obtain⟨i0,hi,bu,bA,bv⟩:=cr Tryz.info_int;have QF:=ar hi;have bL:=uM.out 7;rw[VH.out] at bL;have Y3:V<256:=by have :=DK.out.1;rw[VH.out] at this;exact this
     have Am:=ar Ex;have HE:=ar hE;have aD:=ar af;have bw:=ar bc;have cJ:=ar cw;have cV:=ar b9;have VI:=ar b7;have VJ:=ar OH;have Zb:=ar OI;have G9:=ar Sq;clear HC bc Ex hE af OH OI hi cw b9 b7 Sq
     go_upto_if 63 with fail
     go_cut [12] (λs12 z=>∃(ga:Nat),Hid (kb z s12 ga (own++(if V=0 then [] else [V.toNat]))/\w.heap.size<ga/\bf z w5.heap.size (aU n v) 111/\br z v g n.E/\ay [w5.heap.size] w6 z))
     case first=>
      by_cases aS:V=0
      ·have e0:(V != 0)=false:=by rw[aS];rfl
       have Ld:Hid (∃(ga:Nat),Hid (kb wc u12 ga (own++(if V=0 then [] else [V.toNat]))/\w.heap.size<ga/\bf wc w5.heap.size (aU n v) 111/\br wc v g n.E/\ay [w5.heap.size] w6 wc)):=by
        obtain⟨ga,ho,sG⟩:=kb.of_row bw.out;rw[aB aS,bq];exact⟨ga,ho,by have :=nM.out.size;omega,Am.out,HE.out,aD.out⟩
       go_wp2_with fail;go_meet;case rel=>exact Ld.out
      ·have e0:(V != 0)=true:=bne_iff_ne.2 aS
       have hi:=QF.out;go_wp2_with(at_builtin;refine dw _ rfl _ _ 141 rfl J 3 i0 (.int .i64 0) 1 8 underlying141 hi bu bA bv rfl (by decide) u12 own.length (cM own) rfl (bw.out.alloc _) ⟨wc.heap.size,0,none⟩ 1 1 [.int .i64 V] rfl rfl ?c1 ?c2 (by unfold maxLen;omega) (by omega) (by simp;omega) ?_);case c1=>exact iX _ [_] _ _ rfl
       case c2=>simp[Value.oneCell']
       intro v' w8 aa Z cg;have Ld:Hid (∃(ga:Nat),Hid (kb w8 v' ga (own++(if V=0 then [] else [V.toNat]))/\w.heap.size<ga/\bf w8 w5.heap.size (aU n v) 111/\br w8 v g n.E/\ay [w5.heap.size] w6 w8)):=by
        have e1:cM (own++[V.toNat])=cM own++[.int .i64 V]:=by
         rw[tB]
         congr 1
         simp[cM];omega
        have aQ:=aa;rw[<-e1,show own.length+1=(own++[V.toNat]).length by simp] at aQ;obtain⟨ga,ho,sG⟩:=kb.of_row aQ;rw[aA aS];have aJ:∀k,u12.ownBlock=some k->J<=k:=cz bw.out;have yI:ay [w5.heap.size] w6 w8:=(aD.out.alloc (.cells #[.int .i64 V] 3)).trans (ay.of_grown (l:=(u12.ownBlock).toList) Z (λk W=> .inl (by rw[W];simp))) (λx G=> .inr (by
         cases Zc:u12.ownBlock with
         |none=>rw[Zc] at G;simp at G
         |some y=>
          rw[Zc] at G;simp at G;have :=aJ y Zc;omega))
        refine⟨ga,ho,by have :=nM.out.size;omega,?_,?_,yI⟩
        ·exact(Z.block _ (Am.out.alloc _).lt (λe=>by have :=aJ _ e.symm;omega)).trans (Am.out.alloc _)
        ·refine(HE.out.keep ((ay.refl [] wc).alloc _) (by simp)).keep (ay.of_grown (l:=(u12.ownBlock).toList) Z (λk W=> .inl (by rw[W];simp))) λh0 hm=> ?_
         cases Zc:u12.ownBlock with
         |none=>rw[Zc] at hm;simp at hm
         |some y=>
          rw[Zc] at hm;simp at hm;have :=aJ y Zc;have :=cB h0;omega
       clear aa Z cg hi;go_wp2_with fail;go_meet;case rel=>exact Ld.out
     case rest=>
      obtain⟨ga,HD⟩:=hcut;obtain⟨IW,sG,Ex,hE,af⟩:=HD.out;have dx:w.heap.size<w5.heap.size:=by omega
      have Sr:=ar (Y7.out.keep af (by rw[au];omega));have aN:Hid (ay [] w wc):=nM.out.trans af (by intro x G;rw[au] at G;omega);have bV:=cG.out.keep af (by rw[au];omega);have bI:=Y8.out.keep af (by rw[au];omega);have Vg:Hid (∀z,ay [] wc z->(loadVar 3 ⟨w5.heap.size,0,none⟩).run prog z= .ok (.int .i64 n.F) z):=λz W=>BF (off:=0) underlying3 (Ex.keep W (by simp)) rfl
      have AV:Hid (∀z,ay [] wc z->(loadVar 111 ⟨w5.heap.size,0,none⟩).run prog z= .ok (.agg (aU n v)) z):=λz W=>cC (Ex.keep W (by simp)) G9.out
      have Ss:Hid (∀z,ay [] wc z->(loadVar 109 ⟨w3.heap.size,0,none⟩).run prog z= .ok (.agg (zs (cD (az B ps) r)).toArray) z):=λz W=>
       eN (off:=0) (bI.keep W (by simp)) nt.out (λk W=>by rw[aV,aC,fp (by rw[nt.out];exact W)])
      have Su:Hid (∀z,ay [] wc z->(loadVar 195 ⟨w1.heap.size,0,none⟩).run prog z= .ok (.agg (aO r).toArray) z):=λz W=>dX (bV.keep W (by simp)) yL.out
      have vt:Hid (∀z,ay [] wc z->Calls prog 96 #[.agg (aU n v)] z λe w'=>e= .returned (.bool (decide (bR n)))/\ay [] z w'):=λz W=>lO n v g G9.out z (hE.keep W (by simp)) VI.out
      have Aj:Hid (∀z,Calls prog 193 #[.agg (aU n v),.agg (zs (cD (az B ps) r)).toArray,.int .i64 V] z λe w'=>e= .returned (.agg (aO (fV n (cD (az B ps) r) V)).toArray)/\ay [] z w'):=λz=>
       zE n v G9.out cV.out _ nt.out (λk=>by have :=Lc.out k;omega) V ⟨bL.1,by omega⟩ z
      have cn:(fV n (cD (az B ps) r) V).length=8:=by simp[fV,nt.out]
      have Zd:=ar (λz=>Es (a:=fV n (cD (az B ps) r) V) (b:=r) cn yL.out z);have Vl:=qA;have Gg:Hid (Dy=true->(kJ (az B ps) r↔n.F=1/\bR n/\fV n (cD (az B ps) r) V=r)):=λh=>by
       obtain⟨h1,-,h3⟩:=VJ.out h;have hF:n.F=(gX r).F:=by
        rw[h1];unfold lQ;split<;>rfl
       unfold kJ;rw[<-h1,hF,VH.out,Sj.out];exact⟨λh=>h.2.2.2,λh=>⟨DK.out,by omega,h3,h⟩⟩
      have mJ:Hid (∀z,ay [] wc z->Dy=true->kJ (az B ps) r->∃w',(storeVar 111 ⟨w.heap.size,0,none⟩ (.agg (aU n v))).run prog z= .ok () w'/\(loadVar 111 ⟨w.heap.size,0,none⟩).run prog w'= .ok (.agg (aU n v)) w'/\jv w (az B ps) i (.returned (.tuple #[.agg (aU n v),u12,.bool true])) w'):=λz W bb bk=>by
       obtain⟨w',h1,h2,h3⟩:=bo (P:= prog) (ty:= 111) (cs:=mr n v) (by rw[fT,G9.out];exact iH) (Sr.out.keep W (by simp)) (by have hz:=Uk.out;rw[<-hz,fT,G9.out];rfl) (jD cJ.out);obtain⟨e1,e2,-⟩:=VJ.out bb;have av:ay [] w w':=(aN.out.trans' W).trans h3 (by intro x G;rw[au] at G;omega);refine⟨w',h1,cC h2 G9.out,n,v,g,own++(if V=0 then [] else [V.toNat]),u12,ga,true,rfl,G9.out,?_,Nat.le_of_lt cP,?_,Nat.le_of_lt sG,λ_=>⟨Xq.out,?_,?_,?_⟩,λh=>(by cases h),av⟩
       ·refine(hE.keep W (by simp)).keep h3 λh0=> ?_
        rw[au];omega
       ·refine(IW.keep W (by simp)).keep h3 ?_
        rw[au];omega
       ·rw[<-HR.out];exact bk
       ·rw[<-HR.out];exact e1
       ·rw[<-HR.out,e2]
        unfold Aw;rw[VH.out,Sj.out]
      clear HD IW sG Ex hE af bV bI cn;obtain⟨tR,bn⟩:∃t,decide (bR n)=t:=⟨_,rfl⟩;rw[bn] at vt;obtain⟨tW,bg⟩:∃t,decide (fV n (cD (az B ps) r) V=r)=t:=⟨_,rfl⟩;rw[bg] at Zd;have dE:=Zd.out;have bZ:=ar bn;have bO:=ar bg;clear bn bg Zd;generalize (aO (fV n (cD (az B ps) r) V)).toArray=ZW at *;generalize (zs (cD (az B ps) r)).toArray=ZA at *;generalize (aO r).toArray=ZR at *;generalize aU n v=ZN at *;generalize hf:n.F=f at *;have QH:=ar hf;clear hf;have Ze:Hid (¬(Dy=true/\f=1/\tR=true/\tW=true)->¬((0<=i/\i<32)/\kJ (az B ps) (fe (az B ps) i))):=λh=>jc.out λhr=>by
       cases Zf:Dy
       ·exact Zb.out Zf hr
       ·obtain⟨h1,h2,h3⟩:=(Gg.out Zf).1 hr
        refine h ⟨Zf,h1,?_,?_⟩
        ·rw[<-bZ.out];exact bh h2
        ·rw[<-bO.out];exact bh h3
      by_cases vz:Dy=true/\f=1/\tR=true/\tW=true
      ·obtain⟨rfl,rfl,rfl,rfl⟩:=vz
       have cQ:Hid (kJ (az B ps) r):=(Gg.out rfl).2 ⟨rfl,of_decide_eq_true bZ.out,of_decide_eq_true bO.out⟩;have OJ:(1:Int)=1:=rfl;clear Ze jc Gg VJ Zb;go_wp2_with fail;refine dt (S:=λz=>ay [] wc z) (by kernel_rfl) (by kernel_rfl) (λd _ _ _ _ h=>by cases d<;>exact h) ((ay.refl _ _).drew) (by kernel_rfl) ?_;repeat (first
        |(refine aH.cons (.int .i64 1) (aX.load rfl 3 (.tmp 71) rfl _ rfl λz G=>Vg.out z G) ?_;simp only[Act.put,ag,ah,ai])
        |(refine aH.cons (.agg ZN) (aX.load rfl 111 (.tmp 8) rfl _ rfl λz G=>AV.out z G) ?_;simp only[Act.put,ag,ah,ai])
        |(refine aH.cons (.agg ZA) (aX.load rfl 109 (.tmp 9) rfl _ rfl λz G=>Ss.out z G) ?_;simp only[Act.put,ag,ah,ai])
        |(refine aH.cons (.agg ZR) (aX.load rfl 195 (.tmp 7) rfl _ rfl λz G=>Su.out z G) ?_;simp only[Act.put,ag,ah,ai])
        |(refine aH.cons (.bool true) (aX.call rfl 96 #[.agg ZN] ?U ?h) ?_;(case U=>(intro wz;go_simp));(case h=>exact λz G=>(vt.out z G).mono λe w' U=>⟨U.1,G.trans' U.2⟩);simp only[Act.put,ag,ah,ai])
        |(refine aH.cons (.agg ZW) (aX.call rfl 193 #[.agg ZN,.agg ZA,.int .i64 V] ?U ?h) ?_;(case U=>(intro wz;go_simp));(case h=>exact λz G=>(Aj.out z).mono λe w' U=>⟨U.1,G.trans' U.2⟩);simp only[Act.put,ag,ah,ai])
        |(refine aH.cons undef (aX.off rfl) ?_;simp only[Act.put,ag,ah,ai])
        |(refine aH.cons (.bool true) (aX.val rfl ?h) ?_;(case h=>(intro z G;clear G;first|(go_simp;done)|(go_simp;simp[OJ];done)));simp only[Act.put,ag,ah,ai])
        |(refine aH.cons (.bool false) (aX.val rfl ?h) ?_;(case h=>(intro z G;clear G;first|(go_simp;done)|(go_simp;simp[OJ];done)));simp only[Act.put,ag,ah,ai])
        |(refine aH.cons ?_ (aX.val rfl ?h) ?_;(case h=>(intro z G;clear G;go_simp;rfl));simp only[Act.put,ag,ah,ai]))
       refine aH.done λwz G=> ?_
       have Ap:=ar G;clear G;obtain⟨w9,xC,xD,aM⟩:=mJ.out wz Ap.out trivial cQ.out;have Gh:=ar xC;have Gi:=ar xD;have VK:=ar aM;have cI:=ar (AV.out wz Ap.out);clear xC xD aM;go_wp2_with(first|(with_reducible refine gL 111 cI.out ?_)|(with_reducible refine gS 111 Gh.out ?_));exact aL (bB results171 rfl Gi.out rfl rfl) rfl VK.out
      ·have HN:=ar (Ze.out vz)
       clear Ze jc Gg VJ Zb mJ;cases Dy
       ·have OJ:(1:Int)=1:=rfl
        clear vz;go_wp2_with fail;refine dt (S:=λz=>ay [] wc z) (by kernel_rfl) (by kernel_rfl) (λd _ _ _ _ h=>by cases d<;>exact h) ((ay.refl _ _).drew) (by kernel_rfl) ?_;repeat (first
         |(refine aH.cons (.int .i64 f) (aX.load rfl 3 (.tmp 71) rfl _ rfl λz G=>Vg.out z G) ?_;simp only[Act.put,ag,ah,ai])
         |(refine aH.cons (.agg ZN) (aX.load rfl 111 (.tmp 8) rfl _ rfl λz G=>AV.out z G) ?_;simp only[Act.put,ag,ah,ai])
         |(refine aH.cons (.agg ZA) (aX.load rfl 109 (.tmp 9) rfl _ rfl λz G=>Ss.out z G) ?_;simp only[Act.put,ag,ah,ai])
         |(refine aH.cons (.agg ZR) (aX.load rfl 195 (.tmp 7) rfl _ rfl λz G=>Su.out z G) ?_;simp only[Act.put,ag,ah,ai])
         |(refine aH.cons (.bool tR) (aX.call rfl 96 #[.agg ZN] ?U ?h) ?_;(case U=>(intro wz;go_simp));(case h=>exact λz G=>(vt.out z G).mono λe w' U=>⟨U.1,G.trans' U.2⟩);simp only[Act.put,ag,ah,ai])
         |(refine aH.cons (.agg ZW) (aX.call rfl 193 #[.agg ZN,.agg ZA,.int .i64 V] ?U ?h) ?_;(case U=>(intro wz;go_simp));(case h=>exact λz G=>(Aj.out z).mono λe w' U=>⟨U.1,G.trans' U.2⟩);simp only[Act.put,ag,ah,ai])
         |(refine aH.cons undef (aX.off rfl) ?_;simp only[Act.put,ag,ah,ai])
         |(refine aH.cons (.bool true) (aX.val rfl ?h) ?_;(case h=>(intro z G;clear G;first|(go_simp;done)|(go_simp;simp[OJ];done)));simp only[Act.put,ag,ah,ai])
         |(refine aH.cons (.bool false) (aX.val rfl ?h) ?_;(case h=>(intro z G;clear G;first|(go_simp;done)|(go_simp;simp[OJ];done)));simp only[Act.put,ag,ah,ai])
         |(refine aH.cons ?_ (aX.val rfl ?h) ?_;(case h=>(intro z G;clear G;go_simp;rfl));simp only[Act.put,ag,ah,ai]))
        refine aH.done λwz G=> ?_
        have Ap:=ar G;clear G;obtain⟨w9,xC,xD,EK⟩:=uo.out wz (Sr.out.keep Ap.out (by simp));have Gh:=ar xC;have Gi:=ar xD;have Un:=ar ((aN.out.trans' Ap.out).trans EK (by intro x G;rw[au] at G;omega));clear xC xD EK;go_wp2_with(with_reducible refine gS 111 Gh.out ?_);refine aL (bB results171 rfl Gi.out rfl rfl) rfl ?_;have :=jv.no HN.out Un.out;rw[Uk.out] at this;exact this
       ·by_cases Uf:f=1
        ·subst Uf
         have OJ:(1:Int)=1:=rfl;cases tR
         ·clear vz
          go_wp2_with fail;refine dt (S:=λz=>ay [] wc z) (by kernel_rfl) (by kernel_rfl) (λd _ _ _ _ h=>by cases d<;>exact h) ((ay.refl _ _).drew) (by kernel_rfl) ?_;repeat (first
           |(refine aH.cons (.int .i64 1) (aX.load rfl 3 (.tmp 71) rfl _ rfl λz G=>Vg.out z G) ?_;simp only[Act.put,ag,ah,ai])
           |(refine aH.cons (.agg ZN) (aX.load rfl 111 (.tmp 8) rfl _ rfl λz G=>AV.out z G) ?_;simp only[Act.put,ag,ah,ai])
           |(refine aH.cons (.agg ZA) (aX.load rfl 109 (.tmp 9) rfl _ rfl λz G=>Ss.out z G) ?_;simp only[Act.put,ag,ah,ai])
           |(refine aH.cons (.agg ZR) (aX.load rfl 195 (.tmp 7) rfl _ rfl λz G=>Su.out z G) ?_;simp only[Act.put,ag,ah,ai])
           |(refine aH.cons (.bool false) (aX.call rfl 96 #[.agg ZN] ?U ?h) ?_;(case U=>(intro wz;go_simp));(case h=>exact λz G=>(vt.out z G).mono λe w' U=>⟨U.1,G.trans' U.2⟩);simp only[Act.put,ag,ah,ai])
           |(refine aH.cons (.agg ZW) (aX.call rfl 193 #[.agg ZN,.agg ZA,.int .i64 V] ?U ?h) ?_;(case U=>(intro wz;go_simp));(case h=>exact λz G=>(Aj.out z).mono λe w' U=>⟨U.1,G.trans' U.2⟩);simp only[Act.put,ag,ah,ai])
           |(refine aH.cons undef (aX.off rfl) ?_;simp only[Act.put,ag,ah,ai])
           |(refine aH.cons (.bool true) (aX.val rfl ?h) ?_;(case h=>(intro z G;clear G;first|(go_simp;done)|(go_simp;simp[OJ];done)));simp only[Act.put,ag,ah,ai])
           |(refine aH.cons (.bool false) (aX.val rfl ?h) ?_;(case h=>(intro z G;clear G;first|(go_simp;done)|(go_simp;simp[OJ];done)));simp only[Act.put,ag,ah,ai])
           |(refine aH.cons ?_ (aX.val rfl ?h) ?_;(case h=>(intro z G;clear G;go_simp;rfl));simp only[Act.put,ag,ah,ai]))
          refine aH.done λwz G=> ?_
          have Ap:=ar G;clear G;obtain⟨w9,xC,xD,EK⟩:=uo.out wz (Sr.out.keep Ap.out (by simp));have Gh:=ar xC;have Gi:=ar xD;have Un:=ar ((aN.out.trans' Ap.out).trans EK (by intro x G;rw[au] at G;omega));clear xC xD EK;go_wp2_with(with_reducible refine gS 111 Gh.out ?_);refine aL (bB results171 rfl Gi.out rfl rfl) rfl ?_;have :=jv.no HN.out Un.out;rw[Uk.out] at this;exact this
         ·cases tW
          ·clear vz
           go_wp2_with fail;refine dt (S:=λz=>ay [] wc z) (by kernel_rfl) (by kernel_rfl) (λd _ _ _ _ h=>by cases d<;>exact h) ((ay.refl _ _).drew) (by kernel_rfl) ?_;repeat (first
            |(refine aH.cons (.int .i64 1) (aX.load rfl 3 (.tmp 71) rfl _ rfl λz G=>Vg.out z G) ?_;simp only[Act.put,ag,ah,ai])
            |(refine aH.cons (.agg ZN) (aX.load rfl 111 (.tmp 8) rfl _ rfl λz G=>AV.out z G) ?_;simp only[Act.put,ag,ah,ai])
            |(refine aH.cons (.agg ZA) (aX.load rfl 109 (.tmp 9) rfl _ rfl λz G=>Ss.out z G) ?_;simp only[Act.put,ag,ah,ai])
            |(refine aH.cons (.agg ZR) (aX.load rfl 195 (.tmp 7) rfl _ rfl λz G=>Su.out z G) ?_;simp only[Act.put,ag,ah,ai])
            |(refine aH.cons (.bool true) (aX.call rfl 96 #[.agg ZN] ?U ?h) ?_;(case U=>(intro wz;go_simp));(case h=>exact λz G=>(vt.out z G).mono λe w' U=>⟨U.1,G.trans' U.2⟩);simp only[Act.put,ag,ah,ai])
            |(refine aH.cons (.agg ZW) (aX.call rfl 193 #[.agg ZN,.agg ZA,.int .i64 V] ?U ?h) ?_;(case U=>(intro wz;go_simp));(case h=>exact λz G=>(Aj.out z).mono λe w' U=>⟨U.1,G.trans' U.2⟩);simp only[Act.put,ag,ah,ai])
            |(refine aH.cons undef (aX.off rfl) ?_;simp only[Act.put,ag,ah,ai])
            |(refine aH.cons (.bool true) (aX.val rfl ?h) ?_;(case h=>(intro z G;clear G;first|(go_simp;done)|(go_simp;simp[OJ];done)));simp only[Act.put,ag,ah,ai])
            |(refine aH.cons (.bool false) (aX.val rfl ?h) ?_;(case h=>(intro z G;clear G;first|(go_simp;done)|(go_simp;simp[OJ];done)));simp only[Act.put,ag,ah,ai])
            |(refine aH.cons ?_ (aX.val rfl ?h) ?_;(case h=>(intro z G;clear G;go_simp;rfl));simp only[Act.put,ag,ah,ai]))
           refine aH.done λwz G=> ?_
           have Ap:=ar G;clear G;obtain⟨w9,xC,xD,EK⟩:=uo.out wz (Sr.out.keep Ap.out (by simp));have Gh:=ar xC;have Gi:=ar xD;have Un:=ar ((aN.out.trans' Ap.out).trans EK (by intro x G;rw[au] at G;omega));clear xC xD EK;go_wp2_with(with_reducible refine gS 111 Gh.out ?_);refine aL (bB results171 rfl Gi.out rfl rfl) rfl ?_;have :=jv.no HN.out Un.out;rw[Uk.out] at this;exact this
          ·exact absurd ⟨rfl,rfl,rfl,rfl⟩ vz
        ·have OJ:(f != 1)=true:=bne_iff_ne.2 Uf
         clear vz;go_wp2_with fail;refine dt (S:=λz=>ay [] wc z) (by kernel_rfl) (by kernel_rfl) (λd _ _ _ _ h=>by cases d<;>exact h) ((ay.refl _ _).drew) (by kernel_rfl) ?_;repeat (first
          |(refine aH.cons (.int .i64 f) (aX.load rfl 3 (.tmp 71) rfl _ rfl λz G=>Vg.out z G) ?_;simp only[Act.put,ag,ah,ai])
          |(refine aH.cons (.agg ZN) (aX.load rfl 111 (.tmp 8) rfl _ rfl λz G=>AV.out z G) ?_;simp only[Act.put,ag,ah,ai])
          |(refine aH.cons (.agg ZA) (aX.load rfl 109 (.tmp 9) rfl _ rfl λz G=>Ss.out z G) ?_;simp only[Act.put,ag,ah,ai])
          |(refine aH.cons (.agg ZR) (aX.load rfl 195 (.tmp 7) rfl _ rfl λz G=>Su.out z G) ?_;simp only[Act.put,ag,ah,ai])
          |(refine aH.cons (.bool tR) (aX.call rfl 96 #[.agg ZN] ?U ?h) ?_;(case U=>(intro wz;go_simp));(case h=>exact λz G=>(vt.out z G).mono λe w' U=>⟨U.1,G.trans' U.2⟩);simp only[Act.put,ag,ah,ai])
          |(refine aH.cons (.agg ZW) (aX.call rfl 193 #[.agg ZN,.agg ZA,.int .i64 V] ?U ?h) ?_;(case U=>(intro wz;go_simp));(case h=>exact λz G=>(Aj.out z).mono λe w' U=>⟨U.1,G.trans' U.2⟩);simp only[Act.put,ag,ah,ai])
          |(refine aH.cons undef (aX.off rfl) ?_;simp only[Act.put,ag,ah,ai])
          |(refine aH.cons (.bool true) (aX.val rfl ?h) ?_;(case h=>(intro z G;clear G;first|(go_simp;done)|(go_simp;simp[OJ];done)));simp only[Act.put,ag,ah,ai])
          |(refine aH.cons (.bool false) (aX.val rfl ?h) ?_;(case h=>(intro z G;clear G;first|(go_simp;done)|(go_simp;simp[OJ];done)));simp only[Act.put,ag,ah,ai])
          |(refine aH.cons ?_ (aX.val rfl ?h) ?_;(case h=>(intro z G;clear G;go_simp;rfl));simp only[Act.put,ag,ah,ai]))
         refine aH.done λwz G=> ?_
         have Ap:=ar G;clear G;obtain⟨w9,xC,xD,EK⟩:=uo.out wz (Sr.out.keep Ap.out (by simp));have Gh:=ar xC;have Gi:=ar xD;have Un:=ar ((aN.out.trans' Ap.out).trans EK (by intro x G;rw[au] at G;omega));clear xC xD EK;go_wp2_with(with_reducible refine gS 111 Gh.out ?_);refine aL (bB results171 rfl Gi.out rfl rfl) rfl ?_;have :=jv.no HN.out Un.out;rw[Uk.out] at this;exact this
def ownRow (n:bN) (own:List Nat) (m:Nat):List Int:=if m<aY n.E.length then gI n.E m else (dv n own).drop 5
structure Cm (X:List Int) (q:Nat) (n:bN) (own:List Nat):Prop where
 row:dz X q=fV n (dv n own) ((eG n own:Nat):Int)
 own:∀m,m<own.length->dz X (1080+8*own.getD m 0)=ownRow n own m
theorem iI{l:List Nat}(h:k<l.length):l.getD k 0∈l:=by
 rw[aj,aF h];exact bA _
theorem getD_inj{l:List Nat}(V:l.Nodup){j k:Nat}(z:j<l.length)(G:k<l.length)(h:l.getD j 0=l.getD k 0):j=k:=by
 rw[aj,aj,aF z,aF G] at h;have J:=cU.1 V;rcases Nat.lt_trichotomy j k with y|U|y
 ·exact absurd h (J j k z G y)
 ·exact U
 ·exact absurd h.symm (J k j G z y)
theorem Sv (y:X.length=3128)(p:Nat)(l:List Int)(j:Nat):∀k,p+k<=3128->(az X (jz p l k)).getD j 0=if p<=j/\j<p+k then l.getD (j-p) 0 else X.getD j 0:=by
 intro k;induction k with
 |zero=>intro _;rw[aA (by omega)];rfl
 |succ k ih=>
  intro z;rw[BU,bJ,oY,aJ,wU,bY,y,ih (by omega)];by_cases e:p+k=j
  ·subst e
   rw[aB ⟨rfl,by omega⟩,aB ⟨by omega,by omega⟩,cO]
  ·rw[aA (by omega)]
   by_cases h:p<=j/\j<p+k
   ·rw[aB h,aB ⟨h.1,by omega⟩]
   ·rw[aA h,aA (by omega)]
theorem MR (y:X.length=3128)(p:Nat)(h:p+8<=3128)(l:List Int)(j:Nat):(az X (jz p l 8)).getD j 0=if p<=j/\j<p+8 then l.getD (j-p) 0 else X.getD j 0:=Sv y p l j 8 h
theorem IX{p:Nat}(z:l.length=8)(h:∀j,j<8->X.getD (p+j) 0=l.getD j 0):dz X p=l:=
 zB (by rw[iB,z]) λk y=>by
  rw[iB] at y;rw[jt _ _ _ y,h k y]
theorem nN (z:X.length=3128)(p:Nat)(h:p+8<=3128){l:List Int}(y:l.length=8):dz (az X (jz p l 8)) p=l:=
 IX y λj G=>by rw[MR z p h,aB ⟨by omega,by omega⟩,cO]
theorem nO (z:X.length=3128)(p y:Nat)(J:p+8<=3128){l:List Int}(h:y+8<=p\/p+8<=y):dz (az X (jz p l 8)) y=dz X y:=
 IX (iB _ _) λj G=>by rw[MR z p J,aA (by omega),jt _ _ _ G]
theorem Le (h:l.length=13)(x:Int):(fV n l x).length=8:=by simp[fV,h]
theorem oU (y:aY n.E.length<=own.length){k:Nat}(h:k<aY n.E.length):(dv n own).getD k 0=((own.getD k 0:Nat):Int):=by rw[qN y,aB h]
theorem IY (z:X.length=3128){n:bN}{own:List Nat}(W:aY n.E.length<=own.length)(V:own.Nodup)(y:∀c∈own,c≠0/\c<256):∀k,k<=aY n.E.length->∀m,m<k->dz (az X (pA n.E (dv n own) k)) (1080+8*own.getD m 0)=gI n.E m:=by
 intro k;induction k with
 |zero=>intro _ m y;omega
 |succ k ih=>
  intro Z m U;have G:=y _ (iI (show k<own.length by omega));have J:=y _ (iI (show m<own.length by omega));rw[vW,bJ,oU W (by omega),aJ];by_cases e:m=k
  ·subst e
   exact nN (by rw[bY,z]) _ (by omega) (jS _ _ _)
  ·have :own.getD m 0≠own.getD k 0:=λh=>e (getD_inj V (by omega) (by omega) h)
   rw[nO (by rw[bY,z]) _ _ (by omega) (by omega)];exact ih (by omega) m (by omega)
theorem Sw (y:X.length=3128)(i:Nat)(hi:i<32){n:bN}{own:List Nat}(hB:n.B.length=13)(hc:aY n.E.length<=6)(W:aY n.E.length<=own.length)(DG:own.length<=aY n.E.length+1)(V:own.Nodup)(G:∀c∈own,c≠0/\c<256):
  Cm (az X (rJ i n own)) (824+8*i) n own:=by
 have z:=qM hB (by omega) W;unfold rJ;rw[bJ,bJ];refine⟨nN (by rw[bY,bY,y]) _ (by omega) (Le z _),λm J=> ?_⟩;have aa:=G _ (iI J);rw[nO (by rw[bY,bY,y]) _ _ (by omega) (by omega)];unfold ownRow nv;by_cases U:m<aY n.E.length
 ·rw[aB U]
  split
  ·rename_i hlt
   have ac:=G _ (iI hlt);have :own.getD m 0≠own.getD (aY n.E.length) 0:=λh=>by have :=getD_inj V J hlt h;omega
   have Z:eG n own=own.getD (aY n.E.length) 0:=by unfold eG;rw[aB hlt]
   rw[Z,nO (by rw[bY,y]) _ _ (by omega) (by omega)];exact IY y W V G _ (aG _) m U
  ·exact IY y W V G _ (aG _) m U
 ·obtain rfl:m=aY n.E.length:=by omega
  rw[aA U,aB J];have Z:eG n own=own.getD (aY n.E.length) 0:=by unfold eG;rw[aB J]
  rw[Z];exact nN (by rw[bY,y]) _ (by omega) (by rw[bu,z])
theorem Cn:∀(l:List Nat) (X:List Int),(∀c∈l,c≠0/\c<256)->p∈dE X l->(816<=p.1.toNat/\p.1.toNat<820)\/(1080<=p.1.toNat/\(p.1.toNat-1080)/8∈l):=by
 intro l;induction l with
 |nil=>intro X _ h;simp[dE] at h
 |cons b l ih=>
  intro X z h;obtain⟨U,V⟩:=z b (by simp);have y:p∈(dR X b true++gz b)++dE (az X (dR X b true++gz b)) l:=h;rw[aR,aR] at y;rcases y with(y|y)|y
  ·left
   unfold dR at y;rw[aA (by omega),au] at y;subst y;show 816<=Int.toNat ((_:Nat):Int)/\Int.toNat ((_:Nat):Int)<820;rw[aJ];omega
  ·right
   obtain⟨j,J,rfl⟩:=tv y;show 1080<=Int.toNat ((_:Nat):Int)/\(Int.toNat ((_:Nat):Int)-1080)/8∈_;rw[aJ];refine⟨by omega,?_⟩;rw[show(1080+b*8+j-1080)/8=b by omega];simp
  ·rcases ih _ (λc G=>z c (by simp[G])) y with y|y
   ·exact .inl y
   ·exact .inr ⟨y.1,by simp[y.2]⟩
theorem lu (h:p∈jz q l k):∃j,j<k/\p.1.toNat=q+j/\p.2=l.getD j 0:=by
 unfold jz at h;obtain⟨j,y,rfl⟩:=bL.1 h;exact⟨j,by simpa using y,aJ _,rfl⟩
theorem pC (U:aY n.E.length<=own.length)(h:p∈rJ i n own):(1080<=p.1.toNat/\(p.1.toNat-1080)/8∈own/\∃m j,j<8/\p.2=(ownRow n own m).getD j 0)\/(824+8*i<=p.1.toNat/\p.1.toNat<832+8*i/\∃j,j<8/\p.2=(fV n (dv n own) ((eG n own:Nat):Int)).getD j 0):=by
 unfold rJ at h;rw[aR,aR] at h;rcases h with h|h|h
 ·left
  unfold pA at h;obtain⟨k,J,h⟩:=List.mem_flatMap.1 h;rw[bP] at J;obtain⟨j,G,y,z⟩:=lu h;rw[oU U J,aJ] at y;refine⟨by omega,?_,k,j,G,by rw[z,ownRow,aB J]⟩;rw[y,show(1080+8*own.getD k 0+j-1080)/8=own.getD k 0 by omega];exact iI (by omega)
 ·left
  unfold nv at h;split at h
  ·rename_i hlt
   obtain⟨j,G,y,z⟩:=lu h;have V:eG n own=own.getD (aY n.E.length) 0:=by unfold eG;rw[aB hlt]
   rw[V] at y;refine⟨by omega,?_,aY n.E.length,j,G,by rw[z,ownRow,aA (Nat.lt_irrefl _)]⟩;rw[y,show(1080+8*own.getD (aY n.E.length) 0+j-1080)/8=own.getD (aY n.E.length) 0 by omega];exact iI hlt
  ·simp at h
 ·right
  obtain⟨j,G,y,z⟩:=lu h;exact⟨by omega,by omega,j,G,z⟩
theorem OL (V:aY n.E.length<=own.length)(U:∀c∈own,c≠0/\c<256){k:Nat}(W:820<=k)(G:¬(1080<=k/\(k-1080)/8∈own))(J:¬(824+8*i<=k/\k<832+8*i)):(az X (mP X i n own)).getD k 0=X.getD k 0:=by
 refine iy _ _ _ λp z y=> ?_
 unfold mP at z;rw[aR] at z;rcases z with z|z
 ·rcases Cn _ _ U z with h|h
  ·omega
  ·rw[y] at h;exact G h
 ·rcases pC V z with h|h
  ·rw[y] at h;exact G ⟨h.1,h.2.1⟩
  ·rw[y] at h;exact J ⟨h.1,h.2.1⟩
theorem IZ (s:ByteArray):jq (bl s)<18446744073709551616:=by
 unfold jq;split
 ·rename_i h
  exact QP (mX h).2 (xg s)
 ·omega
theorem OM{E:List (ByteArray×Int)}(y:∀k,k<E.length->0<=iC E k/\iC E k<18446744073709551616)(k j:Nat):0<=(gI E k).getD j 0/\(gI E k).getD j 0<18446744073709551616:=by
 by_cases h:j<8
 ·unfold gI
  rw[ni _ _ _ _ h];split
  ·unfold F8
   split
   ·have :=IZ (dZ E (4*k+j/2));omega
   ·exact y _ (by omega)
  ·omega
 ·rw[aj,aP (by rw[gI,jS];omega)]
  simp
theorem Zg (G:In64 X)(hX:X.length=3128){i:Nat}{n:bN}{own:List Nat}(hB:n.B.length=13)(W:bR n)(V:aY n.E.length<=own.length)(U:∀c∈own,c≠0/\c<256):In64 (az X (mP X i n own)):=by
 have z:=iZ W;have y:=qM (own:=own) hB (by omega) V;have Z:=yP W hB V U;have hT:=qa W;unfold mP;rw[bJ];refine(mD own X G hX U).1.put λp hp=> ?_
 rcases pC V hp with ⟨-,-,m,j,J,h⟩|⟨-,-,j,J,h⟩
 ·rw[h]
  unfold ownRow;split
  ·refine OM (λk hk=> ?_) m j
   have :=((z.2.2 (by omega)).2.2.2.2 k hk).2.1;omega
  ·rw[aj,cg,<-aj]
   have :=Z (5+j);omega
 ·rw[h]
  unfold fV;have wP:eG n own<256:=by
   unfold eG;split
   ·exact(U _ (iI (by assumption))).2
   ·omega
  obtain⟨t1,t2,t3,t4⟩:=hT
  match j,J with
  |0,_=>show 0<=mA n/\mA n<_;unfold mA;omega
  |1,_=>show 0<=n.S/\n.S<_;omega
  |j+2,J=>
   show 0<=((dv n own).take 5++[((eG n own:Nat):Int)]).getD j 0/\((dv n own).take 5++[((eG n own:Nat):Int)]).getD j 0<_;rw[aj,gj];split
   ·rename_i h5
    rw[aI,y] at h5;rw[cy,aB (by omega),<-aj];have :=Z j;omega
   ·rename_i h5
    rw[aI,y] at h5;rw[aI,y,show j-min 5 13=0 by omega];show 0<=((eG n own:Nat):Int)/\((eG n own:Nat):Int)<_;omega
theorem I0 (J:bR n)(l:List Int)(x:Int):gX (fV n l x)=⟨n.F,n.K,n.L,n.S,List.replicate 13 0,[]⟩:=by
 obtain⟨hF,W,y⟩:=J;have z:n.K=1\/n.K=2:=y.imp (·.1) (·.1);have Z:0<=n.S/\n.S<=832:=by
  rcases y with ⟨_,h⟩|⟨_,h⟩
  ·exact h.1
  ·have h1:=h.1
   have V:=h.2.1;omega
 have G:(fV n l x).getD 0 0=n.F+256*n.K+65536*n.L:=rfl;have U:(fV n l x).getD 1 0=n.S:=rfl;unfold gX;rw[G,U,show(n.F+256*n.K+65536*n.L)%256=n.F by omega,show(n.F+256*n.K+65536*n.L)/256%256=n.K by omega,show(n.F+256*n.K+65536*n.L)/65536%65536=n.L by omega,show wrap64 n.S=n.S by unfold wrap64;omega]
theorem Sy (h:l.length=13)(x:Int):(fV n l x).getD 7 0=x:=by
 show(l.take 5++[x]).getD 5 0=x;rw[aj,aT (by rw[aI,h];omega),aI,h];rfl
theorem Sz (h:l.length=13)(x:Int):((fV n l x).drop 2).take 5=l.take 5:=by
 show(l.take 5++[x]).take 5=_;rw[fJ (by rw[aI,h];omega),List.take_take];rfl
theorem rM (n:bN):aY n.E.length<=ez n/\ez n<=aY n.E.length+1:=by unfold ez;split<;>omega
theorem OO{c:Nat}(z:c<=own.length)(y:own.length<=c+1):own.take c++(if c<own.length then [own.getD c 0] else [])=own:=by
 split
 ·rename_i h
  have :own.drop c=[own.getD c 0]:=by
   rw[eV h,cZ (by omega),aj,aF h];rfl
  rw[<-this,ey]
 ·rw[bq,aW (by omega)]
theorem OP (h:aY n.E.length<=own.length):((dv n own).take (aY n.E.length)).map Int.toNat=own.take (aY n.E.length):=by
 unfold dv;rw[fJ (by rw[bG,aI];omega),aW (by rw[bG,aI];omega),List.map_map]
 conv=>rhs;rw[<-List.map_id (List.take (aY n.E.length) own)]
 exact dL λa _=>aJ a
theorem yT (hB:n.B.length=13)(hR:bR n)(hF:n.F=1)(ho:own.length=ez n)(hm:∀c∈own,c≠0/\c<256)(h:Cm X q n own):
  kJ X (dz X q)/\lQ X (dz X q)=n/\Aw X (dz X q)=own:=by
 have ax:=iZ hR;have av:=rM n;have V:aY n.E.length<=own.length:=by omega
 have J:=qM (own:=own) hB (by omega) V;have rI:=yP hR hB V hm;have Lf:=I0 hR (dv n own) ((eG n own:Nat):Int);have g1:(fV n (dv n own) ((eG n own:Nat):Int)).getD 1 0=n.S:=rfl;have g7:=Sy (n:=n) J ((eG n own:Nat):Int);have g5:=Sz (n:=n) J ((eG n own:Nat):Int);have hK:n.K=1\/n.K=2:=hR.2.2.imp (·.1) (·.1);have SA:n.K=1->n.E=[]/\aY n.E.length=0:=λy=>by
  rcases hR.2.2 with h|h
  ·have :=h.2.2.1
   exact⟨List.length_eq_zero_iff.1 this,by unfold aY;omega⟩
  ·have :=h.1;omega
 have I1:n.K=2->mz n:=λy=>by
  rcases hR.2.2 with h|h
  ·have :=h.1;omega
  ·exact h.2
 have au:eG n own<256:=by
  unfold eG;split
  ·exact(hm _ (iI (by assumption))).2
  ·omega
 -- the list, or none
 have z:(aY n.E.length<own.length/\eG n own=own.getD (aY n.E.length) 0/\eG n own≠0/\(dv n own).drop 5≠List.replicate 8 0)\/(aY n.E.length=own.length/\eG n own=0/\(dv n own).drop 5=List.replicate 8 0):=by
  by_cases W:aY n.E.length<own.length
  ·left
   have Z:eG n own=own.getD (aY n.E.length) 0:=by unfold eG;rw[aB W]
   refine⟨W,Z,by rw[Z];exact(hm _ (iI W)).1,λhz=> ?_⟩;have h5:5<aY n.E.length\/n.B.drop 5≠List.replicate 8 0:=by
    rcases Classical.em (5<aY n.E.length\/n.B.drop 5≠List.replicate 8 0) with h|h
    ·exact h
    ·have :ez n=aY n.E.length:=by unfold ez;rw[aA h]
     omega
   by_cases h6:5<aY n.E.length
   ·have e:=oU V h6
    have e2:((dv n own).drop 5).getD 0 0=(0:Int):=by rw[hz];rfl
    rw[aj,cg,<-aj,e] at e2;have :=(hm _ (iI (show 5<own.length by omega))).1;omega
   ·have h7:=h5.resolve_left h6
    rcases hK with y|y
    ·have ag:=(SA y).2
     apply h7;rw[<-hz];unfold dv;rw[ag];rfl
    ·apply h7
     rw[(I1 y).2.2.1];rfl
  ·right
   have ak:aY n.E.length=own.length:=by omega
   have Z:eG n own=0:=by unfold eG;rw[aA W]
   have h5:¬(5<aY n.E.length\/n.B.drop 5≠List.replicate 8 0):=λh=>by
    have :ez n=aY n.E.length+1:=by unfold ez;rw[aB h]
    omega
   have h6:n.B.drop 5=List.replicate 8 0:=Classical.not_not.1 λh=>h5 (.inr h)
   refine⟨ak,Z,zB (by rw[bu,J];rfl) λk y=> ?_⟩;rw[<-h6,aj,cg,<-aj,qN V,aA (by omega),aj,aj,cg]
 have qh:cD X (fV n (dv n own) ((eG n own:Nat):Int))=dv n own:=by
  unfold cD;rw[g5,g7]
  conv=>rhs;rw[<-ey 5 (dv n own)]
  congr 1
  rcases z with ⟨W,Z,h0,-⟩|⟨W,Z,h0⟩
  ·rw[aA (by omega),aJ,Z,h.own _ W,ownRow,aA (Nat.lt_irrefl _)]
  ·rw[aB (by omega),h0]
 have SB:n.K=2->n.S.toNat=n.E.length/\lI X (dv n own) n.E.length/\pj X (dv n own) n.E.length=n.E:=λy=>by
  have hd:=I1 y;have aa:∀e,e<n.E.length->X.getD (sy (dv n own) e) 0=((jq (bl (dZ n.E e)):Nat):Int)/\X.getD (sy (dv n own) e+1) 0=iC n.E e/\jk (jq (bl (dZ n.E e)))=some (bl (dZ n.E e)):=λe he=>by
   have ae:e/4<aY n.E.length:=by unfold aY;omega
   have U:=h.own (e/4) (by omega);rw[ownRow,aB ae] at U;have ac:sy (dv n own) e=1080+8*own.getD (e/4) 0+2*(e%4):=by unfold sy;rw[oU V ae,aJ]
   have r0:(dz X (1080+8*own.getD (e/4) 0)).getD (2*(e%4)) 0=(gI n.E (e/4)).getD (2*(e%4)) 0:=by rw[U]
   have r1:(dz X (1080+8*own.getD (e/4) 0)).getD (2*(e%4)+1) 0=(gI n.E (e/4)).getD (2*(e%4)+1) 0:=by rw[U]
   rw[jt _ _ _ (by omega)] at r0 r1;unfold gI at r0 r1;rw[ni _ _ _ _ (by omega),aB (by omega),F8,aB (by omega),show 4*(e/4)+2*(e%4)/2=e by omega] at r0;rw[ni _ _ _ _ (by omega),aB (by omega),F8,aA (by omega),show 4*(e/4)+(2*(e%4)+1)/2=e by omega] at r1;have hg:=(hd.2.2.2 e he).1;refine⟨by rw[ac,r0],by rw[ac,Nat.add_assoc,r1],?_⟩;unfold jq;rw[aB hg];exact l9 hg (xg _)
  have hE:pj X (dv n own) n.E.length=n.E:=Ri (nr _ _ _) λe he=>by
   rw[nr] at he;obtain⟨h1,h2,h3⟩:=aa e he;obtain⟨e1,e2⟩:=yK X (dv n own) n.E.length e he;rw[e1,e2];unfold vU rG;rw[h1,h2,aJ,h3];exact⟨AJ _,rfl⟩
  refine⟨by rw[hd.2.1,aJ],⟨hd.1,?_,λk y=> ?_⟩,hE⟩
  ·refine zB (by rw[J,uj J (by omega)]) λk _=> ?_
   rw[yD J (by omega)];split
   ·rfl
   ·rw[qN V,aA (by assumption),hd.2.2.1,aj,bb]
    split<;>rfl
  ·have af:k<own.length:=by omega
   have EA:=hm _ (iI af);refine⟨by rw[oU V y];omega,λj hj=> ?_,?_⟩
   ·obtain⟨h1,h2,h3⟩:=aa (4*k+j) (by omega)
    unfold vU rG;rw[h1,h2,aJ,h3];have :=(hd.2.2.2 (4*k+j) (by omega)).2.1;exact⟨rfl,by omega⟩
   ·rw[hE,oU V y,aJ]
    have :=h.own k af;rw[ownRow,aB y] at this;exact this.symm
 rw[h.row];have G:lQ X (fV n (dv n own) ((eG n own:Nat):Int))=n:=by
  unfold lQ;rw[qh,Lf,g1];obtain⟨F,K,L,S,B,E⟩:=n;rcases hK with y|y
  ·have hb:=SA y
   rw[aA (show ¬K=2 by have :K=1:=y;omega)];show bN.mk F K L S _ []=bN.mk F K L S B E;have he:E=[]:=hb.1;have ag:aY E.length=0:=hb.2;rw[he]
   congr 1
   unfold dv;have ar:aY ([]:List (ByteArray×Int)).length=0:=by decide
   show(own.take (aY ([]:List (ByteArray×Int)).length)).map _++B.drop (aY ([]:List (ByteArray×Int)).length)=B;rw[ar];rfl
  ·obtain⟨e1,e2,e3⟩:=SB y
   have ah:S.toNat=E.length:=e1;rw[aB (show K=2 from y)];show bN.mk F K L S (List.replicate 13 0) (pj X _ S.toNat)=bN.mk F K L S B E;have hb:B=List.replicate 13 0:=(I1 y).2.2.1;rw[ah,hb]
   congr 1
   rw[<-hb];exact e3
 refine⟨⟨⟨by rw[g7];omega,λk _=>by rw[qh];exact(rI k).2,?_⟩,?_,λy=> ?_,by rw[Lf];exact hF,by rw[G];exact hR,by rw[G,qh,g7]⟩,G,?_⟩
 ·rw[g7,qh]
  rcases z with ⟨_,_,_,h0⟩|⟨_,h0,_⟩
  ·exact .inr h0
  ·exact .inl (by omega)
 ·rw[g1]
  rcases hK with y|y
  ·rcases hR.2.2 with h|h
   ·exact h.2.1.2
   ·have :=h.1;omega
  ·have :=(I1 y).2.1;omega
 ·rw[Lf] at y
  obtain⟨e1,e2,e3⟩:=SB y;rw[qh,g1,e1];exact e2
 ·unfold Aw
  rw[qh,Lf,g1,g7];have ai:(if ((eG n own:Nat):Int)=0 then [] else [((eG n own:Nat):Int).toNat])=if aY n.E.length<own.length then [own.getD (aY n.E.length) 0] else []:=by
   rcases z with ⟨W,Z,h0,-⟩|⟨W,Z,-⟩
   ·rw[aA (by omega),aB W,aJ,Z]
   ·rw[aB (by omega),aA (by omega)]
  rw[ai];have h1:(if (bN.mk n.F n.K n.L n.S (List.replicate 13 0) []).K=2 then ((dv n own).take (aY n.S.toNat)).map Int.toNat else [])=own.take (aY n.E.length):=by
   rcases hK with y|y
   ·rw[aA (show ¬n.K=2 by omega),(SA y).2]
    rfl
   ·rw[aB (show n.K=2 from y),(SB y).1,OP V]
  rw[h1];exact OO V (by omega)
end Go.Proofs.YtepbpdipenedhaaGreatDoor
