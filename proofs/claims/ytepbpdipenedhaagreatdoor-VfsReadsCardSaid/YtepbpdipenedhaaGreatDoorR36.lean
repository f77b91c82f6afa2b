/- Lemmas. -/
import Derived.Test.YtepbpdipenedhaaGreatDoorR35
import Derived.Test.YtepbpdipenedhaaGreatDoorR32
set_option maxHeartbeats 4000000
set_option maxRecDepth 100000
namespace Go.Proofs.YtepbpdipenedhaaGreatDoor
open Go.Proofs.Tryz
open Go.RowKit
variable{w w':World}{b g:Nat}{v:Value}{M:Nat->Nd}{D:List Int}{l:List kM}
theorem CJ{T:Nat}{n:bP}{h:Array Value}(G:aR n v=h)(z:bh w g h T)(J:n.B.length=13):(loadVar 111 ⟨g,0,none⟩).run prog w= .ok (.agg h) w:=by
 subst G;exact ct z J
theorem KN{gp:Nat}{B:List Int}{T:List (bP×Value)}{own:Nat->List Nat}(h:wH w b gp B [] T own [] M)(hT:eo M){o:kM}{vp vq vd:Value}{g:Nat}(hP:jg w vp g o.P)(hs:∀s∈o.P,s.size<=9223372036854775807)(hK:o.K=2){gd:Nat}(aQ:Reads w vd gd (jL o.D))(br:∀x∈o.D,0<=x/\x<256):
  Calls prog 55 #[.agg (dZ b o vp vq vd)] w (jA w b gp B (pQ B M o)):=by
 obtain⟨W,hW,dt,oZ,mq,ak⟩:=vT w (dZ b o vp vq vd) (GH jf (.slice none 0 0) (.slice none 0 0));have uN:=au (Jm (vq:=vq) (vd:=vd) (h.keep0 dt) hT (hP.keep dt (by simp)) hs);have YX:=au (RY h hT dt oZ mq rfl ak);have ot:=au ak;have ar:=h.lt;have Y0:=au ar;have CE:Hid (∀z,az [b,gp] W z->z.cell? ⟨w.heap.size,0,none⟩=some (.pointer (some ⟨b,0,none⟩))/\z.cell? ⟨w.heap.size,4,none⟩=some (.int .i64 o.O)/\z.cell? ⟨w.heap.size,6,none⟩=some vd):=λz hk=>by
  have h1:=oZ.keep hk (gZ ar (by omega));exact⟨by rw[h1.cell];rfl,by rw[h1.cell];rfl,by rw[h1.cell];rfl⟩
 have sx:Hid (∀z,az [b,gp] W z->(loadVar 79 ⟨w.heap.size,0,none⟩).run prog z= .ok (.agg (dZ b o vp vq vd)) z):=λz hk=>ny (oZ.keep hk (gZ ar (by omega)))
 have YL:Hid ((fJ M o.P).2≠0->(oV M o).2=fy (fJ M o.P).2):=Nt (.inl hK);have Zy:Hid ((fJ M o.P).2=0->o.O<0->(oV M o).2=fy 1):=λU hn=>by rw[su hK U,aC hn]
 have aO:Hid ((fJ M o.P).2=0->0<=o.O->832-(o.D.length:Int)<o.O->(oV M o).2=fy 8):=λU hn bH=>by rw[su hK U,aB (by omega),aC (by omega)]
 have Pe:Hid ((fJ M o.P).2=0->0<=o.O->¬832-(o.D.length:Int)<o.O->o.D.length=0->∀z,az [] W z->∃V,(storeVar 34 ⟨w.heap.size+1,0,none⟩ (.agg #[.int .i64 0,.int .i64 0,.int .i64 0,.int .i64 0,.int .i64 0,.slice none 0 0,.slice none 0 0])).run prog z= .ok () V/\(loadVar 34 ⟨w.heap.size+1,0,none⟩).run prog V= .ok (.agg #[.int .i64 0,.int .i64 0,.int .i64 0,.int .i64 0,.int .i64 0,.slice none 0 0,.slice none 0 0]) V/\jA w b gp B (pQ B M o) (.returned (.agg #[.int .i64 0,.int .i64 0,.int .i64 0,.int .i64 0,.int .i64 0,.slice none 0 0,.slice none 0 0])) V):=λU hn bH hl z hk=>by
  obtain⟨V,s1,s2,s3,s4⟩:=nz mq rfl hk (by simp) 0;have hd:=su hK U;have bA:=bg hl;rw[aB (by omega),aB (by omega),aC bA] at hd;exact⟨V,s1,s2,jA.none h ((dt.trans' hk).trans s4 (by intro y hy;rw[ay] at hy;omega)) s3 (.inr (.inr ⟨rfl,by rw[hd];rfl,.inl (by rw[hd];rfl),by rw[hd];exact h.nd.stay⟩))⟩
 have aK:Hid ((fJ M o.P).2=0->∀f:Nat,o.O=(f:Int)->o.D.length≠0->f+o.D.length<=832->(aZ (aA B [])).length<40->∀z,az [] W z->∃V,(storeVar 34 ⟨w.heap.size+1,0,none⟩ (.agg #[.int .i64 7,.int .i64 0,.int .i64 0,.int .i64 0,.int .i64 0,.slice none 0 0,.slice none 0 0])).run prog z= .ok () V/\(loadVar 34 ⟨w.heap.size+1,0,none⟩).run prog V= .ok (.agg #[.int .i64 7,.int .i64 0,.int .i64 0,.int .i64 0,.int .i64 0,.slice none 0 0,.slice none 0 0]) V/\jA w b gp B (pQ B M o) (.returned (.agg #[.int .i64 7,.int .i64 0,.int .i64 0,.int .i64 0,.int .i64 0,.slice none 0 0,.slice none 0 0])) V):=λU f hO hl hf af z hk=>by
  obtain⟨V,s1,s2,s3,s4⟩:=nz mq rfl hk (by simp) 7;exact⟨V,s1,s2,jA.none h ((dt.trans' hk).trans s4 (by intro y hy;rw[ay] at hy;omega)) s3 (Gx hK U hO (λe=>hl (by rw[e];rfl)) hf af 0)⟩
 have uL:Hid ((fJ M o.P).2=0->(nT T (fJ M o.P).1).B.length=13/\0<=(nT T (fJ M o.P).1).S/\(nT T (fJ M o.P).1).S<=832/\(nT T (fJ M o.P).1).E=[]):=λU=>by
  obtain⟨f1,f2,f3,f4,f5,f6,f7⟩:=pV h hT U;exact⟨f2,f6,f7,f4⟩
 have N9:Hid ((fJ M o.P).2=0->∀G,az [] W G->∀v:Value,Calls prog 106 #[.agg (dZ b o vp vq vd),.agg (aR (nT T (fJ M o.P).1) v)] G λe w'=>e= .returned (.agg (jL (kA (aA B []) (nT T (fJ M o.P).1))).toArray)/\az [] G w'):=λU G hk v=>by
  obtain⟨f1,f2,f3,-⟩:=pV h hT U;have bR:=hk.size;exact Bn (h.sh.keep (dt.trans' hk) (by simp) (by simp)) (by omega) h.nd.st.w64 f2 f3 o vp vq vd v
 have NV:Hid ((kA (aA B []) (nT T (fJ M o.P).1)).length=832):=(qz _ _).1;have Zq:Hid ((fJ M o.P).2=0->∀f:Nat,f+o.D.length<=832->∀G,az [] W G->∀v:Value,v.oneCell'=true->Calls prog 107 #[.agg (dZ b o vp vq vd),.agg (aR (nT T (fJ M o.P).1) v),.int .i64 (f:Int),.int .i64 ((f:Int)+(o.D.length:Int))] G (NS G b gp B [] (nT T (fJ M o.P).1) v (fM (nT T (fJ M o.P).1).B (f/64) (dM (f+o.D.length))))):=λU f hf G hk v hv=>by
  obtain⟨f1,f2,f3,-⟩:=pV h hT U;have bR:=hk.size;have :=Vk (h.sh.keep (dt.trans' hk) (by simp) (by simp)) h.nd.st.w64 (λz hx=>h.tab z (((dt.trans' hk).mono (by simp)).trans' hx)) (by omega) (by simp) f2 o vp vq vd hv f (f+o.D.length) (by omega) hf;rwa[Int.natCast_add] at this
 have LR:Hid (∀f:Nat,f+o.D.length<=832->(fM (nT T (fJ M o.P).1).B (f/64) (dM (f+o.D.length))).length<=13):=λf hf=>cD (uE _ _ _) (by unfold dM;omega)
 have ax:=au (λ(U:(fJ M o.P).2=0) (f:Nat) (hO:o.O=(f:Int)) (Yk:o.D.length≠0) (hf:f+o.D.length<=832) o9 wf w4 w5 bU y hy bT hp j6 v hr=>Vo h hT hK vp vq vd dt mq rfl ak U hO (λe=>Yk (by rw[e];rfl)) hf br o9 (wf:=wf) (w4:=w4) (w5:=w5) bU (y:=y) hy bT hp j6 (v:=v) hr);obtain⟨ad,aP,rfl,bZ,bl,-⟩:=id aQ;rw[fF] at *;have ZF:Hid (∀z,az [] W z->Reads z (.slice ad o.D.length aP) gd (jL o.D)):=λz hk=>aQ.keep (dt.trans' hk) (by simp)
 have IE:=pZ;have ub:=eA;have yG:=au YX.out.err;clear h hT hP hs dt oZ mq ak hK YX ar aQ br;unfold DV at uN;rw[p8] at *;unfold YZ at ax;generalize jA w b gp B (pQ B M o)=Q at *;generalize dZ b o vp vq (.slice ad o.D.length aP)=J at *;generalize oV M o=DM at *;generalize o.O=O at *;generalize o.D=D at *;generalize bp:aR cr (.slice none 0 0)=Z0 at *;have oz:=au bp;clear bp;generalize fJ M o.P=F at *;obtain⟨x,ee⟩:=F
 dsimp only at *
 generalize kA (aA B []) (nT T x)=CL at *;have tq:=au (sx.out W (az.refl _ _));have b6:aP<=9223372036854775807:=by unfold maxLen at bl;omega
 have bX:IntKind.i64.wrap (832-(D.length:Int))=832-(D.length:Int):=by rw[cy];omega
 clear bl;go_enter func55,ntmps55;go_wp2_with(with_reducible refine gL 79 tq.out ?_);refine uN.out.mono ?_;rintro e w1 ⟨aa,⟨U,rfl⟩|⟨rfl,v,g,rfl,hE,hg⟩⟩
 ·obtain⟨G,q1,q2,q3⟩:=dc (n:=cr) (v:= .slice none 0 0) (bh.new w1 Z0 111) (by rw[<-oz.out];rfl) rfl rfl
  have iM:az [] w1 G:=((az.refl _ _).alloc _).trans q3 (by intro x hx;rw[ay] at hx;omega);obtain⟨-,c2,c3⟩:=CE.out G ((aa.trans' iM).mono (by simp));have nD:=au (aa.trans' iM);rw[oz.out] at q1;have ov:=au q1;have bt:=au (yG.out ee U (YL.out U));have b1:(ee != 0)=true:=by simpa using U
  clear hW q1 q2 q3 aa iM U yG YL Zy aO Pe aK uL N9 NV Zq LR ax ZF uN CE sx tq ot Y0 oz;go_wp2_with(with_reducible refine gS 111 ov.out ?_)
  go_quiet (fail)
  obtain⟨V,s1,s2,s3⟩:=bt.out (G.drewN nq) (nD.out.drewN nq);have HS:=au s1;have HL:=au s2;have HF:=au s3;clear s1 s2 s3 bt nD ov;generalize G.drewN nq=w3 at *;go_wp2_with(with_reducible refine gS 34 HS.out ?_);exact aL (b9 results55 rfl HL.out) rfl HF.out
 ·obtain⟨aT,b7,cd,bc⟩:=uL.out rfl
  have YY:=au (Zy.out rfl);have ah:=au (aO.out rfl);have aj:=au (Pe.out rfl);have ag:=au (aK.out rfl);have ZH:=au (N9.out rfl);have ai:=au (Zq.out rfl);have ac:=au (ax.out rfl);clear YL Zy aO Pe aK N9 Zq ax uL;generalize nT T x=n at *;generalize (x:Int)=xi at *;obtain⟨G,q1,q2,q3⟩:=dc (n:=n) (v:=v) (bh.new w1 Z0 111) (by rw[<-oz.out];rfl) aT hE.one;have iM:az [] w1 G:=((az.refl _ _).alloc _).trans q3 (by intro x hx;rw[ay] at hx;omega);have ov:=au q1;obtain⟨-,c2,c3⟩:=CE.out G ((aa.trans' iM).mono (by simp));have FO:=au (aa.trans' iM);have o7:=au q2;have bz:Hid (W.heap.size<=w1.heap.size):=aa.size;have VA:=au hE.one;have bq:Hid (w1.heap.size<G.heap.size):=q2.lt;have tz:Hid (bC G v 0 []):=by
   have :=(hE.keep iM (by simp)).anyG (by rw[bc];rfl) 0;rw[bc] at this;exact this
  have zx:=au aT;clear hW q1 q2 q3 aa iM hE hg uN tq bc aT;generalize bD:aR n v=Zn at *;have Xz:=au bD;clear bD;go_wp2_with(with_reducible refine gS 111 ov.out ?_)
  go_quiet (fail)
  have nD:=au (FO.out.drewN nq);have rb:=au (o7.out.drewN nq);have Vp:Hid (w1.heap.size<(G.drewN nq).heap.size):=bq.out;have Y1:Hid (bC (G.drewN nq) v 0 []):=tz.out.keep ((az.refl [] G).drewN nq) (λh0=>absurd rfl h0);clear FO o7 bq tz ov;generalize G.drewN nq=w3 at *;by_cases bI:O<0
  ·obtain⟨V,s1,s2,s3⟩:=yG.out 1 (by omega) (YY.out bI) w3 nD.out
   have HS:=au s1;have HL:=au s2;have HF:=au s3;clear s1 s2 s3 yG YY ah aj ag ZH ai ac NV LR ZF CE sx ot Y0 oz nD rb Vp Y1;go_wp2_with(with_reducible refine gS 34 HS.out ?_);exact aL (b9 results55 rfl HL.out) rfl HF.out
  ·by_cases Wk:832-(D.length:Int)<O
   ·obtain⟨V,s1,s2,s3⟩:=yG.out 8 (by omega) (ah.out (by omega) Wk) w3 nD.out
    have HS:=au s1;have HL:=au s2;have HF:=au s3;clear s1 s2 s3 yG YY ah aj ag ZH ai ac NV LR ZF CE sx ot Y0 oz nD rb Vp Y1;go_wp2_with(with_reducible refine gS 34 HS.out ?_);exact aL (b9 results55 rfl HL.out) rfl HF.out
   ·by_cases ae:D.length=0
    ·obtain⟨V,s1,s2,s3⟩:=aj.out (by omega) (by omega) ae w3 nD.out
     have HS:=au s1;have HL:=au s2;have HF:=au s3;have b4:((D.length:Int)==0)=true:=by rw[ae];rfl
     clear s1 s2 s3 yG YY ah aj ag ZH ai ac NV LR ZF CE sx ot Y0 oz nD rb Vp Y1 ae;go_wp2_with(with_reducible refine gS 34 HS.out ?_);exact aL (b9 results55 rfl HL.out) rfl HF.out
    ·have b4:((D.length:Int)==0)=false:=by simpa using ae
     obtain⟨f,rfl⟩:=cu (show 0<=O by omega);have af:f+D.length<=832:=by omega
     have bY:IntKind.i64.wrap ((f:Int)+(D.length:Int))=(f:Int)+(D.length:Int):=by rw[cy];omega
     have aX:=ZH.out w3 nD.out v;rw[Xz.out] at aX;have PC:=au aX;clear aX;have tO:=CJ Xz.out rb.out zx.out;have bo:=au tO;have U8:=au (sx.out w3 (nD.out.mono (by simp)));obtain⟨Z8,aI⟩:∃Z8,(jL (List.replicate 832 0)).toArray=Z8:=⟨_,rfl⟩;have bV:=CH;rw[aI] at bV;have xR:Hid (Z8.size=832):=by rw[<-aI];unfold Hid;rw[bN,fF,bG]
     clear aI tO YY ah aj yG ZH;go_wp2_with(first|(with_reducible refine gL 79 U8.out ?_)|(with_reducible refine gL 111 bo.out ?_));refine PC.out.mono ?_;rintro e w4 ⟨rfl,av⟩;obtain⟨w5,q1,q2,q3⟩:=bB (P:= prog) (ty:= 157) (cs:=jL CL) (by rw[fF,NV.out];exact yo) (bh.new w4 Z8 157) (by rw[fF,NV.out,xR.out]) (yq _);have bS:=y9 w4.heap.size f (by omega);have Ha:az [] w3 w5:=((av.alloc (.cells Z8 157))).trans q3 (by intro x hx;rw[ay] at hx;have :=av.size;omega);have aY:=nD.out.trans' Ha;obtain⟨r,w6,yO,yP,kG⟩:=KC (w:=w5.drew) (o:=f) (n:=832-f) (cap:=832-f) q2.drew (ZF.out _ aY.drew) (by rw[NV.out];omega);rw[show CL.take f++D.take (832-f)++CL.drop (f+min D.length (832-f))=sk CL f D by unfold sk;rw[aV (l:=D) (by omega),cC (by omega),ba]] at yP;obtain⟨-,-,c6⟩:=CE.out w5 (aY.mono (by simp));have JV:=yO 3;have bj:w3.heap.size<=w4.heap.size:=av.size;have bJ:w5.heap.size<=w6.heap.size:=kG.size;have Y2:az [] w3 w6:=(Ha.drew).trans kG (by intro x hx;rw[ay] at hx;omega);have aD:=nD.out.trans' Y2;have aN:=au (sx.out w6 (aD.mono (by simp)));have Q6:=au (rb.out.keep Y2 (by simp));have tO:=CJ Xz.out Q6.out zx.out;have aU:=au tO;have aH:=ai.out f af w6 aD v VA.out;rw[Xz.out] at aH;have O9:=au aH;clear aH;have TK:=au aD;have KZ:=au yP;have zz:=au q1;have aM:=au (Y1.out.keep Y2 (λh0=>absurd rfl h0));have bO:Hid (w1.heap.size<w6.heap.size/\w4.heap.size<w6.heap.size/\w3.heap.size<=w4.heap.size/\w1.heap.size<w3.heap.size):=⟨bL Vp.out Y2.size,yP.lt,bj,Vp.out⟩;clear q1 q2 q3 av Ha aY yO yP kG Y2 aD tO PC bo U8 xR rb ZF Y1 Vp bj bJ ai;go_wp2_with(with_reducible refine gS 157 zz.out ?_);go_region_with (fail)
     clear zz JV c6 bS;go_wp2_with(first|(with_reducible refine gL 79 aN.out ?_)|(with_reducible refine gL 111 aU.out ?_));refine O9.out.mono ?_;rintro e w7 (⟨o9,rfl,zW⟩|⟨o9,rfl,aS⟩)
     ·obtain⟨w8,q1,q2,q3⟩:=dc (n:=cr) (v:= .slice none 0 0) (Q6.out.keep zW (by simp)) (by rw[<-Xz.out];exact Cy zx.out) rfl rfl
      have bQ:=LR.out f af;obtain⟨V,s1,s2,s3⟩:=ag.out f rfl ae af (by omega) w8 ((TK.out.trans' zW).trans q3 (by intro y hy;rw[ay] at hy;have :=bz.out;omega));rw[oz.out] at q1 ⊢;have aW:=au q1;have HS:=au s1;have HL:=au s2;have HF:=au s3;clear q1 q2 q3 s1 s2 s3 bQ o9 zW ag ac O9 aN aU CE sx Q6 KZ TK aM;go_wp2_with(first|(with_reducible refine gS 111 aW.out ?_)|(with_reducible refine gS 34 HS.out ?_));exact aL (b9 results55 rfl HL.out) rfl HF.out
     ·have hl:=Y0.out
      obtain⟨z1,z2,z3,z4⟩:=bO.out;have bf:=bz.out;obtain⟨g7,-,-,k7⟩:=id aS;have bb:∀y,W.heap.size<=y->y∉[b,gp]:=λy hy=>gZ hl (by have :=ot.out;omega)
      have cj:=nD.out.size;have bk:RL (aA B []) n f D.length={ n with B:=ju n.B (fM n.B (f/64) (dM (f+D.length))) ((aZ (aA B [])).take (fM n.B (f/64) (dM (f+D.length))).length) (fM n.B (f/64) (dM (f+D.length))).length,S:=max n.S ((f+D.length:Nat):Int) }:=rfl;have YO:=λw9 DJ bK=>ac.out f rfl ae af o9 w6 w7 w9 TK.out w1.heap.size bf z1 aS DJ v bK
      rw[bk,Int.natCast_add] at YO;obtain⟨fb,aG⟩:∃fb,ju n.B (fM n.B (f/64) (dM (f+D.length))) ((aZ (aA B [])).take (fM n.B (f/64) (dM (f+D.length))).length) (fM n.B (f/64) (dM (f+D.length))).length=fb:=⟨_,rfl⟩;have NW:fb.length=13:=by rw[<-aG,nv];exact zx.out
      rw[aG] at YO ⊢;obtain⟨mS,bM⟩:∃mS,max n.S ((f:Int)+(D.length:Int))=mS:=⟨_,rfl⟩;rw[bM] at YO;obtain⟨w8,q1,q2,q3⟩:=dc (n:={ n with B:=fb }) (v:=v) (Q6.out.keep k7 (bb _ bf)) (by rw[<-Xz.out];exact Cy zx.out) NW VA.out;have d3:w8.cell? ⟨w1.heap.size,3,none⟩=some (.int .i64 n.S):=by rw[q2.cell];exact(iX (n:={ n with B:=fb }) v NW).f3
      have cf:=q2.frozen 3;have DD:=YV q2 mS;have Y3:az [w1.heap.size] w7 (w8.setCell ⟨w1.heap.size,3,none⟩ (.int .i64 mS)):=q3.setCell (.inl (by simp)) _;have aJ:az [b,gp] W (w8.setCell ⟨w1.heap.size,3,none⟩ (.int .i64 mS)):=((TK.out.mono (by simp)).trans' k7).trans Y3 (λy hy=>by rw[ay] at hy;omega);have A0:=au (YO _ Y3 ((aM.out.keep k7 (λh0=>absurd rfl h0)).keep Y3 (λh0=>absurd rfl h0)));have aW:=au q1;have bn:=au (sx.out _ aJ);have bw:=au (ct DD (by exact NW));have bu:=au (CI ((KZ.out.keep k7 (bb _ (by omega))).keep Y3 (by rw[ay];omega)) (by unfold sk;simp[NV.out];omega));have WI:=au DD;have bW:=au NW;obtain⟨c0,c4,-⟩:=CE.out _ aJ;clear q1 q2 q3 DD Y3 aJ YO bk aG aS k7 bb O9 aN aU Q6 KZ aM ag ac NW sx o9 NV LR;generalize aR { n with B:=fb } v=Z7 at *;generalize bv:aR { n with B:=fb,S:=mS } v=Z9 at *;generalize (jL (sk CL f D)).toArray=ZC at *;go_wp2_with(first|(with_reducible refine gS 111 aW.out ?_)|(with_reducible refine gL 79 bn.out ?_)|(with_reducible refine gL 111 bw.out ?_)|(with_reducible refine gL 157 bu.out ?_));refine A0.out.mono ?_;rintro e b8 ⟨rfl,Mi,TF,aF⟩;have tO:=CJ bv (TF WI.out) bW.out;obtain⟨c0,-,-⟩:=CE.out _ Mi;have bF:=au tO;have bE:=au aF;clear tO aF TF Mi A0 bn bw bu WI bv;go_wp2_with(with_reducible refine gL 111 bF.out ?_);refine bE.out.mono ?_;rintro e cg ⟨r,V,rfl,s1,s2,s3⟩;have HS:=au s1;have HL:=au s2;have HF:=au s3;clear s1 s2 s3 bE;go_wp2_with(with_reducible refine gS 34 HS.out ?_);exact aL (b9 results55 rfl HL.out) rfl HF.out
theorem QD (M:Nat->Nd){o:kM}(G:o.K=2):p7 M o:=by
 intro w b gp B T own vp vq vd h W hI;refine(uJ w b vp vq vd (k:=2) G (by omega)).mono ?_;rintro e w' ⟨rfl,V⟩;refine⟨_,rfl,V,lI func55 rfl rfl _,λw2 z=> ?_⟩;obtain⟨⟨g1,J⟩,U,⟨g3,a3⟩,a4,⟨g5,a5⟩,a6⟩:=hI.keep z;exact KN (h.keep0 z) W J U G a5 a6
theorem Vq (M:Nat->Nd){o:kM}(G:o.K=3):p7 M o:=by
 intro w b gp B T own vp vq vd h W hI;refine(uJ w b vp vq vd (k:=3) G (by omega)).mono ?_;rintro e w' ⟨rfl,V⟩;refine⟨_,rfl,V,lI func56 rfl rfl _,λw2 z=> ?_⟩;obtain⟨⟨g1,J⟩,U,⟨g3,a3⟩,a4,⟨g5,a5⟩,a6⟩:=hI.keep z;exact NU (h.keep0 z) W J U G
theorem Vr (M:Nat->Nd){o:kM}(G:o.K=10):p7 M o:=by
 intro w b gp B T own vp vq vd h W hI;refine(uJ w b vp vq vd (k:=10) G (by omega)).mono ?_;rintro e w' ⟨rfl,V⟩;refine⟨_,rfl,V,lI func63 rfl rfl _,λw2 z=> ?_⟩;obtain⟨⟨g1,J⟩,U,⟨g3,a3⟩,a4,⟨g5,a5⟩,a6⟩:=hI.keep z;exact YB (h.keep0 z) W J U G
theorem Y4 (M:Nat->Nd){o:kM}(G:o.K=11):p7 M o:=by
 intro w b gp B T own W vq vd h U V;refine(uJ w b W vq vd (k:=11) G (by omega)).mono ?_;rintro e w' ⟨rfl,J⟩;refine⟨_,rfl,J,lI func64 rfl rfl _,λw2 z=> ?_⟩;obtain⟨⟨g1,a1⟩,a2,⟨g3,a3⟩,a4,⟨g5,a5⟩,a6⟩:=V.keep z;exact abM (h.keep0 z) U G
theorem Vs (M:Nat->Nd){o:kM}(G:o.K=12):p7 M o:=by
 intro w b gp B T own W vq vd h U V;refine(uJ w b W vq vd (k:=12) G (by omega)).mono ?_;rintro e w' ⟨rfl,J⟩;refine⟨_,rfl,J,lI func65 rfl rfl _,λw2 z=> ?_⟩;obtain⟨⟨g1,a1⟩,a2,⟨g3,a3⟩,a4,⟨g5,a5⟩,a6⟩:=V.keep z;exact YA (h.keep0 z) U G
def aei (D:List Int):ByteArray:=D.foldl (λr n=>r.push (UInt8.ofNat n.toNat)) ByteArray.empty
theorem Js (h:Reads w v g (jL D)):(convert 31 9 v).run prog w= .ok (.string (aei D)) w:=by
 obtain⟨a,cap,rfl,h1,h2,h3⟩:=h;have V: prog.underlying 31 =some (.slice 5):=by kernel_rfl
 have U: prog.underlying 5 =some (.int .u8):=by kernel_rfl
 have hs: prog.underlying 9 =some .string:=by kernel_rfl
 rw[run_convert_bytes_string w _ _ _ a _ cap V U hs];by_cases J:D=[]
 ·subst J
  cases a with
  |none=>rfl
  |some ad=>exact run_bytesToString w ad 0 cap [] (by rfl)
 ·obtain⟨hg,off,rfl,hc⟩:=h3 (λe=>J (bg (by have :=cB List.length e;rwa[fF,b8] at this)))
  have W:=run_loadCells_list (P:= prog) w ⟨g,off,none⟩ (jL D) (λj u G=>by
   have z:j<(jL D).length:=(List.getElem?_eq_some_iff.1 G).1;rw[add_plain,hc j z,G])
  exact run_bytesToString w ⟨g,off,none⟩ _ cap D W
def opZ:kM:=⟨0,[],[],0,0,[]⟩
def oT (l:List kM) (j:Nat):kM:=l.getD j opZ
structure Gy (w:World) (o:kM) (Z:Array Value):Prop where
 cells:∃vp vq vd,Z=Gs o vp vq vd/\(∃g,jg w vp g o.P)/\(∃g,jg w vq g o.Q)/\∃g,Reads w vd g (jL o.D)
 i64:(-9223372036854775808<=o.K/\o.K<=9223372036854775807)/\(-9223372036854775808<=o.O/\o.O<=9223372036854775807)/\(-9223372036854775808<=o.N/\o.N<=9223372036854775807)
 bytes:adI o
theorem Gy.keep{o:kM}{Z:Array Value}(h:Gy w o Z)(z:az [] w w'):Gy w' o Z:=by
 obtain⟨W,vq,vd,e,⟨J,G⟩,⟨g2,V⟩,U,h3⟩:=h.cells;exact⟨⟨W,vq,vd,e,⟨J,G.keep z (by simp)⟩,⟨g2,V.keep z (by simp)⟩,U,h3.keep z (by simp)⟩,h.i64,h.bytes⟩
def zU (w:World) (v:Value) (g:Nat) (l:List kM):Prop:=
 ∃a cap,v= .slice a l.length cap/\l.length<=cap/\cap<=maxLen/\∀j,j<l.length->g<w.heap.size/\∃off,a=some ⟨g,off,none⟩/\∃Z,Gy w (oT l j) Z/\∀t,t<6->w.cell? ⟨g,off+j*6+t,none⟩=Z[t]?
theorem zU.keep(h:zU w v g l)(z:az [] w w'):zU w' v g l:=by
 obtain⟨a,cap,e,J,W,h3⟩:=h;refine⟨a,cap,e,J,W,λj V=> ?_⟩;obtain⟨G,off,ha,Z,hz,hc⟩:=h3 j V;exact⟨bL G z.size,off,ha,Z,hz.keep z,λt U=>(aO (w:=w) (z.block g G (by simp))).trans (hc t U)⟩
structure Vt (o:kM):Prop where
 lens:o.P.length<=10/\o.Q.length<=10/\o.D.length<=900
 path:∀k,k<o.P.length->(kW o.P k).size<=30
 dest:∀k,k<o.Q.length->(kW o.Q k).size<=30
def Bo (w:World) (l:List kM) (n:Nat) (e:Ending) (w':World):Prop:=∃b,e= .returned (.bool b)/\(b=true->l.length<=n/\∀j,j<l.length->j<300->Vt (oT l j))/\w=w'
theorem Y5 (h:zU w v g l)(n:Nat)(_:n<=100000):Calls prog 8 #[v,.int .i64 (n:Int)] w (Bo w l n):=by
 obtain⟨a,cap,rfl,ax,ae,ac⟩:=h;have HG:Hid (∀j,j<l.length->∃off,a=some ⟨g,off,none⟩/\∃ap cp aq cq ad cd,w.cell? ⟨g,off+j*6+1,none⟩=some (.slice ap (oT l j).P.length cp)/\w.cell? ⟨g,off+j*6+2,none⟩=some (.slice aq (oT l j).Q.length cq)/\w.cell? ⟨g,off+j*6+5,none⟩=some (.slice ad (oT l j).D.length cd)/\
   (∀k,k<(oT l j).P.length->∃gp V,ap=some ⟨gp,V,none⟩/\w.cell? ⟨gp,V+k,none⟩=some (.string (kW (oT l j).P k)))/\
   (∀k,k<(oT l j).Q.length->∃gp V,aq=some ⟨gp,V,none⟩/\w.cell? ⟨gp,V+k,none⟩=some (.string (kW (oT l j).Q k)))/\
   (oT l j).P.length<=9223372036854775807/\(oT l j).Q.length<=9223372036854775807/\(oT l j).D.length<=9223372036854775807):=λj hj=>by
  obtain⟨hg,off,ha,Z,hz,hc⟩:=ac j hj;obtain⟨vp,vq,vd,rfl,⟨gp,hP⟩,⟨gq,hQ⟩,gd,hD⟩:=hz.cells;obtain⟨ap,cp,rfl,ay,ar,P4⟩:=hP.open;obtain⟨aq,cq,rfl,aD,ag,Rc⟩:=hQ.open;obtain⟨ad,cd,rfl,aH,ak,-⟩:=hD;rw[fF] at *;unfold maxLen at ar ag ak;refine⟨off,ha,ap,cp,aq,cq,ad,cd,hc 1 (by omega),hc 2 (by omega),hc 5 (by omega),λk hk=> ?_,λk hk=> ?_,by omega,by omega,by omega⟩
  ·obtain⟨-,V,W,U⟩:=P4.out k hk
   exact⟨gp,V,W,U⟩
  ·obtain⟨-,V,W,U⟩:=Rc.out k hk
   exact⟨gq,V,W,U⟩
 have HF:Hid (∀b,(b=true->l.length<=n/\∀j,j<l.length->j<300->Vt (oT l j))->Bo w l n (.returned (.bool b)) w):=λb h=>⟨b,rfl,h,rfl⟩
 have J:=au (HF.out false (by simp));unfold maxLen at ae;clear ac;generalize Bo w l n=Q at *;generalize hm:l.length=m at *;clear hm;go_enter func8,ntmps8;go_wp2_with fail;go_loopg [5] 300 (λgh s5 wx=>∃k:Nat,k+gh=300/\k<=m/\s5= .int .i64 (k:Int)/\wx=w/\Hid (∀j,j<k->Vt (oT l j)))
 case atStart=>exact⟨0,by omega,by omega,rfl,rfl,λj hj=>by omega⟩
 case round=>
  obtain⟨i,hi,aG,rfl,rfl,HP⟩:=hrel;by_cases z:i=m\/i=300
  ·have HE:Hid (∀b,(b=true->m<=n)->Q (.returned (.bool b)) wr):=λb hb=>HF.out b λh=>⟨hb h,λj hj aF=>HP.out j (by omega)⟩
   clear HF HG HP;by_cases W4:m<=n
   ·have W:(m:Int)<=(n:Int):=by omega
    rcases dG i m with U|U
    ·have aa:(i:Int)<(m:Int):=by omega
     have h3:decide ((i:Int)<300)=false:=aS (by omega);clear z;go_wp2_with fail
     first|exact HE.out true (λ_=>W4)|(go_ret;exact HE.out true (λ_=>W4))
    ·have aa:decide ((i:Int)<(m:Int))=false:=aS (by omega)
     clear z;go_wp2_with fail
     first|exact HE.out true (λ_=>W4)|(go_ret;exact HE.out true (λ_=>W4))
   ·have W:decide ((m:Int)<=(n:Int))=false:=aS (by omega)
    rcases dG i m with U|U
    ·have aa:(i:Int)<(m:Int):=by omega
     have h3:decide ((i:Int)<300)=false:=aS (by omega);clear z;go_wp2_with fail
     first|exact J.out|(go_ret;exact J.out)
    ·have aa:decide ((i:Int)<(m:Int))=false:=aS (by omega)
     clear z;go_wp2_with fail
     first|exact J.out|(go_ret;exact J.out)
  ·have av:i<m:=by omega
   have az:i<300:=by omega
   have aa:(i:Int)<(m:Int):=by omega
   have aB:(i:Int)<300:=by omega
   have aC:(0:Int)<=(i:Int):=by omega
   obtain⟨gg,rfl⟩:∃gg,gk=gg+1:=⟨gk-1,by omega⟩;obtain⟨off,rfl,ap,cp,aq,cq,ad,cd,c1,c2,c5,hp,hq,l1,l2,l3⟩:=HG.out i av;have A0:=au hp;have GF:=au hq;have mI:Hid (Vt (oT l i)->∀j,j<i+1->Vt (oT l j)):=λh j hj=>by
    by_cases e:j=i
    ·rw[e];exact h
    ·exact HP.out j (by omega)
   have KY:Hid ((oT l i).P.length<=10->(oT l i).Q.length<=10->(oT l i).D.length<=900->(∀k,k<(oT l i).P.length->(kW (oT l i).P k).size<=30)->(∀k,k<(oT l i).Q.length->(kW (oT l i).Q k).size<=30)->Vt (oT l i)):=λW U h3 h4 h5=>⟨⟨W,U,h3⟩,h4,h5⟩
   clear z HP HG hp hq HF;generalize (oT l i).P=P at *;generalize (oT l i).Q=R at *;generalize (oT l i).D.length=ld at *;generalize aj:P.length=lp at *;generalize af:R.length=lr at *;clear aj af;by_cases W:lp<=10
   ·have e1:decide ((10:Int)<(lp:Int))=false:=aS (by omega)
    by_cases U:lr<=10
    ·have e2:decide ((10:Int)<(lr:Int))=false:=aS (by omega)
     by_cases h3:ld<=900
     ·have e3:decide ((900:Int)<(ld:Int))=false:=aS (by omega)
      go_wp2_with fail;go_loopg [6] lp (λgh s6 wx=>∃k:Nat,k+gh=lp/\s6= .int .i64 (k:Int)/\wr=wx/\Hid (∀j,j<k->(kW P j).size<=30))
      case atStart=>exact⟨0,by omega,rfl,rfl,λj hj=>by omega⟩
      case round=>
       obtain⟨k,hk,rfl,rfl,HI⟩:=hrel;cases gk with
       |succ g2=>
        have Iz:k<lp:=by omega
        have Bp:(k:Int)<(lp:Int):=by omega
        have dt:(0:Int)<=(k:Int):=by omega
        obtain⟨gp,V,rfl,d1⟩:=A0.out k Iz;by_cases G:(kW P k).size<=30
        ·have e4:decide ((30:Int)<((kW P k).size:Int))=false:=aS (by omega)
         have Y6:Hid (∀j,j<k+1->(kW P j).size<=30):=λj hj=>by
          by_cases e:j=k
          ·rw[e];exact G
          ·exact HI.out j (by omega)
         clear HI mI KY A0 GF G;generalize kW P k=nk at *;go_wp2_with fail;go_roundg g2;case measure=>omega
         case rel=>exact⟨k+1,by omega,by go_num,rfl,Y6.out⟩
        ·have e4:(30:Int)<((kW P k).size:Int):=by omega
         clear HI mI KY A0 GF G;generalize kW P k=nk at *;go_wp2_with fail
         first|exact J.out|(go_ret;exact J.out)
       |zero=>
        obtain rfl:k=lp:=by omega
        have aI:¬(k:Int)<(k:Int):=by omega
        go_wp2_with fail;go_loopg [7] lr (λgh s7 wx=>∃q:Nat,q+gh=lr/\s7= .int .i64 (q:Int)/\wr=wx/\Hid (∀j,j<q->(kW R j).size<=30))
        case atStart=>exact⟨0,by omega,rfl,rfl,λj hj=>by omega⟩
        case round=>
         obtain⟨q,aK,rfl,rfl,HJ⟩:=hrel;cases gk with
         |succ g3=>
          have ah:q<lr:=by omega
          have aJ:(q:Int)<(lr:Int):=by omega
          have aA:(0:Int)<=(q:Int):=by omega
          obtain⟨gq,oq,rfl,d1⟩:=GF.out q ah;by_cases G:(kW R q).size<=30
          ·have e4:decide ((30:Int)<((kW R q).size:Int))=false:=aS (by omega)
           have ai:Hid (∀j,j<q+1->(kW R j).size<=30):=λj hj=>by
            by_cases e:j=q
            ·rw[e];exact G
            ·exact HJ.out j (by omega)
           clear HI HJ mI KY A0 GF G;generalize kW R q=nk at *;go_wp2_with fail;go_roundg g3;case measure=>omega
           case rel=>exact⟨q+1,by omega,by go_num,rfl,ai.out⟩
          ·have e4:(30:Int)<((kW R q).size:Int):=by omega
           clear HI HJ mI KY A0 GF G;generalize kW R q=nk at *;go_wp2_with fail
           first|exact J.out|(go_ret;exact J.out)
         |zero=>
          obtain rfl:q=lr:=by omega
          have Rm:=au (mI.out (KY.out W U h3 HI.out HJ.out));clear HI HJ mI KY A0 GF;go_wp2_with fail;go_roundg gg;case measure=>omega
          case rel=>exact⟨i+1,by omega,by omega,by go_num,rfl,Rm.out⟩
     ·have e3:(900:Int)<(ld:Int):=by omega
      clear mI KY A0 GF;go_wp2_with fail
      first|exact J.out|(go_ret;exact J.out)
    ·have e2:(10:Int)<(lr:Int):=by omega
     clear mI KY A0 GF;go_wp2_with fail
     first|exact J.out|(go_ret;exact J.out)
   ·have e1:(10:Int)<(lp:Int):=by omega
    clear mI KY A0 GF;go_wp2_with fail
    first|exact J.out|(go_ret;exact J.out)
theorem Live.le{z:World}{f gn gl gf:Nat}{X:List Int}{n m:Int}(h:Live z f b gn gl gf M X n w)(hm:n<=m):Live z f b gn gl gf M X m w:=by
 obtain⟨G,V,⟨d,hd,J⟩,W,U,h6⟩:=h;exact⟨G,V,⟨d,⟨hd.1,by omega⟩,J⟩,W,U,h6⟩
def R4 (h:World) (f b gn gl gf:Nat) (D:List Int) (n:Int) (w:World):Prop:=(∃X,Live h f b gn gl gf (fA D) X n w)/\D.length<=832/\∀x∈D,0<=x/\x<256
section
variable {W0 w:World} {f b gn gl gf:Nat} {D:List Int} {n:Int} {vp vq vd:Value}
theorem R4.keep(h:R4 W0 f b gn gl gf D n w){w':World}{l:List Nat}(z:az l w w')(U:∀y∈l,W0.heap.size<=y/\y∉[f,b,gn,gl,gf]):R4 W0 f b gn gl gf D n w':=by
 obtain⟨⟨X,G⟩,J⟩:=h;exact⟨⟨X,G.keep z U⟩,J⟩
def WrP (W0 w:World) (f b gn gl gf:Nat) (D:List Int) (n:Int) (o:Int) (x:List Int) (e:Ending) (w':World):Prop:=
 ∃r Z,e= .returned (.agg Z)/\uG w.heap.size w' r Z/\az [b,gn,gl,gf] w w'/\((r.E≠0/\R4 W0 f b gn gl gf D (n+3000) w')\/(r.E=0/\(0<=o/\o+x.length<=832)/\R4 W0 f b gn gl gf (KJ D o x) (n+3000) w'))
theorem Vu (h:R4 W0 f b gn gl gf D n w)(hT:kg W0)(hn:n<=1000000000){o:Int}{x:List Int}(hI:zS w (opW o x) vp vq vd):
  Calls prog 10 #[.pointer (some ⟨f,0,none⟩),.agg (Gs (opW o x) vp vq vd)] w (WrP W0 w f b gn gl gf D n o x):=by
 obtain⟨⟨X,hl⟩,h2,V⟩:=h;refine(uI (QD _ rfl) hl hT hn hI).mono ?_;rintro e w' ⟨r,Z,rfl,h4,h5,⟨U,J,-⟩|⟨U,J,-,X',h8⟩⟩
 ·exact⟨r,Z,rfl,h4,h5,.inl ⟨U,⟨X,J.le (by omega)⟩,h2,V⟩⟩
 ·obtain⟨e1,e2,W⟩:=YT D o x J
  rw[e1] at h8;refine⟨r,Z,rfl,h4,h5,.inr ⟨U,⟨e2,W⟩,⟨X',h8⟩,abX h2 e2 W,λy G=> ?_⟩⟩;unfold KJ at G;split at G
  ·exact V y G
  ·rcases Ja G with z|z|z
   ·exact V y z
   ·rw[z];omega
   ·exact hI.ds y z
def StP (W0 w:World) (f b gn gl gf:Nat) (D:List Int) (n:Int) (h:Option lX) (e:Ending) (w':World):Prop:=
 ∃r Z,e= .returned (.agg Z)/\uG w.heap.size w' r Z/\az [b,gn,gl,gf] w w'/\R4 W0 f b gn gl gf D (n+3000) w'/\∀q,h=some q->r=q
theorem Y7 (h:R4 W0 f b gn gl gf D n w)(hT:kg W0)(hn:n<=1000000000){k m:Int}(J:k=11\/(k=12/\m=0))(hI:zS w (ZG k m) vp vq vd):
  Calls prog 10 #[.pointer (some ⟨f,0,none⟩),.agg (Gs (ZG k m) vp vq vd)] w (StP W0 w f b gn gl gf D n none):=by
 obtain⟨⟨X,hl⟩,V,h3⟩:=h;have hM:(oV (fA D) (ZG k m)).1=fA D:=by
  rcases J with rfl|⟨rfl,rfl⟩
  ·exact ad7 D m
  ·exact abU D
 have z:p7 (fA D) (ZG k m):=by
  rcases J with rfl|⟨rfl,rfl⟩
  ·exact Y4 _ rfl
  ·exact Vs _ rfl
 refine(uI z hl hT hn hI).mono ?_;rintro e w' ⟨r,Z,rfl,h4,W,⟨h6,U,-⟩|⟨h6,U,-,X',h8⟩⟩
 ·exact⟨r,Z,rfl,h4,W,⟨⟨X,U.le (by omega)⟩,V,h3⟩,λq G=>by cases G⟩
 ·rw[hM] at h8
  exact⟨r,Z,rfl,h4,W,⟨⟨X',h8⟩,V,h3⟩,λq G=>by cases G⟩
theorem NY (h:R4 W0 f b gn gl gf D n w)(hT:kg W0)(hn:n<=1000000000){k m:Int}{q:lX}(hk:k=3\/k=10)(hd:oV (fA D) (RV k m)=(fA D,q))(hq:q.E=0)(hI:zS w (RV k m) vp vq vd):
  Calls prog 10 #[.pointer (some ⟨f,0,none⟩),.agg (Gs (RV k m) vp vq vd)] w (StP W0 w f b gn gl gf D n (some q)):=by
 obtain⟨⟨X,hl⟩,h2,h3⟩:=h;have V:p7 (fA D) (RV k m):=by
  rcases hk with rfl|rfl
  ·exact Vq _ rfl
  ·exact Vr _ rfl
 refine(uI V hl hT hn hI).mono ?_;rintro e w' ⟨r,Z,rfl,h4,h5,⟨U,h7,⟨-,-,G,-⟩|G⟩|⟨U,h7,G,X',W⟩⟩
 ·exfalso
  have :CB k=false:=by rcases hk with rfl|rfl<;>rfl
  have J:CB k=true:=G;rw[this] at J;cases J
 ·rw[hd] at G
  rw[G] at U;exact absurd hq U
 ·rw[hd] at W G
  refine⟨r,Z,rfl,h4,h5,⟨⟨X',W⟩,h2,h3⟩,λp hp=> ?_⟩;cases hp;rcases G with z|⟨z,-⟩
  ·exact z
  ·have aa:k=12:=z
   omega
end
section
variable {P:Program} {ops:Array Oper} {Q:Exit->Act->World->Prop} {S:Bool->World->Prop}
theorem Jt {o:Oper}{rest:List Oper}{i:Nat}{a:Act}{w:World}(z:ops[i]? =some o)(h:wpList P ops Q (o::rest) a w):wpOp P ops Q i (wpList P ops Q rest) a w:=by
 unfold Go.wpOp;simp only[z];unfold wpList at h;exact h
theorem DY {id:Nat}{a:Act}{w:World}{l tl:List Oper}{o f:Oper}(hm:P.follows .mixedOrders=true)(av:Region.noSelect ops=true)(o6:ops.toList=l++(o::f::tl))
  (hp:Q7 .any ops (l.length+1) l.length (df ops.size 0) (List.range l.length)=true) (hl:l=(List.range l.length).filterMap (λi=>ops[i]?)) (hd:oO (df ops.size 0) (List.range l.length)=df ops.size l.length)
  (aa:Region.ready .any ops (df ops.size l.length)=[l.length,l.length+1]) (ae:Region.ready .any ops ((df ops.size l.length).setIfInBounds (l.length+1) true)=[l.length])
  (aj:((List.range (tl.length+1)).all λk=>Region.ready .any ops (df ops.size (l.length+1+k)) == [l.length+1+k])=true) (ag:Region.ready .any ops (df ops.size ops.size)=[])
  (ah:(df ops.size l.length).getD (l.length+1) false=false) (af:((df ops.size l.length).setIfInBounds (l.length+1) true).getD (l.length+1) false=true)
  (ar:((df ops.size l.length).setIfInBounds (l.length+1) true).setIfInBounds l.length true=df ops.size (l.length+2))
  (hQ:∀d v c a w,Q (.panic c) (Act.put a d v) w->Q (.panic c) a w) (G:S ((df ops.size 0).getD (l.length+1) false) w.drew)
  (h:fG P ops S (λa=>(∃v,Ap P ops (S false) (S true) f v a/\∀w,S true w->wpList P ops Q (o::tl) (a.put f.dst v) w)/\∀w,S false w->wpList P ops Q (o::f::tl) a w) l a):(Code.region id ops true).wp P Q a w:=by
 have ax:ops.size=l.length+(tl.length+2):=by rw[<-dm,o6];simp
 have z:∀k,ops[k]? =(l++(o::f::tl))[k]? :=λk=>by rw[<-o6,dw]
 have ho:ops[l.length]? =some o:=by rw[z,aQ (aI _),jH];rfl
 have hf:ops[l.length+1]? =some f:=by rw[z,aQ (by omega),cY];rfl
 have ai:∀k,k<tl.length->ops[l.length+2+k]? =tl[k]? :=λk _=>by
  rw[z,aQ (by omega),show l.length+2+k-l.length=k+2 by omega,cX,cX]
 have kJ:=uX aj;rw[show l.length+1+(tl.length+1)=ops.size by omega] at kJ;refine jn hm ?_;rw[<-kj];refine mB (S:=S) (F:=l.length+1) (L:=l.length) _ _ _ ?_ _ G;have au:xf .any ops (df ops.size 0):=by
  intro k o ho hl;rw[kj] at hl;have hk:k<ops.size:=(Array.getElem?_eq_some_iff.1 ho).1;simp[hk] at hl
 have hn:ops.size=(tl.length+2)+(List.range l.length).length:=by rw[eN];omega
 have ac:=aeU (md:= .any) (Q:=Q) (S:=S) (F:=l.length+1) (L:=l.length) av hQ (E:=λa=>(∃v,Ap P ops (S false) (S true) f v a/\∀w,S true w->wpList P ops Q (o::tl) (a.put f.dst v) w)/\∀w,S false w->wpList P ops Q (o::f::tl) a w) (tl.length+2) (df ops.size l.length) (λa h=>by
  obtain⟨⟨v,ak,J⟩,U⟩:=h;refine⟨λh0=>(by rw[aa] at h0;cases h0),λi W V w G=> ?_,λ_ w G=> ?_⟩
  ·rw[aa] at W
   simp only[aP,aM,bz] at W;obtain rfl:i=l.length+1:=W.resolve_left V;rw[ah] at G;refine ak.wpOp hf G λw' Ze=> ?_
   rw[af];refine⟨Ze,λh0=>(by rw[ae] at h0;cases h0),λi W V=> ?_,λ_ w G=> ?_⟩
   ·rw[ae,ay] at W
    exact absurd W V
   ·rw[af] at G
    rw[ar];refine wpOp_mono (λa' w' h'=> ?_) (Jt ho (J w G));have :=Ar (md:= .any) tl (l.length+2) a' w' (by omega) ai (λj hj QV=>kJ j (by omega) QV) ag h';rwa[show ops.size-(l.length+2)=tl.length by omega] at this
  ·rw[ah] at G
   rw[lO];refine wpOp_mono (λa' w' h'=> ?_) (Jt ho (U w G));have :=Ar (md:= .any) (f::tl) (l.length+1) a' w' (by rw[bQ];omega) (λk hk=>by
    cases k with
    |zero=>exact hf
    |succ k=>rw[show l.length+1+(k+1)=l.length+2+k by omega,ai k (by simpa using hk),cX]) (λj hj QV=>kJ j (by omega) QV) ag h'
   rwa[show ops.size-(l.length+1)=tl.length+1 by omega] at this) (List.range l.length) l (df ops.size 0) a au hp hd hl (by rw[eN]) h
 rw[<-hn] at ac;exact ac
end
structure DZ (W0:World) (f b gn gl gf ga gw:Nat) (D W:List Int) (n:Int) (wx:World):Prop where
 lv:R4 W0 f b gn gl gf D n wx
 nm:jg wx (.slice (some ⟨ga,0,none⟩) 1 1) ga [Ef]
 wt:bh wx gw (jL W).toArray 5
 ge:W0.heap.size<=ga/\W0.heap.size<=gw
 off:ga∉[f,b,gn,gl,gf]/\gw∉[f,b,gn,gl,gf]/\ga≠gw
section
variable {W0 w w':World} {f b gn gl gf ga gw:Nat} {D W:List Int} {n:Int}
theorem DZ.keep(h:DZ W0 f b gn gl gf ga gw D W n w){l:List Nat}(J:az l w w')(G:∀y∈l,W0.heap.size<=y/\y∉[f,b,gn,gl,gf,ga,gw]):DZ W0 f b gn gl gf ga gw D W n w':=
 ⟨h.lv.keep J (λy U=>⟨(G y U).1,λz=>(G y U).2 (by simp only[aP,aM,bz] at z ⊢;omega)⟩),h.nm.keep J (λz=>(G _ z).2 (by simp)),h.wt.keep J (λz=>(G _ z).2 (by simp)),h.ge,h.off⟩
theorem DZ.keep0(h:DZ W0 f b gn gl gf ga gw D W n w)(z:az [] w w'):DZ W0 f b gn gl gf ga gw D W n w':=h.keep z (by simp)
theorem DZ.go(h:DZ W0 f b gn gl gf ga gw D W n w){J:List Int}{m:Int}(G:az [b,gn,gl,gf] w w')(U:R4 W0 f b gn gl gf J m w'):DZ W0 f b gn gl gf ga gw J W m w':=
 ⟨U,h.nm.keep G (λz=>h.off.1 (eQ _ z)),h.wt.keep G (λz=>h.off.2.1 (eQ _ z)),h.ge,h.off⟩
theorem DZ.keeps(h:DZ W0 f b gn gl gf ga gw D W n w):az [] W0 w:=by
 obtain⟨⟨X,z⟩,-⟩:=h.lv;exact z.keeps
theorem DZ.le(h:DZ W0 f b gn gl gf ga gw D W n w){m:Int}(G:n<=m):DZ W0 f b gn gl gf ga gw D W m w:=by
 obtain⟨⟨⟨X,z⟩,J⟩,h3,U,V,h6⟩:=h;exact⟨⟨⟨X,z.le G⟩,J⟩,h3,U,V,h6⟩
theorem DZ.turn(h:DZ W0 f b gn gl gf ga gw D W n w)(U:kg W0)(G:n<=1000000000){k m:Int}(z:k=11\/(k=12/\m=0)):
  Calls prog 10 #[.pointer (some ⟨f,0,none⟩),.agg #[.int .i64 k,.slice none 0 0,.slice none 0 0,.int .i64 0,.int .i64 m,.slice none 0 0]] w λe w'=>∃Z,e= .returned (.agg Z)/\Hid (DZ W0 f b gn gl gf ga gw D W (n+3000) w'):=by
 have V:zS w (ZG k m) (.slice none 0 0) (.slice none 0 0) (.slice none 0 0):=⟨⟨0,nM _ _⟩,by simp[ZG],⟨0,nM _ _⟩,by simp[ZG],⟨0,nK _ _⟩,by simp[ZG]⟩;refine(Y7 h.lv U G z V).mono ?_;rintro e w' ⟨r,Z,rfl,-,J,h3,-⟩;exact⟨Z,rfl,h.go J h3⟩
theorem DZ.fresh(h:DZ W0 f b gn gl gf ga gw D W n w){y:Nat}(V:w.heap.size<=y):W0.heap.size<=y/\y∉[f,b,gn,gl,gf,ga,gw]:=by
 obtain⟨⟨X,z⟩,-⟩:=h.lv;obtain⟨d,hd,J⟩:=z.pm;have ho:=J.old (by show X.length≠0;have :=z.ws.len;omega);have h1:=z.fs.lt;have h2:=h.wt.lt;have h3:ga<w.heap.size:=by
  obtain⟨_,_,_,_,_,G⟩:=h.nm;exact(G (by simp)).1
 have h4:=z.keeps.size;refine⟨by omega,λU=> ?_⟩;simp only[aP,aM,bz] at U;omega
end
theorem Ju{xs:List Value}{l:List Nat}(h:Reads w v g xs)(G:az l w w')(hl:xs≠[]->g∉l):Reads w' v g xs:=by
 obtain⟨a,cap,e,U,W,h3⟩:=h;refine⟨a,cap,e,U,W,λJ=> ?_⟩;obtain⟨z,off,h5,h6⟩:=h3 J;refine⟨bL z G.size,off,h5,λj V=> ?_⟩;rw[aO (w:=w) (G.block g z (hl J))];exact h6 j V
theorem QE{h:Nat}(J:D.length<=832)(G:bh w h (jL (nI D 832)).toArray 5):Reads w (.slice (some ⟨h,0,none⟩) D.length 832) h (jL D):=by
 refine⟨_,832,by rw[fF],by rw[fF];exact J,by unfold maxLen;omega,λ_=>⟨G.lt,0,rfl,λj z=> ?_⟩⟩;rw[fF] at z;rw[G.cell,aX,aF,QK (by rw[oW];omega),QK z,Bf _ _ (by omega)]
end Go.Proofs.YtepbpdipenedhaaGreatDoor
