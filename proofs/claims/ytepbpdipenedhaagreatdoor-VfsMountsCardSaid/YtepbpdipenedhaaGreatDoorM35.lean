/- Lemmas. -/
import Derived.Test.YtepbpdipenedhaaGreatDoorM34
set_option maxHeartbeats 2000000
set_option maxRecDepth 100000
namespace Go.Proofs.YtepbpdipenedhaaGreatDoor
open Go.Proofs.Tryz
open Go.RowKit
section
variable{w w':World}{b f g gf gl gn gp:Nat}{T:World->Prop}{B:List Int}{own:Nat->List Nat}{M:Nat->Nd}{v:Value}{s:iV}{ks:List Nat}{F:Int->World->Prop}{D z:Int}
theorem Pt (b f t:Nat)(W:f<=t)(V:t<=832)(w:World):∃off,(Instr.sliceAt 157 (.pointer (some ⟨b,0,none⟩)) (some (.int .i64 (f:Int))) (some (.int .i64 (t:Int))) none).run prog w= .ok (.slice (some ⟨b,off,none⟩) (t-f) (832-f)) w/\(f<t->off=f):=by
 have J:∀w,(sizeOf (prog.elem 157)).run prog w= .ok 1 w:=λw=>by show Sem.run _ _ _=_;kernel_rfl
 have G: prog.arrayLen 157 =832:=by kernel_rfl
 have z:=run_sliceAt_array_lh (P:= prog) w 157 ⟨b,0,none⟩ (by kernel_rfl) .i64 .i64 (f:Int) (t:Int) (by omega) (by omega) (by rw[G];omega);rw[J,G,aG,aG] at z;by_cases h:f=832
 ·refine⟨0,?_,λU=>by omega⟩
  rw[z];subst h;show Result.ok (Value.slice (some (if 832=832 then _ else _)) (t-832) (832-832)) w=_;rw[aB rfl]
 ·refine⟨f,?_,λ_=>rfl⟩
  rw[z];show Result.ok (Value.slice (some (if 832=f then _ else _)) (t-f) (832-f)) w=_;rw[aA,iK,add_plain,bc]
theorem acG{T off t:Nat}{C:List Int}(z:bh w g (kT C).toArray T)(V:C.length=832)(h1:f<=t)(W:t<=832)(J:f<t->off=f):Reads w (.slice (some ⟨g,off,none⟩) (t-f) (832-f)) g (kT ((C.drop f).take (t-f))):=by
 have h:((C.drop f).take (t-f)).length=t-f:=by rw[aJ,bM];omega
 refine⟨_,832-f,by rw[fG,h],by rw[fG,h];omega,by unfold maxLen;omega,λU=>⟨z.lt,off,rfl,λj G=> ?_⟩⟩;rw[fG,h] at G;obtain rfl:=J (by omega);rw[z.cell,aF];simp only[kT,bJ,bU,b8];rw[aB G]
theorem Pu{T:List (bT×Value)}(h:rB w b gp B [] T own [] M)(hT:dw M){o:jB}{vp vq vd:Value}{g:Nat}(hP:gN w vp g o.P)(hs:∀s∈o.P,s.size<=9223372036854775807)(hK:o.K=3):
  Calls prog 56 #[cA b o vp vq vd] w (fE w b gp B (lu B M o)):=by
 obtain⟨W,hW,cJ,jR,jP,ax⟩:=mH w (cA b o vp vq vd) (zI fy (.slice none 0 0) (.slice none 0 0));obtain⟨qT,oh,lU⟩:=hh3 (zt (vq:=vq) (vd:=vd) (h.keep0 cJ) hT (hP.keep cJ (by simp)) hs) (xd h hT cJ jR jP rfl ax) ax;have qd:Hid (∀G,ay [] W G->G.cell? ⟨w.heap.size,4,none⟩=some (.int .i64 o.O)/\G.cell? ⟨w.heap.size,5,none⟩=some (.int .i64 o.N)):=λG hk=>by
  have h1:=jR.keep hk (by simp);exact⟨by rw[h1.cell];rfl,by rw[h1.cell];rfl⟩
 have lY:Hid (∀G,ay [] W G->(loadVar 79 w.heap.size).run prog G= .ok (.agg (cA b o vp vq vd)) G):=λG hk=>jJ (jR.keep hk (by simp))
 have ub:Hid ((cZ M o.P).2≠0->(kF M o).2=cV (cZ M o.P).2):=Ic (.inr (.inl hK));have rO:Hid ((cZ M o.P).2=0->o.O<0\/o.N<0->(kF M o).2=cV 1):=λhe hn=>by rw[Kw hK he,aB hn]
 have ou:Hid ((cZ M o.P).2=0->(nT T (cZ M o.P).1).B.length=13/\0<=(nT T (cZ M o.P).1).S/\(nT T (cZ M o.P).1).S<=832):=λhe=>by
  obtain⟨f1,f2,f3,f4,f5,f6,f7⟩:=mX h hT he;exact⟨f2,f6,f7⟩
 have Lg:Hid ((cZ M o.P).2=0->∀z,ay [] W z->∀v:Value,Calls prog 106 #[cA b o vp vq vd,aM (nT T (cZ M o.P).1) v] z λe w'=>e=(kT (iT (az B []) (nT T (cZ M o.P).1))).toArray/\ay [] z w'):=λhe z hk v=>by
  obtain⟨f1,f2,f3,-⟩:=mX h hT he;have aU:=hk.size;have :=h.lt;exact xg (h.sh.keep (cJ.trans' hk) (by simp) (by simp)) (by omega) h.nd.st.w64 f2 f3 o vp vq vd v
 have Im:Hid ((iT (az B []) (nT T (cZ M o.P).1)).length=832):=(kP _ _).1;have ai:Hid ((cZ M o.P).2=0->∀a t:Nat,0<=o.O->0<=o.N->min o.O (nT T (cZ M o.P).1).S=(a:Int)->(a:Int)+min o.N ((nT T (cZ M o.P).1).S-(a:Int))=(t:Int)->
   ∀G v gd,ay [] W G->Reads G v gd (kT (((iT (az B []) (nT T (cZ M o.P).1)).drop a).take (t-a)))->(((iT (az B []) (nT T (cZ M o.P).1)).drop a).take (t-a)≠[]->W.heap.size<=gd)->
   vS (w.heap.size+1) #[(0:Int),(0:Int),(0:Int),(0:Int),(0:Int),v,()] (fE w b gp B (lu B M o)) G):=λhe a t hO hN ha ht G v gd hk hr aK=>by
  obtain⟨f1,f2,f3,f4,f5,f6,f7⟩:=mX h hT he;have Sk:=WG (X:=az B []) (n:=nT T (cZ M o.P).1) hO hN f6 f7 ha ht;rw[Sk] at hr aK;obtain⟨wy,s1,s2,s3,s4⟩:=aaB (n:=w.heap.size) jP rfl hk hr (λak=>by have :=aK ak;omega);refine⟨wy,s1,s2,fE.noneAt h ((cJ.trans' hk).trans s4 (by intro y hy;rw[au] at hy;omega)) s3 ?_⟩;have hd:=Kw hK he;rw[aA] at hd;have hD:(M (cM M o.P).1).D=qc (az B []) (nT T (cZ M o.P).1):=by
   rw[<-f5];exact(h.nd.fileAt f1).2.2.2.2.2.1
  refine .inr (.inr ⟨rfl,by rw[hd];rfl,.inl (by rw[hd,hD]),by rw[hd];exact h.nd.stay⟩)
 have Gj:=l6;have rG:=dz;have jV:=ar oh.out.err;clear h hT hP hs cJ jR jP ax hK oh;unfold AR at qT;rw[lN] at *;generalize fE w b gp B (lu B M o)=Q,cA b o vp vq vd=J,kF M o=DM,o.N=N,o.O=O,aL:aM cg (.slice none 0 0)=Z0 at *;have jt:=ar aL;clear aL;generalize cZ M o.P=F at *;obtain⟨x,ee⟩:=F
 dsimp only at *
 generalize iT (az B []) (nT T x)=CL at *;have ju:=ar (lY.out W (ay.refl _ _));go_in;go_wp2_with(with_reducible refine gL 79 ju.out ?_);refine qT.out.mono ?_;rintro e w1 ⟨aa,⟨he,rfl⟩|⟨rfl,v,g,rfl,hE,hg⟩⟩
 ·obtain⟨z,q1,q2,q3⟩:=cu (n:=cg) (v:= .slice none 0 0) (bh.new w1 Z0 111) (by rw[<-jt.out];rfl) rfl rfl
  have eV:ay [] w1 z:=((ay.refl _ _).alloc _).trans q3 (by intro x hx;rw[au] at hx;omega);obtain⟨wy,s1,s2,s3⟩:=jV.out ee he (ub.out he) z (aa.trans' eV);rw[jt.out] at q1;obtain⟨jz,HS,HL,HF⟩:=hh4 q1 s1 s2 s3;have b1:(ee != 0)=true:=by simpa using he
  clear hW q1 q2 q3 aa eV s1 s2 s3 he jV ub rO ou Lg Im ai qT qd lY ju lU jt;go_wp2_with(with_reducible first|refine gS 111 jz.out ?_|refine gS 34 HS.out ?_);exact aI (bA results56 rfl HL.out) rfl HF.out
 ·obtain⟨V,aC,aH⟩:=ou.out rfl
  obtain⟨Ep,ac,ae⟩:=hh3 (rO.out rfl) (Lg.out rfl) (ai.out rfl);clear ub rO Lg ai ou;generalize nT T x=n,(x:Int)=xi at *;obtain⟨z,q1,q2,q3⟩:=cu (n:=n) (v:=v) (bh.new w1 Z0 111) (by rw[<-jt.out];rfl) V hE.one;have eV:ay [] w1 z:=((ay.refl _ _).alloc _).trans q3 (by intro x hx;rw[au] at hx;omega);have kp:=aa.trans' eV;obtain⟨jz,vV⟩:=hh2 q1 (lY.out z kp);obtain⟨c1,c2⟩:=qd.out z kp;by_cases af:O<0
  ·obtain⟨wy,s1,s2,s3⟩:=jV.out 1 (by omega) (Ep.out (.inl af)) z kp
   obtain⟨HS,HL,HF⟩:=hh3 s1 s2 s3;have b2:decide (O<0)=true:=bu af;clear hW q1 q2 q3 aa eV kp s1 s2 s3 jV Ep ac ae Im qT qd lY ju lU jt hE hg V vV aC aH;generalize aM n v=Zn at *;go_wp2_with(with_reducible first|refine gS 111 jz.out ?_|refine gS 34 HS.out ?_);exact aI (bA results56 rfl HL.out) rfl HF.out
  ·by_cases XK:N<0
   ·obtain⟨wy,s1,s2,s3⟩:=jV.out 1 (by omega) (Ep.out (.inr XK)) z kp
    obtain⟨HS,HL,HF⟩:=hh3 s1 s2 s3;have b2:decide (O<0)=false:=aQ af;have b3:decide (N<0)=true:=bu XK;clear hW q1 q2 q3 aa eV kp s1 s2 s3 jV Ep ac ae Im qT qd lY ju lU jt hE hg V vV aC aH;generalize aM n v=Zn at *;go_wp2_with(with_reducible first|refine gS 111 jz.out ?_|refine gS 34 HS.out ?_);exact aI (bA results56 rfl HL.out) rfl HF.out
   ·have aV:z.cell? ⟨w1.heap.size,3,none⟩=some (.int .i64 n.S):=by rw[q2.cell];exact(gG v V).f3
    obtain⟨a,ha⟩:∃a:Nat,min O n.S=(a:Int):=⟨(min O n.S).toNat,by omega⟩;obtain⟨t,ht⟩:∃t:Nat,(a:Int)+min N (n.S-(a:Int))=(t:Int):=⟨((a:Int)+min N (n.S-(a:Int))).toNat,by omega⟩;have aO:a<=t/\t<=832:=by omega
    have b2:decide (O<0)=false:=aQ af;have b3:decide (N<0)=false:=aQ XK;have aS:IntKind.i64.wrap (n.S-(a:Int))=n.S-(a:Int):=by rw[cz];omega
    have aP:IntKind.i64.wrap (t:Int)=(t:Int):=by rw[cz];omega
    obtain⟨aD,aG,I3,nL,U⟩:=hh5 (ae.out a t (by omega) (by omega) ha ht) (b9 q2 V) (ac.out z kp v) kp aO;obtain⟨Z8,av⟩:∃Z8,(kT (List.replicate 832 0)).toArray=Z8:=⟨_,rfl⟩;have aR:=zw;rw[av] at aR;have xJ:Hid (Z8.size=832):=by rw[<-av];unfold Hid;rw[bN,fG,bE]
    clear av hW q1 q2 q3 aa eV kp jV Ep ac ae qT qd lY ju jt hE hg V aO;generalize aM n v=Zn,n.S=S at *;go_wp2_with(with_reducible first|refine gS 111 jz.out ?_|refine gL 79 vV.out ?_|refine gL 111 aG.out ?_);refine Rr I3.out λw4 aj=> ?_;obtain⟨w5,q1,q2,q3⟩:=bH (P:= prog) (ty:= 157) (cs:=kT CL) (by rw[fG,Im.out];exact vW) (bh.new w4 Z8 157) (by rw[fG,Im.out,xJ.out]) (xe _);obtain⟨off,aT,ag⟩:=Pt w4.heap.size a t U.out.1 U.out.2 w5;have RU:ay [] z w5:=((aj.alloc (.cells Z8 157))).trans q3 (by intro x hx;rw[au] at hx;have :=aj.size;omega);have EK:=acG q2 Im.out U.out.1 U.out.2 ag;have Mi:((CL.drop a).take (t-a)).length<=10000:=by rw[aJ];have :=U.out;omega
    obtain⟨Mo,rz,aF⟩:=hh3 (WC EK Mi) q1 RU;generalize (CL.drop a).take (t-a)=dd at *;generalize t-a=ta,832-a=ca at *;clear q1 q2 q3 aj RU EK Mi ag I3 aG vV jz xJ Im U ha ht aS aP;generalize (kT CL).toArray=ZC at *;go_wp2_with(first|(with_reducible refine gS 157 rz.out ?_));refine Mo.out.mono ?_;rintro e w6 ⟨v6,g6,rfl,ah,aN,jW⟩;obtain⟨a6,c6,rfl,-,-⟩:=ah.val;obtain⟨wy,s1,s2,s3⟩:=aD.out w6 _ g6 (nL.out.trans' (aF.out.trans' jW)) ah.reads (λak=>by
     have h1:=(aN (λe=>ak (bo e))).1;have h2:=(nL.out.trans' aF.out).size;omega)
    obtain⟨HS,HL,HF⟩:=hh3 s1 s2 s3;clear s1 s2 s3 ah aN jW aD Mo;go_wp2_with(with_reducible refine gS 34 HS.out ?_);exact aI (bA results56 rfl HL.out) rfl HF.out
section
variable {X:List Int} {T:List (bT×Value)} {own:Nat->List Nat} {M:Nat->Nd}
theorem acH (h:nM X T own [] M){i:Nat}(hK:(M i).K=1){o m:Nat}(ho:o+m<=832)(pq:(fJ (nT T i).B (o/64) (bL (o+m))).length<=(aZ X).length):lF (Tk X (nT T i) o m).B/\(Tk X (nT T i) o m).B.length=13:=by
 obtain⟨aA,hk,hf,ht,hi,hd,hB⟩:=h.fileAt hK;have hS:=hf.1;have ah:bL (o+m)<=13:=by unfold bL;omega
 generalize hn:nT T i=n at *;generalize Rs:fJ n.B (o/64) (bL (o+m))=z at *;have aa:∀k,k∈z↔k<bL (o+m)/\o/64<=k/\n.B.getD k 0=0:=λk=>by rw[<-Rs];exact zk
 have Fk:z.Nodup:=by rw[<-Rs];exact Ei _ _ _
 have aB:z.length<=13:=by rw[<-Rs];exact cE (vR _ _ _) ah
 have V:=h.opened hi;rw[hn] at V;obtain⟨t1,t2,t3,t4,t5⟩:=V.st.take z.length;have Zu:=V.step t1 t2 (by simp);have ae:∀c∈(aZ X).take z.length,c≠0/\c<256:=qy;have Mi:((aZ X).take z.length).Nodup:=sB;have ar:∀c∈(aZ X).take z.length,dF X c=false:=λc hc=>(kx.1 (bO hc)).2.2
 have ac:((aZ X).take z.length).length=z.length:=by rw[aJ];omega
 have hw:(Tk X n o m).B=jI n.B z ((aZ X).take z.length) z.length:=by unfold Tk;rw[Rs]
 rw[hw];clear hw;have ax:∀k,k∉z->(jI n.B z ((aZ X).take z.length) z.length).getD k 0=n.B.getD k 0:=λk G=>zn (aH _) (by rw[gy];exact G)
 have av:∀m,m<z.length->(jI n.B z ((aZ X).take z.length) z.length).getD (z.getD m 0) 0=((((aZ X).take z.length).getD m 0:Nat):Int):=λm hm=>LW Fk (λk G=>by have :=((aa k).1 G).1;omega) (aH _) hm
 have ak:=oF n.B z ((aZ X).take z.length) z.length;have au:=λb=>AP (l:=(aZ X).take z.length) hB Fk (λk G=>by have :=(aa k).1 G;exact⟨by omega,this.2.2⟩) ac (λc hc=>(ae c hc).1) b (j:=z.length) (aH _)
 have aI:og X (az X (dh X ((aZ X).take z.length))) 108:=og.puts (L:=uE++Eh ((aZ X).take z.length)) (by rw[aC,vQ,ac];simp[uE];omega) λp hp=>by
  rw[aT];rcases qD _ _ p hp with h6|h6
  ·exact .inl (sI h6)
  ·exact .inr (zh h6.1 h6.2)
 generalize hl:(aZ X).take z.length=l at *;generalize aF:az X (dh X l)=X1,aK:jI n.B z l z.length=B' at *;rw[aW (by omega)] at au
 -- what each place has
 have J:∀k,k<13->(B'.getD k 0=n.B.getD k 0/\k∉z)\/(n.B.getD k 0=0/\∃q,q<z.length/\z.getD q 0=k/\B'.getD k 0=((l.getD q 0:Nat):Int)/\l.getD q 0∈l):=λk G=>by
  by_cases hm:k∈z
  ·right
   obtain⟨m,WT,ag⟩:=bY hm;have W:z.getD m 0=k:=by rw[<-ag];simp[WT]
   refine⟨((aa k).1 hm).2.2,m,WT,W,by rw[<-W];exact av m WT,?_⟩;rw[aj,aD (by omega)];exact bG _
  ·exact .inl ⟨ax k hm,hm⟩
 have Eb:∀k,k<13->n.B.getD k 0≠0->(n.B.getD k 0).toNat∉l:=λk G hb hc=>by
  have h1:=ar _ hc;have h2:=V.st.usedEx (Hx hB G hb);rw[h1] at h2;cases h2
 have ai:lF B':=λk G=>by
  have hr:=mQ hf.2.2.2 G;rcases J k G with ⟨W,-⟩|⟨e0,m,hm,e2,W,JX⟩
  ·refine⟨by rw[W];exact hr,λU j hj=> ?_⟩
   rw[W] at U ⊢;rcases J j (by omega) with ⟨f1,-⟩|⟨-,m',-,-,f1,af⟩
   ·rw[f1];exact(hf.2.2.2 k G).2 U j hj
   ·rw[f1]
    intro e3;exact Eb k G U (by rw[<-e3,aG];exact af)
  ·have :=ae _ JX
   refine⟨by rw[W];omega,λU j hj=> ?_⟩;rw[W];rcases J j (by omega) with ⟨f1,-⟩|⟨-,m',ay,f2,f1,af⟩
   ·rw[f1]
    intro e3;exact Eb j (by omega) (by omega) (by rw[e3,aG];exact JX)
   ·rw[f1]
    intro e3;have e4:l.getD m' 0=l.getD m 0:=by omega
    rw[aj,aD (by omega),aj,aD (by omega)] at e4;have :=zm Mi _ _ e4;subst this;omega
 exact⟨ai,by rw[ak,hB]⟩
end
def aaC (w:World) (b z:Nat) (B:List Int) (c:Int) (R:mM->List (Int×Int)->Prop) (e:Ending) (G:World):Prop:=
 ∃r h,e=(r:Int)/\(storeVar 34 (w.heap.size+1:Nat) (.agg #[(r:Int),c,(0:Int),(0:Int),(0:Int),(),()])).run prog G= .ok () h/\(loadVar 34 (w.heap.size+1:Nat)).run prog h= .ok (.agg #[(r:Int),c,(0:Int),(0:Int),(0:Int),(),()]) h/\fE w b z B R (.returned (.agg #[(r:Int),c,(0:Int),(0:Int),(0:Int),(),()])) h
section
variable {w W:World} {b gp:Nat} {B:List Int} {T:List (bT×Value)} {own:Nat->List Nat} {M:Nat->Nd} {o:jB} {cur:Array Value}
theorem WH (h:rB w b gp B [] T own [] M)(cJ:ay [] w W)(jP:bh W (w.heap.size+1) cur 34)(hc:cur.size=7)(af:W.heap.size=w.heap.size+2){G:World}{ps:List (Int×Int)}(z:ay [b,gp] W G){J:Nat}(ah:J=gp\/(W.heap.size<=J/\J<G.heap.size))(aa:eK G b J B ps)(ae:ps.length<=2000)(V:In64 (az B ps)){i:Nat}{n:bT}{v:Value}(hB:n.B.length=13)(hE:n.E=[])(hr:bD G v 0 n.E){c:Int}
  (hR:∀r qs,nV (az B ps) (i:Int) n r qs->lu B M o { fy with E:=r,N:=c } (ps++qs)):
  Calls prog 49 #[b,(i:Int),aM n v] G (aaC w b gp B c (lu B M o)):=by
 have U:=h.lt;have ag:=z.size;have hT:∀wx,ay [b,J] G wx->lD wx:=Ip h.tab ((cJ.mono (by simp)).trans' z) (by omega);refine(sG aa V hT (by omega) (by omega) (i:Int) n v 0 hB hr (λk hk=>by rw[hE] at hk;simp at hk) (λh0=>by rw[hE] at h0;simp at h0)).mono ?_;rintro e w5 ⟨r,qs,ac,rfl,e1,e2,e3,e4,e5⟩;have ai:=e3.size;have kR:ay [b,gp] W w5:=z.trans e3 λx hx=>by
  simp only[aL,aK,bC] at hx ⊢;omega
 obtain⟨wy,s1,s2,s3,s4⟩:=yK (r:={ fy with E:=r,N:=c }) (Z:= #[.int .i64 r,.int .i64 c,.int .i64 0,.int .i64 0,.int .i64 0,.slice none 0 0,.slice none 0 0]) jP hc kR (eD U (by omega)) rfl rfl rfl;refine⟨r,wy,rfl,s1,s2,fE.some U cJ (by omega) (Rq:=λ_ q=>lu B M o { fy with E:=r,N:=c } q) (m:=2700) ⟨r,ps++qs,ac,rfl,by omega,by rw[bQ];exact e2,kR,by rw[aC];omega,hR r qs e5⟩ (by omega) s4 s3 λ_ hq=>hq⟩
theorem R5 (J:o.K=2)(z:(cZ M o.P).2=0){f:Nat}(U:o.O=(f:Int))(V:o.D≠[])(hf:f+o.D.length<=832){qs:List (Int×Int)}(G:Goes B qs [] (nv M (cZ M o.P).1 { M (cZ M o.P).1 with D:=xt (M (cZ M o.P).1).D f o.D }) 400):lu B M o { fy with E:=0,N:=(o.D.length:Int) } qs:=by
 have h:=tU J z;rw[aA,aA,aA V,U,aG] at h;rw[(pY z).2.2] at G;exact .inr (.inr ⟨rfl,by rw[h];rfl,.inl (by rw[h];rfl),by rw[h];exact G.lands (aH _)⟩)
theorem Iq (z:o.K=2)(G:(cZ M o.P).2=0){f:Nat}(hO:o.O=(f:Int))(U:o.D≠[])(V:f+o.D.length<=832)(J:(aZ B).length<40){qs:List (Int×Int)}(c:Int):lu B M o { fy with E:=7,N:=c } qs:=by
 have h:=tU z G;rw[aA,aA,aA U] at h;exact .inl ⟨rfl,by rw[z];rfl,.inl (by rw[h];rfl),.inl J⟩
theorem WI (h:rB w b gp B [] T own [] M)(hT:dw M)(hK:o.K=2)(vp vq vd:Value)(cJ:ay [] w W)(jP:bh W (w.heap.size+1) cur 34)(hc:cur.size=7)(ac:W.heap.size=w.heap.size+2)(he:(cZ M o.P).2=0){f:Nat}(hO:o.O=(f:Int))(Zr:o.D≠[])(G:f+o.D.length<=832)(U:∀x∈o.D,0<=x/\x<256)
  (pq:(fJ (nT T (cZ M o.P).1).B (f/64) (bL (f+o.D.length))).length<=(aZ (az B [])).length) {wf w4 w5:World} (J:ay [] W wf) {y:Nat} (hy:W.heap.size<=y) (ar:y<wf.heap.size) (hp:vY wf w4 b gp B ([]++dh (az B []) ((aZ (az B [])).take (fJ (nT T (cZ M o.P).1).B (f/64) (bL (f+o.D.length))).length))) (kR:ay [y] w4 w5) {v:Value} (hr:bD w5 v 0 []):
  Calls prog 108 #[cA b o vp vq vd,aM (Tk (az B []) (nT T (cZ M o.P).1) f o.D.length) v,(kT (tQ (iT (az B []) (nT T (cZ M o.P).1)) f o.D)).toArray] w5 λe z=>e= .returned (.tuple #[])/\ay [b,gp] W z/\(∀{C:Array Value} {t:Nat},bh w5 y C t->bh z y C t)/\
   Calls prog 49 #[(b:Nat),((cZ M o.P).1:Int),aM (Tk (az B []) (nT T (cZ M o.P).1) f o.D.length) v] z (aaC w b gp B (o.D.length:Int) (lu B M o)):=by
 obtain⟨f1,f2,f3,f4,f5,f6,f7⟩:=mX h hT he;obtain⟨n1,n2⟩:=acH h.nd f1 G pq;have ai:=h.lt;have V:=El (kP (az B []) (nT T (cZ M o.P).1)) G U;obtain⟨g4,p1,p2,p3⟩:=hp;rw[bQ] at p2;have av:=J.size;have ag:=p3.size;have aj:=kR.size;have af:=p2.keep kR (by rw[au];omega) (by rw[au];omega);have ah:=h.nd.st.w64;obtain⟨t1,-⟩:=(h.nd.opened (h.nd.rng (i:=(cZ M o.P).1) (by omega))).st.take (fJ (nT T (cZ M o.P).1).B (f/64) (bL (f+o.D.length))).length;have ae:=t1.w64;have ak:(dh (az B []) ((aZ (az B [])).take (fJ (nT T (cZ M o.P).1).B (f/64) (bL (f+o.D.length))).length)).length<=1000:=by
  rw[qj _ _ (λb hb=>qy b hb)];have h1:=vR (nT T (cZ M o.P).1).B (f/64) (bL (f+o.D.length));have h2:bL (f+o.D.length)<=13:=by unfold bL;omega
  rw[aJ];omega
 refine Rr (Aa af (by omega) (by omega) n2 n1 V o vp vq vd v) ?_;rintro z ⟨g6,e1,e2,e3⟩;have aA:=e3.size;have jW:ay [b,gp] W z:=(((J.mono (by simp)).trans' p3).trans kR (λx hx=>by rw[au] at hx;omega)).trans e3 (λx hx=>by
  simp only[aL,aK,bC] at hx ⊢;omega)
 refine⟨rfl,jW,λ{C t} hb=>hb.keep e3 (by simp only[aL,aK,bC];omega),?_⟩;have ax:=tP (Tk (az B []) (nT T (cZ M o.P).1) f o.D.length).B (tQ (iT (az B []) (nT T (cZ M o.P).1)) f o.D) 13;refine WH h cJ jP hc ac jW (by omega) e2 (by rw[aC];omega) (by rw[bz];exact zi (n:=Tk (az B []) (nT T (cZ M o.P).1) f o.D.length) ae V) n2 f4 (by show bD z v 0 (nT T (cZ M o.P).1).E;rw[f4];exact hr.keep e3 (λh0=>absurd rfl h0)) λr qs hp=> ?_
 rw[bz] at hp;rcases h.nd.write f1 Zr U G pq hp with ⟨rfl,aa⟩|⟨rfl,hg⟩
 ·exact Iq hK he hO Zr G aa _
 ·rw[aV]
  exact R5 hK he hO Zr G hg
end
theorem Dx{T:Nat}{n:bT}{h:Array Value}(z:aM n v=h)(J:bh w g h T)(G:n.B.length=13):(loadVar 111 g).run prog w= .ok (.agg h) w:=by
 subst z;exact b9 J G
theorem Mc{T:List (bT×Value)}(h:rB w b gp B [] T own [] M)(hT:dw M){o:jB}{vp vq vd:Value}{g:Nat}(hP:gN w vp g o.P)(hs:∀s∈o.P,s.size<=9223372036854775807)(hK:o.K=2){gd:Nat}(bb:Reads w vd gd (kT o.D))(bz:∀x∈o.D,0<=x/\x<256):
  Calls prog 55 #[cA b o vp vq vd] w (fE w b gp B (lu B M o)):=by
 obtain⟨W,hW,cJ,jR,jP,aH⟩:=mH w (cA b o vp vq vd) (zI fy (.slice none 0 0) (.slice none 0 0));obtain⟨qT,oh,lU⟩:=hh3 (zt (vq:=vq) (vd:=vd) (h.keep0 cJ) hT (hP.keep cJ (by simp)) hs) (xd h hT cJ jR jP rfl aH) aH;have aF:=h.lt;have AV:=ar aF;have qd:Hid (∀z,ay [b,gp] W z->z.cell? w.heap.size=some (.pointer (some ⟨b,0,none⟩))/\z.cell? ⟨w.heap.size,4,none⟩=some (.int .i64 o.O)/\z.cell? ⟨w.heap.size,6,none⟩=some vd):=λz V=>by
  have h1:=jR.keep V (eD aF (by omega));exact⟨by rw[h1.cell];rfl,by rw[h1.cell];rfl,by rw[h1.cell];rfl⟩
 have lY:Hid (∀z,ay [b,gp] W z->(loadVar 79 w.heap.size).run prog z= .ok (.agg (cA b o vp vq vd)) z):=λz V=>jJ (jR.keep V (eD aF (by omega)))
 have ub:Hid ((cZ M o.P).2≠0->(kF M o).2=cV (cZ M o.P).2):=Ic (.inl hK);have rO:Hid ((cZ M o.P).2=0->o.O<0->(kF M o).2=cV 1):=λU hn=>by rw[tU hK U,aB hn]
 have xq:Hid ((cZ M o.P).2=0->0<=o.O->832-(o.D.length:Int)<o.O->(kF M o).2=cV 8):=λU hn bO=>by rw[tU hK U,aA,aB]
 have Gw:Hid ((cZ M o.P).2=0->0<=o.O->¬832-(o.D.length:Int)<o.O->o.D.length=0->∀z,ay [] W z->vS (w.heap.size+1) #[(0:Int),(0:Int),(0:Int),(0:Int),(0:Int),(),()] (fE w b gp B (lu B M o)) z):=λU hn bO hl z V=>by
  obtain⟨wy,s1,s2,s3,s4⟩:=lO jP rfl V (by simp) 0;have hd:=tU hK U;have bf:=bo hl;rw[aA,aA,aB bf] at hd;exact⟨wy,s1,s2,fE.none h ((cJ.trans' V).trans s4 (by intro y hy;rw[au] at hy;omega)) s3 (.inr (.inr ⟨rfl,by rw[hd];rfl,.inl (by rw[hd];rfl),by rw[hd];exact h.nd.stay⟩))⟩
 have aY:Hid ((cZ M o.P).2=0->∀f:Nat,o.O=(f:Int)->o.D.length≠0->f+o.D.length<=832->(aZ (az B [])).length<40->∀z,ay [] W z->vS (w.heap.size+1) #[(7:Int),(0:Int),(0:Int),(0:Int),(0:Int),(),()] (fE w b gp B (lu B M o)) z):=λU f hO hl hf ac z V=>by
  obtain⟨wy,s1,s2,s3,s4⟩:=lO jP rfl V (by simp) 7;exact⟨wy,s1,s2,fE.none h ((cJ.trans' V).trans s4 (by intro y hy;rw[au] at hy;omega)) s3 (Iq hK U hO (λe=>hl (by rw[e];rfl)) hf ac 0)⟩
 have ou:Hid ((cZ M o.P).2=0->(nT T (cZ M o.P).1).B.length=13/\0<=(nT T (cZ M o.P).1).S/\(nT T (cZ M o.P).1).S<=832/\(nT T (cZ M o.P).1).E=[]):=λU=>by
  obtain⟨f1,f2,f3,f4,f5,f6,f7⟩:=mX h hT U;exact⟨f2,f6,f7,f4⟩
 have Lg:Hid ((cZ M o.P).2=0->∀G,ay [] W G->∀v:Value,Calls prog 106 #[cA b o vp vq vd,aM (nT T (cZ M o.P).1) v] G λe w'=>e=(kT (iT (az B []) (nT T (cZ M o.P).1))).toArray/\ay [] G w'):=λU G V v=>by
  obtain⟨f1,f2,f3,-⟩:=mX h hT U;have bK:=V.size;exact xg (h.sh.keep (cJ.trans' V) (by simp) (by simp)) (by omega) h.nd.st.w64 f2 f3 o vp vq vd v
 have Im:Hid ((iT (az B []) (nT T (cZ M o.P).1)).length=832):=(kP _ _).1;have Vm:Hid ((cZ M o.P).2=0->∀f:Nat,f+o.D.length<=832->∀G,ay [] W G->∀v:Value,v.oneCell'=true->Calls prog 107 #[cA b o vp vq vd,aM (nT T (cZ M o.P).1) v,(f:Int),.int .i64 ((f:Int)+(o.D.length:Int))] G (Pn G b gp B [] (nT T (cZ M o.P).1) v (fJ (nT T (cZ M o.P).1).B (f/64) (bL (f+o.D.length))))):=λU f hf G V v hv=>by
  obtain⟨f1,f2,f3,-⟩:=mX h hT U;have bK:=V.size;have :=WA (h.sh.keep (cJ.trans' V) (by simp) (by simp)) h.nd.st.w64 (λz hx=>h.tab z (((cJ.trans' V).mono (by simp)).trans' hx)) (by omega) (by simp) f2 o vp vq vd hv f (f+o.D.length) (by omega) hf;rwa[Int.natCast_add] at this
 have M7:Hid (∀f:Nat,f+o.D.length<=832->(fJ (nT T (cZ M o.P).1).B (f/64) (bL (f+o.D.length))).length<=13):=λf hf=>cE (vR _ _ _) (by unfold bL;omega)
 have aG:=ar (λ(U:(cZ M o.P).2=0) (f:Nat) (hO:o.O=(f:Int)) (Zr:o.D.length≠0) (hf:f+o.D.length<=832) pq wf w4 w5 bC y hy bG hp kR v hr=>WI h hT hK vp vq vd cJ jP rfl aH U hO (λe=>Zr (by rw[e];rfl)) hf bz pq (wf:=wf) (w4:=w4) (w5:=w5) bC (y:=y) hy bG hp kR (v:=v) hr);obtain⟨ad,aQ,rfl,b6,bn,-⟩:=id bb;rw[fG] at *;have af:Hid (∀z,ay [] W z->Reads z (.slice ad o.D.length aQ) gd (kT o.D)):=λz V=>bb.keep (cJ.trans' V) (by simp)
 have Gj:=l6;have rG:=dz;have jV:=ar oh.out.err;clear h hT hP hs cJ jR jP aH hK oh aF bb bz;unfold AR at qT;rw[lN] at *;unfold aaC at aG;generalize fE w b gp B (lu B M o)=Q,cA b o vp vq (.slice ad o.D.length aQ)=J,kF M o=DM,o.O=O at *;generalize o.D=D,bv:aM cg (.slice none 0 0)=Z0 at *;have jt:=ar bv;clear bv;generalize cZ M o.P=F at *;obtain⟨x,ee⟩:=F
 dsimp only at *
 generalize iT (az B []) (nT T x)=CL at *;have ju:=ar (lY.out W (ay.refl _ _));have cf:aQ<=9223372036854775807:=by unfold maxLen at bn;omega
 have bX:IntKind.i64.wrap (832-(D.length:Int))=832-(D.length:Int):=by rw[cz];omega
 clear bn;go_in;go_wp2_with(with_reducible refine gL 79 ju.out ?_);refine qT.out.mono ?_;rintro e w1 ⟨aa,⟨U,rfl⟩|⟨rfl,v,g,rfl,hE,hg⟩⟩
 ·obtain⟨G,q1,q2,q3⟩:=cu (n:=cg) (v:= .slice none 0 0) (bh.new w1 Z0 111) (by rw[<-jt.out];rfl) rfl rfl
  have eV:ay [] w1 G:=((ay.refl _ _).alloc _).trans q3 (by intro x hx;rw[au] at hx;omega);obtain⟨-,c2,c3⟩:=qd.out G ((aa.trans' eV).mono (by simp));have nL:=ar (aa.trans' eV);rw[jt.out] at q1;obtain⟨jz,bp⟩:=hh2 q1 (jV.out ee U (ub.out U));have b1:(ee != 0)=true:=by simpa using U
  clear hW q1 q2 q3 aa eV U jV ub rO xq Gw aY ou Lg Im Vm M7 aG af qT qd lY ju lU AV jt;go_wp2_with(with_reducible refine gS 111 jz.out ?_)
  go_quiet (fail)
  obtain⟨wy,s1,s2,s3⟩:=bp.out (G.drewN nq) (nL.out.drewN nq);obtain⟨HS,HL,HF⟩:=hh3 s1 s2 s3;clear s1 s2 s3 bp nL jz;generalize G.drewN nq=w3 at *;go_wp2_with(with_reducible refine gS 34 HS.out ?_);exact aI (bA results55 rfl HL.out) rfl HF.out
 ·obtain⟨aP,bY,b8,aR⟩:=ou.out rfl
  obtain⟨Ep,PK,ax,ah,ai,aC,ag⟩:=hh7 (rO.out rfl) (xq.out rfl) (Gw.out rfl) (aY.out rfl) (Lg.out rfl) (Vm.out rfl) (aG.out rfl);clear ub rO xq Gw aY Lg Vm aG ou;generalize nT T x=n,(x:Int)=xi at *;obtain⟨G,q1,q2,q3⟩:=cu (n:=n) (v:=v) (bh.new w1 Z0 111) (by rw[<-jt.out];rfl) aP hE.one;have eV:ay [] w1 G:=((ay.refl _ _).alloc _).trans q3 (by intro x hx;rw[au] at hx;omega);have jz:=ar q1;obtain⟨-,c2,c3⟩:=qd.out G ((aa.trans' eV).mono (by simp));obtain⟨GV,oQ⟩:=hh2 (aa.trans' eV) q2;have bB:Hid (W.heap.size<=w1.heap.size):=aa.size;have SE:=ar hE.one;have RT:Hid (w1.heap.size<G.heap.size):=q2.lt;have ry:Hid (bD G v 0 []):=by
   have :=(hE.keep eV (by simp)).anyG (by rw[aR];rfl) 0;rw[aR] at this;exact this
  have Bl:=ar aP;clear hW q1 q2 q3 aa eV hE hg qT ju aR aP;generalize W6:aM n v=Zn at *;have WW:=ar W6;clear W6;go_wp2_with(with_reducible refine gS 111 jz.out ?_)
  go_quiet (fail)
  obtain⟨nL,qI⟩:=hh2 (GV.out.drewN nq) (oQ.out.drewN nq);have WJ:Hid (w1.heap.size<(G.drewN nq).heap.size):=RT.out;have av:Hid (bD (G.drewN nq) v 0 []):=ry.out.keep ((ay.refl [] G).drewN nq) (λh0=>absurd rfl h0);clear GV oQ RT ry jz;generalize G.drewN nq=w3 at *;by_cases bJ:O<0
  ·obtain⟨wy,s1,s2,s3⟩:=jV.out 1 (by omega) (Ep.out bJ) w3 nL.out
   obtain⟨HS,HL,HF⟩:=hh3 s1 s2 s3;clear s1 s2 s3 jV Ep PK ax ah ai aC ag Im M7 af qd lY lU AV jt nL qI WJ av;go_wp2_with(with_reducible refine gS 34 HS.out ?_);exact aI (bA results55 rfl HL.out) rfl HF.out
  ·by_cases XK:832-(D.length:Int)<O
   ·obtain⟨wy,s1,s2,s3⟩:=jV.out 8 (by omega) (PK.out (by omega) XK) w3 nL.out
    obtain⟨HS,HL,HF⟩:=hh3 s1 s2 s3;clear s1 s2 s3 jV Ep PK ax ah ai aC ag Im M7 af qd lY lU AV jt nL qI WJ av;go_wp2_with(with_reducible refine gS 34 HS.out ?_);exact aI (bA results55 rfl HL.out) rfl HF.out
   ·by_cases ae:D.length=0
    ·obtain⟨wy,s1,s2,s3⟩:=ax.out (by omega) (by omega) ae w3 nL.out
     obtain⟨HS,HL,HF⟩:=hh3 s1 s2 s3;have b4:((D.length:Int)==0)=true:=by rw[ae];rfl
     clear s1 s2 s3 jV Ep PK ax ah ai aC ag Im M7 af qd lY lU AV jt nL qI WJ av ae;go_wp2_with(with_reducible refine gS 34 HS.out ?_);exact aI (bA results55 rfl HL.out) rfl HF.out
    ·have b4:((D.length:Int)==0)=false:=by simpa using ae
     obtain⟨f,rfl⟩:=cy (show 0<=O by omega);have ac:f+D.length<=832:=by omega
     have cd:IntKind.i64.wrap ((f:Int)+(D.length:Int))=(f:Int)+(D.length:Int):=by rw[cz];omega
     have aO:=ai.out w3 nL.out v;rw[WW.out] at aO;have I3:=ar aO;clear aO;have su:=Dx WW.out qI.out Bl.out;obtain⟨bj,yL⟩:=hh2 su (lY.out w3 (nL.out.mono (by simp)));obtain⟨Z8,aX⟩:∃Z8,(kT (List.replicate 832 0)).toArray=Z8:=⟨_,rfl⟩;have bI:=zw;rw[aX] at bI;have xJ:Hid (Z8.size=832):=by rw[<-aX];unfold Hid;rw[bN,fG,bE]
     clear aX su Ep PK ax jV ai;go_wp2_with(with_reducible first|refine gL 79 yL.out ?_|refine gL 111 bj.out ?_);refine Rr I3.out λw4 aD=> ?_;obtain⟨w5,q1,q2,q3⟩:=bH (P:= prog) (ty:= 157) (cs:=kT CL) (by rw[fG,Im.out];exact vW) (bh.new w4 Z8 157) (by rw[fG,Im.out,xJ.out]) (xe _);have bF:=uM w4.heap.size f (by omega);have ua:ay [] w3 w5:=((aD.alloc (.cells Z8 157))).trans q3 (by intro x hx;rw[au] at hx;have :=aD.size;omega);have Jo:=nL.out.trans' ua;obtain⟨r,w6,zS,tY,jW⟩:=Tt (w:=w5.drew) (o:=f) (n:=832-f) (cap:=832-f) q2.drew (af.out _ Jo.drew) (by rw[Im.out];omega);rw[show CL.take f++D.take (832-f)++CL.drop (f+min D.length (832-f))=tQ CL f D by unfold tQ;rw[aW (l:=D) (by omega),cQ (by omega),aV]] at tY;obtain⟨-,-,c6⟩:=qd.out w5 (Jo.mono (by simp));have Nh:=zS 3;have bw:w3.heap.size<=w4.heap.size:=aD.size;have bP:w5.heap.size<=w6.heap.size:=jW.size;have Dw:ay [] w3 w6:=(ua.drew).trans jW (by intro x hx;rw[au] at hx;omega);have zK:=nL.out.trans' Dw;obtain⟨Dv,SD⟩:=hh2 (lY.out w6 (zK.mono (by simp))) (qI.out.keep Dw (by simp));have su:=Dx WW.out SD.out Bl.out;have WB:=ar su;have aU:=aC.out f ac w6 zK v SE.out;rw[WW.out] at aU;have Qy:=ar aU;clear aU;obtain⟨Vb,aN,rz,aS⟩:=hh4 zK tY q1 (av.out.keep Dw (λh0=>absurd rfl h0));have bW:Hid (w1.heap.size<w6.heap.size/\w4.heap.size<w6.heap.size/\w3.heap.size<=w4.heap.size/\w1.heap.size<w3.heap.size):=⟨bS WJ.out Dw.size,tY.lt,bw,WJ.out⟩;clear q1 q2 q3 aD ua Jo zS tY jW Dw zK su I3 bj yL xJ qI af av WJ bw bP aC;go_wp2_with(with_reducible refine gS 157 rz.out ?_);go_region_with (fail)
     clear rz Nh c6 bF;go_wp2_with(with_reducible first|refine gL 79 Dv.out ?_|refine gL 111 WB.out ?_);refine Qy.out.mono ?_;rintro e w7 (⟨pq,rfl,yl⟩|⟨pq,rfl,ba⟩)
     ·obtain⟨w8,q1,q2,q3⟩:=cu (n:=cg) (v:= .slice none 0 0) (SD.out.keep yl (by simp)) (by rw[<-WW.out];exact zq Bl.out) rfl rfl
      have bU:=M7.out f ac;obtain⟨wy,s1,s2,s3⟩:=ah.out f rfl ae ac (by omega) w8 ((Vb.out.trans' yl).trans q3 (by intro y hy;rw[au] at hy;have :=bB.out;omega));rw[jt.out] at q1 ⊢;obtain⟨bc,HS,HL,HF⟩:=hh4 q1 s1 s2 s3;clear q1 q2 q3 s1 s2 s3 bU pq yl ah ag Qy Dv WB qd lY SD aN Vb aS;go_wp2_with(with_reducible first|refine gS 111 bc.out ?_|refine gS 34 HS.out ?_);exact aI (bA results55 rfl HL.out) rfl HF.out
     ·have hl:=AV.out
      obtain⟨z1,z2,z3,z4⟩:=bW.out;have bg:=bB.out;obtain⟨g7,-,-,k7⟩:=id ba;have aK:∀y,W.heap.size<=y->y∉[b,gp]:=λy hy=>eD hl (by have :=lU.out;omega)
      have b7:=nL.out.size;have bq:Tk (az B []) n f D.length={ n with B:=jI n.B (fJ n.B (f/64) (bL (f+D.length))) ((aZ (az B [])).take (fJ n.B (f/64) (bL (f+D.length))).length) (fJ n.B (f/64) (bL (f+D.length))).length,S:=max n.S ((f+D.length:Nat):Int) }:=rfl;have aj:=λw9 PG bV=>ag.out f rfl ae ac pq w6 w7 w9 Vb.out w1.heap.size bg z1 ba PG v bV
      rw[bq,Int.natCast_add] at aj;obtain⟨fb,aL⟩:∃fb,jI n.B (fJ n.B (f/64) (bL (f+D.length))) ((aZ (az B [])).take (fJ n.B (f/64) (bL (f+D.length))).length) (fJ n.B (f/64) (bL (f+D.length))).length=fb:=⟨_,rfl⟩;have Pv:fb.length=13:=by rw[<-aL,oF];exact Bl.out
      rw[aL] at aj ⊢;obtain⟨mS,bR⟩:∃mS,max n.S ((f:Int)+(D.length:Int))=mS:=⟨_,rfl⟩;rw[bR] at aj;obtain⟨w8,q1,q2,q3⟩:=cu (n:={ n with B:=fb }) (v:=v) (SD.out.keep k7 (aK _ bg)) (by rw[<-WW.out];exact zq Bl.out) Pv SE.out;have d3:w8.cell? ⟨w1.heap.size,3,none⟩=some (.int .i64 n.S):=by rw[q2.cell];exact(gG (n:={ n with B:=fb }) v Pv).f3
      have cj:=q2.frozen 3;have EE:=Io q2 mS;have ak:ay [w1.heap.size] w7 (w8.setCell ⟨w1.heap.size,3,none⟩ (.int .i64 mS)):=q3.setCell (.inl (by simp)) _;have aT:ay [b,gp] W (w8.setCell ⟨w1.heap.size,3,none⟩ (.int .i64 mS)):=((Vb.out.mono (by simp)).trans' k7).trans ak (λy hy=>by rw[au] at hy;omega);obtain⟨BC,bc,bl,bu,br,XW,bQ⟩:=hh7 (aj _ ak ((aS.out.keep k7 (λh0=>absurd rfl h0)).keep ak (λh0=>absurd rfl h0))) q1 (lY.out _ aT) (b9 EE (by exact Pv)) (zx ((aN.out.keep k7 (aK _ (by omega))).keep ak (by rw[au];omega)) (by unfold tQ;simp[Im.out];omega)) EE Pv;obtain⟨c0,c4,-⟩:=qd.out _ aT;clear q1 q2 q3 EE ak aT aj bq aL ba k7 aK Qy Dv WB SD aN aS ah ag Pv lY pq Im M7;generalize aM { n with B:=fb } v=Z7,bk:aM { n with B:=fb,S:=mS } v=Z9,(kT (tQ CL f D)).toArray=ZC at *;go_wp2_with(with_reducible first|refine gS 111 bc.out ?_|refine gL 79 bl.out ?_|refine gL 111 bu.out ?_|refine gL 157 br.out ?_);refine Rr BC.out ?_;rintro bZ ⟨Nw,U6,aJ⟩;have su:=Dx bk (U6 XW.out) bQ.out;obtain⟨c0,-,-⟩:=qd.out _ Nw;obtain⟨bM,bt⟩:=hh2 su aJ;clear su aJ U6 Nw BC bl bu br XW bk;go_wp2_with(with_reducible refine gL 111 bM.out ?_);refine bt.out.mono ?_;rintro e ck ⟨r,wy,rfl,s1,s2,s3⟩;obtain⟨HS,HL,HF⟩:=hh3 s1 s2 s3;clear s1 s2 s3 bt;go_wp2_with(with_reducible refine gS 34 HS.out ?_);exact aI (bA results55 rfl HL.out) rfl HF.out
theorem acI (M:Nat->Nd)(o:jB):Fp M o:=by
 intro w b gp B T own vp vq vd h hT hI;have J:∀G,ay [] w G->rB G b gp B [] T own [] M/\Ie G o vp vq vd:=λG hk=>⟨h.keep0 hk,hI.keep hk⟩
 by_cases hK:0<=o.K/\o.K<=12
 ·obtain⟨k,hk⟩:=cy hK.1
  have mn:k<13:=by omega
  refine Rr (Pd w b vp vq vd hk mn) λw' uN=> ?_;have aa:k=0\/k=1\/k=2\/k=3\/k=4\/k=5\/k=6\/k=7\/k=8\/k=9\/k=10\/k=11\/k=12:=by omega
  rcases aa with rfl|rfl|rfl|rfl|rfl|rfl|rfl|rfl|rfl|rfl|rfl|rfl|rfl
  ·exact⟨_,rfl,uN,fe func53 rfl rfl _,λG z=>by obtain⟨W,⟨g1,U⟩,V,⟨g3,a3⟩,a4,⟨g5,a5⟩,a6⟩:=J G z;exact Eo W hT U V hk⟩
  ·exact⟨_,rfl,uN,fe func54 rfl rfl _,λG z=>by obtain⟨W,⟨g1,U⟩,V,⟨g3,a3⟩,a4,⟨g5,a5⟩,a6⟩:=J G z;exact RN W hT U V hk⟩
  ·exact⟨_,rfl,uN,fe func55 rfl rfl _,λG z=>by obtain⟨W,⟨g1,U⟩,V,⟨g3,a3⟩,a4,⟨g5,a5⟩,a6⟩:=J G z;exact Mc W hT U V hk a5 a6⟩
  ·exact⟨_,rfl,uN,fe func56 rfl rfl _,λG z=>by obtain⟨W,⟨g1,U⟩,V,⟨g3,a3⟩,a4,⟨g5,a5⟩,a6⟩:=J G z;exact Pu W hT U V hk⟩
  ·exact⟨_,rfl,uN,fe func57 rfl rfl _,λG z=>by obtain⟨W,⟨g1,U⟩,V,⟨g3,a3⟩,a4,⟨g5,a5⟩,a6⟩:=J G z;exact Ps W hT U V hk⟩
  ·exact⟨_,rfl,uN,fe func58 rfl rfl _,λG z=>by obtain⟨W,⟨g1,U⟩,V,⟨g3,a3⟩,a4,⟨g5,a5⟩,a6⟩:=J G z;exact Jm W hT U V hk⟩
  ·exact⟨_,rfl,uN,fe func59 rfl rfl _,λG z=>by obtain⟨W,⟨g1,U⟩,V,⟨g3,a3⟩,a4,⟨g5,a5⟩,a6⟩:=J G z;exact L8 W hT U V hk⟩
  ·exact⟨_,rfl,uN,fe func60 rfl rfl _,λG z=>by obtain⟨W,⟨g1,U⟩,V,⟨g3,a3⟩,a4,⟨g5,a5⟩,a6⟩:=J G z;exact Ww W hT U V a3 a4 hk⟩
  ·exact⟨_,rfl,uN,fe func61 rfl rfl _,λG z=>by obtain⟨W,⟨g1,U⟩,V,⟨g3,a3⟩,a4,⟨g5,a5⟩,a6⟩:=J G z;exact aat W hT U V a3 a4 hk⟩
  ·exact⟨_,rfl,uN,fe func62 rfl rfl _,λG z=>by obtain⟨W,⟨g1,U⟩,V,⟨g3,a3⟩,a4,⟨g5,a5⟩,a6⟩:=J G z;exact aaa W hT U V hk⟩
  ·exact⟨_,rfl,uN,fe func63 rfl rfl _,λG z=>by obtain⟨W,⟨g1,U⟩,V,⟨g3,a3⟩,a4,⟨g5,a5⟩,a6⟩:=J G z;exact Z5 W hT U V hk⟩
  ·exact⟨_,rfl,uN,fe func64 rfl rfl _,λG z=>acp (J G z).1 hT hk⟩
  ·exact⟨_,rfl,uN,fe func65 rfl rfl _,λG z=>Z2 (J G z).1 hT hk⟩
 ·refine(acy w b vp vq vd hK).mono ?_
  rintro e w' ⟨rfl,uN⟩;exact⟨_,rfl,uN,fe func66 rfl rfl _,λG z=>Wd (J G z).1 hK⟩
theorem WK{z:World}{X:List Int}{n:Int}{o:jB}{G vq vd:Value}(h:Live z f b gn gl gf M X n w)(V:lD z)(J:n<=1000000000)(U:Ie w o G vq vd):
  Calls prog 10 #[f,BV o G vq vd] w (ac8 z f b gn gl gf M X n o w):=KC (acI M o) h V J U
def R6 (w:World) (e:Ending) (w':World):Prop:=
 ∃f b gn gl gf Y,e= .returned (.tuple #[(f:Nat),(b:Nat)])/\Live w f b gn gl gf ES Y 3520 w'/\(aZ Y).length=255
theorem Px (hT:lD w){k:Int}(hk:k=1\/k=2):Calls prog 9 #[k] w (R6 w):=by
 have HN:=adi w 3128;rw[show uS 3128=3128 from rfl] at HN;have HN:=ar HN;have ae:Hid (∀V b gn gl gf,ay [] w V->(w.heap.size<=b/\w.heap.size<=gn/\w.heap.size<=gl/\w.heap.size<=gf)->fw V b gn gl gf (calm (List.replicate 3128 0) 0)->Calls prog 24 #[(b:Nat),k] V λe w2=>e=(0:Int)/\Hid (∃Y,Calls prog 19 #[(b:Nat)] w2 λe w3=>∃f,e= .returned (.tuple #[(f:Nat),(0:Int)])/\Hid (R6 w (.returned (.tuple #[(f:Nat),(b:Nat)])) w3))):=λV b gn gl gf J h hp=>by
  refine Rr (aeR hp (by omega) (by omega) (by simp) (hT.keep J) hk) ?_;rintro w2 ⟨Y,G,pq,U,aa⟩;refine⟨rfl,Y,?_⟩;have ho:=U.old (by show Y.length≠0;have :=G.len;omega);refine(Pa (b:=b) (gn:=gn) (gl:=gl) (gf:=gf) (R:=λs wx=>s=calm Y (0+3520)/\fw wx b gn gl gf s/\ay [] w2 wx) (λs wa wb hk ⟨h1,h2,h3⟩=>⟨h1,h2.keep hk (by simp) (by simp),h3.trans' hk⟩) ?_).mono ?_
  ·refine(Pb U G.len (RR G.w64) G.1).mono ?_
   rintro e w3 ⟨rfl,z⟩;have WY:=U.keep z (by simp) (by simp);exact⟨rfl,_,TA G.len G.w64,WY,z.size,rfl,WY,z⟩
  ·rintro e w3 (⟨x,s,rfl,rfl,-,af,rfl,-⟩|⟨f,s,rfl,-,hf,ag,-,rfl,WY,z⟩)
   ·exfalso
    obtain⟨-,T,own,Fk⟩:=G;exact af _ ⟨T,own,Fk⟩
   ·refine⟨f,rfl,f,b,gn,gl,gf,Y,rfl,⟨hf,G,⟨_,⟨by omega,by omega⟩,WY⟩,?_,?_,?_⟩,pq⟩
    ·have h1:ay [] w w2:=J.trans aa λy hy=> .inr (by simp only[aL,aK,bC] at hy;omega)
     exact h1.trans' z
    ·have :=J.size
     have :=aa.size;exact⟨by omega,h.1,h.2.1,h.2.2.1,h.2.2.2⟩
    ·intro W
     simp only[aL,aK,bC] at W;omega
 clear hT hk;generalize R6 w=Q at *;go_in;go_wp2_with fail;refine HN.out.mono ?_;rintro e V ⟨b,gn,gl,gf,rfl,hp,h,ac⟩;rw[bE] at hp;have HF:=ar (ae.out V b gn gl gf ac h (by unfold calm;rw[bE];exact hp));clear hp h ac HN ae;go_wp2_with fail;refine Rr HF.out λw2 W=> ?_;obtain⟨Y,W⟩:=W.out;have HM:=ar W;clear W HF;go_wp2_with fail;refine HM.out.mono ?_;rintro e w3 ⟨f,rfl,hq⟩;clear HM;go_wp2_with fail;exact hq.out
theorem WL (M:Nat->Nd){o:jB}(G:o.K=0):Fp M o:=by
 intro w b gp B T own J vq vd h hT V;refine Rr (Pd w b J vq vd (k:=0) G (by omega)) λw' uN=> ?_;refine⟨_,rfl,uN,fe func53 rfl rfl _,λw2 z=> ?_⟩;obtain⟨⟨g1,W⟩,U,⟨g3,a3⟩,a4,⟨g5,a5⟩,a6⟩:=V.keep z;exact Eo (h.keep0 z) hT W U G
def opA (nm:ByteArray):jB:=⟨0,[nm],[],0,0,[]⟩
theorem ae6:(kF ES (opA ⟨#[97]⟩)).2.E=0/\(kF ES (opA ⟨#[97]⟩)).2.N=1:=by
 rw[LZ (.inl rfl)]
 decide+kernel
theorem aaF (w:World):(zeroValue 37).run prog w= .ok (.agg #[(0:Int),(),(),(0:Int),(0:Int),()]) w:=by kernel_rfl
theorem R7 (w:World)(g:Nat):gN w (.slice none 0 0) g []:=⟨none,0,rfl,by simp,by simp[maxLen],λh=>absurd rfl h⟩
theorem aaG (w:World)(s:ByteArray)(T:Nat):gN (w.alloc (.cells #[.string s] T)) (.slice w.heap.size 1 1) w.heap.size [s]:=by
 have h:=bh.new w #[.string s] T;refine⟨some ⟨w.heap.size,0,none⟩,1,rfl,aH _,by unfold maxLen;omega,λ_=>⟨h.lt,0,rfl,λj z=> ?_⟩⟩;rw[h.cell,bc,<-aF];rfl
theorem WM (E N K L I:Int)(vd h:Value)(w:World):(Instr.field 34 (.agg #[E,N,K,L,I,vd,h]) 1).run prog w= .ok (.int .i64 N) w:=by kernel_rfl
theorem R9 (W:lD w):Calls prog 7 #[] w λe w'=>e=true/\ay [] w w':=by
 obtain⟨zX,VO⟩:=hh2 (Px W (k:=1) (.inl rfl)) W;clear W;go_in;go_wp2_with fail;refine zX.out.mono ?_;rintro e z ⟨f,b,gn,gl,gf,Y,rfl,hl,pq⟩;have hk:ay [] z (z.alloc (.cells #[.string ⟨#[97]⟩] 9)):=(ay.refl _ _).alloc _;have hI:Ie (z.alloc (.cells #[.string ⟨#[97]⟩] 9)) (opA ⟨#[97]⟩) (.slice z.heap.size 1 1) (.slice none 0 0) (.slice none 0 0):=
  ⟨⟨_,aaG _ _ _⟩,λs hs=>by rw[au.1 hs];decide,⟨0,R7 _ _⟩,by simp[opA],⟨0,tS _ _⟩,by simp[opA]⟩
 have U:=KC (WL _ rfl) (hl.keep0 hk) VO.out (by omega) hI;have G:Hid (Calls prog 10 #[f,.agg #[(0:Int),.slice z.heap.size 1 1,(),(0:Int),(0:Int),()]] (z.alloc (.cells #[.string ⟨#[97]⟩] 9)) λe w'=>∃E K L I vd J,e= .returned (.agg #[(E:Int),(1:Int),(K:Int),(L:Int),(I:Int),vd,J])/\Hid (ay [] w w')):=by
  show Calls _ _ _ _ _;refine U.mono ?_;rintro e w' ⟨r,Z,rfl,⟨vd,J,rfl,-⟩,-,h⟩;obtain⟨e1,e2⟩:=ae6;have hN:r.N=1/\ay [] w w':=by
   rcases h with ⟨h0,h1,⟨-,-,-,-,h5⟩|rfl⟩|⟨-,-,h5,X',h6⟩
   ·rw[pq,e1] at h5
    omega
   ·exact absurd e1 h0
   ·refine⟨?_,h6.keeps⟩
    rcases h5 with rfl|⟨h7,-⟩
    ·exact e2
    ·exact absurd h7 (by decide)
  refine⟨r.E,r.K,r.L,r.I,vd,J,?_,hN.2⟩;rw[zI,hN.1]
 have ac:=aaF;clear hl pq hk hI U zX VO;go_wp2_with fail;refine G.out.mono ?_;rintro e w2 ⟨E,K,L,I,vd,J,rfl,V⟩;have aa:=WM E 1 K L I vd J;clear G;go_wp2_with fail;go_ret;exact⟨rfl,V.out⟩
theorem TD (h:fw w b gn gl gf s)(G:On s){xs:List Int}(z:s.now=xs)(k:Nat)(J:k<3128)(W:ay [] w w'):
  Calls prog 52 #[b,(k:Int)] w' λe V=>e= .returned (.tuple #[.int .u64 (xs.getD k 0),(0:Int)])/\w'=V:=by
 have :=KN (h.keep W (by simp) (by simp)) (k:Int);obtain⟨h1,U⟩:=G.2.2 k (by rw[G.1];exact J);rw[h1,U,z] at this;exact this
theorem aaH (h:fw w b gn gl gf s)(z:On s):
  Calls prog 46 #[b] w λe w'=>e=(3128:Int)/\w=w':=by
 have :=PQ h;rw[z.1] at this;exact this
theorem Py (h:fw w b gn gl gf s)(G:On s):Hp w b s.now:=λk _ z J=>TD h G rfl k z J
theorem Pz{x:Int}(h:∀z v g,ay [] w z->ku z v g [(8,x)]->w.heap.size<=g->Calls prog 69 #[b,v] z (zf z ks T F)):
  Calls prog 71 #[b,.int .u64 x] w (zf w ks T F):=by
 have J:=ar (h (w.alloc (.cells #[(8:Int),.int .u64 x] 58)) _ _ ((ay.refl _ _).alloc _) (OA w 8 x _) (aH _));have U:Hid (∀e w',zf (w.alloc (.cells #[(8:Int),.int .u64 x] 58)) ks T F e w'->∃y,e=(y:Int)/\Hid (zf w ks T F (.returned (y:Int)) w')):=by
  rintro e w' ⟨y,rfl,V,h⟩;exact⟨y,rfl,y,rfl,(((ay.refl [] w).alloc _).mono (by simp)).trans' V,h⟩
 clear h;go_in;go_wp2_with fail;refine J.out.mono ?_;intro e w2 G;obtain⟨y,rfl,W⟩:=U.out e w2 G;clear G J U;go_wp2_with fail;go_ret;exact W.out
theorem ae7{S:World->Prop}(h1:Calls prog 69 #[b,v] w (zf w ks S F))(h2:∀z,ay ks w z->S z->Calls prog 71 #[b,.int .u64 0] z (zf z ks T F)):
  Calls prog 73 #[b,v] w (zf w ks T F):=by
 obtain⟨U,W⟩:=hh2 h1 h2;clear h1 h2;go_in;go_wp2_with fail;refine U.out.mono ?_;rintro e z ⟨y,rfl,G,⟨rfl,h⟩|⟨hy,h⟩⟩
 ·have HW:=ar (W.out z G h)
  have HK:=ar G;clear G h U W;go_wp2_with fail;refine HW.out.mono ?_;rintro e w2 ⟨y,rfl,J,h⟩;have V:Hid (zf w ks T F (.returned y) w2):=⟨y,rfl,HK.out.trans' J,h⟩;clear J h HW;go_wp2_with fail;go_ret;exact V.out
 ·have V:Hid (zf w ks T F (.returned y) z):=⟨y,rfl,G,.inr ⟨hy,h⟩⟩
  have hb:(y != 0)=true:=by simpa using hy
  clear G h U W;go_wp2_with fail;go_ret;exact V.out
theorem acJ (h:fw w b gn gl gf s)(J:On s)
  (hC:∀ps v g z,rI s.now=some ps->ay [] w z->ku z v g ps->w.heap.size<=g->Calls prog 73 #[b,v] z (zf z ks T F))
  (hW:∀z,ay [] w z->Calls prog 71 #[b,.int .u64 0] z (zf z ks T F))
  (h0:∀z,ay [] w z->s.now.getD 8 0=0->T z):
  Calls prog 41 #[b] w (zf w ks T F):=by
 have HQ:Hid (∀z e w',ay [] w z->zf z ks T F e w'->∃y,e=(y:Int)/\Hid (zf w ks T F (.returned (y:Int)) w')):=by
  rintro z e w' aa ⟨y,rfl,G,h⟩;exact⟨y,rfl,y,rfl,(aa.mono (by simp)).trans' G,h⟩
 cases hs:rI s.now with
 |some ps=>
  obtain⟨W,HC⟩:=hh2 (Jg (aaH h J) (Py h J) (RR J.2.1) hs) (λv g z=>hC ps v g z hs);clear h J hC hW h0 hs;go_in;go_wp2_with fail;refine W.out.mono ?_;rintro e z ⟨v,g,rfl,hr,hg,G⟩;obtain⟨I3,U⟩:=hh2 (HC.out v g z G hr hg) (λe w'=>HQ.out z e w' G);obtain⟨a,cap,rfl,-,-⟩:=hr.val;clear hr hg G HC HQ W;go_wp2_with fail;refine I3.out.mono ?_;intro e w2 V;obtain⟨y,rfl,HE⟩:=U.out e w2 V;clear V I3 U;go_wp2_with fail;go_ret;exact HE.out
 |none=>
  obtain⟨W,HL,HW⟩:=hh3 (zZ (aaH h J) (Py h J) (RR J.2.1) hs) (λwx (G:ay [] w wx)=>TD h J rfl 8 (by omega) G) hW;have H0:Hid (∀z,ay [] w z->s.now.getD 8 0=0->zf w ks T F (.returned (0:Int)) z):=λz G hz=>⟨0,rfl,G.mono (by simp),.inl ⟨rfl,h0 z G hz⟩⟩
  clear h J hC hW h0 hs;generalize s.now.getD 8 0=c at *;go_in;go_wp2_with fail;refine Rr W.out λz G=> ?_;obtain⟨xw,WS,U,HZ⟩:=hh4 (HL.out z G) (HW.out z G) (λe w'=>HQ.out z e w' G) (H0.out z G);clear G HW HL HQ W H0;by_cases hc:c=0
  ·subst hc
   have jt:=ar (HZ.out rfl);clear HZ WS U;go_wp2_with fail;refine C' xw.out ?_;go_wp2_with fail;go_ret;exact jt.out
  ·have hb:(c==0)=false:=by simpa using hc
   clear HZ;go_wp2_with fail;refine C' xw.out ?_;go_wp2_with fail;refine WS.out.mono ?_;intro e w2 V;obtain⟨y,rfl,HE⟩:=U.out e w2 V;clear V WS U xw;go_wp2_with fail;go_ret;exact HE.out
structure Pw (s:iV) (D:Int):Prop where
 len:s.now.length=3128
 w64:In64 s.now
 fused:s.fused=false
 left:s.left=0
 deeds:0<=s.deeds/\s.deeds<=D
theorem Pw.refusal(h:Pw s D)(i:Int):s.refusal i=if i<0\/3128<=i then 1 else 0:=by
 have :=h.len;unfold iV.refusal iV.gone;rw[h.fused,this];rfl
theorem Pw.on(h:Pw s D):On s:=by
 refine⟨h.len,h.w64,λk G=> ?_⟩;have z:s.refusal (k:Int)=0:=by rw[h.refusal,aA ?_];have :=h.len;omega
 refine⟨z,?_⟩;unfold iV.load;rw[aB z];rfl
theorem Pw.fit(h:Pw s D)(z:D<4000000000000000000):s.fit:=by
 have :=h.deeds;have :=h.left;unfold iV.fit;omega
theorem Pw.mono(h:Pw s D)(G:D<=z):Pw s z:=⟨h.len,h.w64,h.fused,h.left,by have :=h.deeds;omega⟩
theorem Pw.cnt(h:Pw s D){z:iV}(V:z.now.length=3128)(U:In64 z.now)(G:z.fused=s.fused)(J:z.left=s.count.left)(W:z.deeds=s.deeds+1):Pw z (D+1):=by
 refine⟨V,U,by rw[G];exact h.fused,?_,by have :=h.deeds;omega⟩;rw[J];unfold iV.count;simp[h.fused,h.left]
theorem Pw.store(h:Pw s D)(i:Int){x:Int}(z:0<=x/\x<18446744073709551616):Pw (s.store i x) (D+1):=by
 unfold iV.store;split
 ·refine h.cnt (by show(s.now.set _ _).length=_;rw[cX];exact h.len) (λj=> ?_) rfl rfl rfl
  show 0<=(s.now.set i.toNat x).getD j 0/\_;rw[aj,eT];split
  ·split
   ·exact z
   ·simp
  ·rw[<-aj]
   exact h.w64 j
 ·exact h.mono (by omega)
theorem Pw.flush(h:Pw s D)(i:Int):Pw (s.flush i) (D+1):=by
 unfold iV.flush;split
 ·exact h.cnt h.len h.w64 rfl rfl rfl
 ·exact h.mono (by omega)
theorem Pw.fence(h:Pw s D):Pw s.fence (D+1)/\s.fenceE=0:=by
 have z:s.gone=false:=by unfold iV.gone;rw[h.fused];rfl
 unfold iV.fence iV.fenceE;rw[z];exact⟨h.cnt h.len h.w64 rfl rfl rfl,rfl⟩
def se (w:World) (b gn gl gf:Nat) (D:Int):Prop:=∃s,fw w b gn gl gf s/\Pw s D
theorem se.keep(h:se w b gn gl gf D){l:List Nat}(G:ay l w w')(z:∀y∈[b,gn,gl,gf],y∉l):se w' b gn gl gf D:=by
 obtain⟨s,U,J⟩:=h;exact⟨s,U.keep G (z _ (by simp)) (λ_=>⟨z _ (by simp),z _ (by simp),z _ (by simp)⟩),J⟩
theorem se.mono(h:se w b gn gl gf D)(J:D<=z):se w b gn gl gf z:=by
 obtain⟨s,G,U⟩:=h;exact⟨s,G,U.mono J⟩
theorem se.old(h:se w b gn gl gf D):∀y∈[b,gn,gl,gf],y<w.heap.size:=by
 obtain⟨s,J,G⟩:=h;have :=J.old (by rw[G.len];omega);intro y z;simp only[aL,aK,bC] at z;omega
theorem aaI (h:se w b gn gl gf D)(U:D<4000000000000000000)(i:Int){x:Int}(V:0<=x/\x<18446744073709551616):
  Calls prog 18 #[b,i,.int .u64 x] w λe w'=>e=(if i<0\/3128<=i then 1 else 0:Int)/\ay [b,gn,gl,gf] w w'/\se w' b gn gl gf (D+1):=by
 obtain⟨s,W,z⟩:=h;refine Rr (FA W (z.fit U) i x) ?_;rintro w' ⟨G,J⟩;exact⟨by rw[z.refusal],J,_,G,z.store i V⟩
theorem TE (h:se w b gn gl gf D)(hD:D<1000000000000000000){v:Value}{g:Nat}{ps:List (Int×Int)}(hr:ku w v g ps)(W:Me ps 3128)(hu:∀k,0<=lv ps k/\lv ps k<18446744073709551616)(hn:ps.length<=1000)(hg:ps.length≠0->g∉[b,gn,gl,gf]):
  Calls prog 69 #[b,v] w (zf w [b,gn,gl,gf] (λw'=>se w' b gn gl gf (D+2001)) λ_ _=>False):=by
 have ho:=h.old;refine Te (S:=λk U=>se U b gn gl gf (D+(k:Nat))) (R:=λk U=>se U b gn gl gf (D+1000+(k:Nat))) hr (λp hp=>by have :=W p hp;omega) hn hg ho ?_ ?_ ?_ ?_ ?_ ?_ ?_ ?_
 ·intro k wa wb J z
  exact z.keep J (by simp)
 ·exact h.mono (by omega)
 ·intro k U J z
  obtain⟨x0,x1⟩:=ug W (k:=k) J;refine Rr (aaI z (by omega) (iw ps k) (hu k)) ?_;rintro w' ⟨G,V⟩;exact⟨0,by rw[aA],G,.inl ⟨rfl,V.mono (by omega)⟩⟩
 ·intro k wa wb l hl J z
  exact z.keep J λy hy hm=>by have :=ho y hy;have :=hl y hm;omega
 ·intro U z
  exact z.mono (by omega)
 ·intro k U J z _
  exact z.mono (by omega)
 ·rintro k U J ⟨s,z,G⟩ -
  obtain⟨x0,x1⟩:=ug W (k:=k) J;refine(FB z (G.fit (by omega)) (iw ps k)).mono ?_;rintro e w' ⟨rfl,V,h4⟩;exact⟨0,by rw[G.refusal,aA],h4,.inl ⟨rfl,_,V,(G.flush _).mono (by omega)⟩⟩
 ·rintro U ⟨s,z,G⟩
  refine(FC z (G.fit (by omega))).mono ?_;rintro e w' ⟨rfl,V,h4⟩;exact⟨0,by rw[G.fence.2],h4,.inl ⟨rfl,_,V,G.fence.1.mono (by omega)⟩⟩
theorem Et (h:se w b gn gl gf D)(U:D<1000000000000000000):
  Calls prog 71 #[b,.int .u64 0] w (zf w [b,gn,gl,gf] (λw'=>se w' b gn gl gf (D+2001)) λ_ _=>False):=by
 have W:=h.old;refine Pz λw1 v g G J hg=>TE (h.keep G (by simp)) U J (by intro p z;simp at z;subst z;simp) (λk=> ?_) (by simp) (λ_ V=>by have :=W g V;omega)
 cases k<;>simp[lv]
theorem Sa{xs:List Int}(h:In64 xs){ps:List (Int×Int)}(z:rI xs=some ps)(k:Nat):0<=lv ps k/\lv ps k<18446744073709551616:=by
 unfold rI at z;split at z
 ·cases z
  unfold lv lH;rw[aj,bJ];by_cases G:k<BQ xs
  ·rw[cB G]
   show 0<=(oD xs _).getD _ 0/\(oD xs _).getD _ 0<_;by_cases J:2*k+1<2*BQ xs
   ·rw[Zb _ _ _ J]
    exact h _
   ·rw[aj,aP (by rw[mP];omega)]
    simp
  ·rw[aP (by simp;omega)]
   simp
 ·cases z
theorem acK (h:se w b gn gl gf D)(hD:D<100000000000000000):
  Calls prog 41 #[b] w λe w'=>e=(0:Int)/\ay [b,gn,gl,gf] w w'/\se w' b gn gl gf (D+5000):=by
 have ho:=h.old;obtain⟨s,h1,h2⟩:=id h;refine(acJ (ks:=[b,gn,gl,gf]) (T:=λw'=>se w' b gn gl gf (D+5000)) (F:=λ_ _=>False) h1 h2.on ?_ ?_ ?_).mono ?_
 ·intro ps v g V W z hr hg
  obtain⟨g1,g2⟩:=OD W;refine ae7 (S:=λw'=>se w' b gn gl gf (D+2001)) (TE (h.keep z (by simp)) (by omega) hr (OC g1) (Sa h2.w64 W) (by omega) (λ_ hm=>by have :=ho g hm;omega)) λw2 aa G=>(Et G (by omega)).mono λe w' J=>J.mono (λx U=>U.mono (by omega)) λ_ _ h=>h
 ·intro V z
  exact(Et (h.keep z (by simp)) (by omega)).mono λe w' J=>J.mono (λx U=>U.mono (by omega)) λ_ _ h=>h
 ·intro V z _
  exact(h.keep z (by simp)).mono (by omega)
 ·rintro e w' ⟨y,rfl,z,⟨rfl,G⟩|⟨-,G⟩⟩
  ·exact⟨rfl,z,G⟩
  ·exact G.elim
end
section
variable{w w':World}{b f g gf gl gn gp:Nat}{T:World->Prop}{B:List Int}{own:Nat->List Nat}{M:Nat->Nd}{v:Value}{s:iV}{ks:List Nat}{F:Int->World->Prop}{D z:Int}
end
end Go.Proofs.YtepbpdipenedhaaGreatDoor
