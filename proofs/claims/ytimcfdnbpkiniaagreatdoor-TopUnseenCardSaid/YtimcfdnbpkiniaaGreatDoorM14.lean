/- Lemmas. -/
import Derived.Test.YtimcfdnbpkiniaaGreatDoorM13
set_option maxHeartbeats 4000000
set_option maxRecDepth 100000
namespace Go.Proofs.YtimcfdnbpkiniaaGreatDoor
open Go.Proofs.Tryz
open Go.RowKit
section
variable{w w':World}{U b:Nat}{B X:List Int}{ps qs:List (Int×Int)}{i r:Int}{n:bS}{e:Ending}
def GQ (w:World) (b z:Nat) (B:List Int) (ps:List (Int×Int)) (i:Int) (n:bS) (e:Ending) (w':World):Prop:=
 ∃r qs h,e=(r:Int)/\(h=z\/(w.heap.size<=h/\h<w'.heap.size))/\eN w' b h B (ps++qs)/\ay [b,z] w w'/\qs.length<=600/\
  ((r=7/\(aY (az B ps)).length<dA n/\qs=[])\/(r=0/\dA n<=(aY (az B ps)).length/\qs=IQ (az B ps) i.toNat n ((aY (az B ps)).take (dA n))))
theorem YV (hi:0<=i/\i<32)(hR:cm n)(hF:n.F=1)(h:wE w b U B ps i n e w'):GQ w b U B ps i n e w':=by
 have V:dA n=eV n:=aA;have h2:∀X own,IQ X i.toNat n own=pD X i.toNat n own:=λX own=>aA
 obtain⟨r,qs,gG,a1,a2,a3,a4,a5,W⟩:=h;refine⟨r,qs,gG,a1,a2,a3,a4,by omega,?_⟩;rw[V,h2];rcases W with ⟨-,c,-⟩|⟨J,-,G,z⟩|⟨J,-,G,z⟩
 ·exact absurd ⟨hi,hF,hR⟩ c
 ·exact .inl ⟨J,G,z⟩
 ·exact .inr ⟨J,G,z⟩
theorem YW (hi:0<=i/\i<32)(hR:cm n)(hF:n.F=2)(h:sZ w b U B ps i n e w'):GQ w b U B ps i n e w':=by
 have V:dA n=eQ n:=aB hF;have h2:∀X own,IQ X i.toNat n own=mR X i.toNat n own:=λX own=>aB hF
 obtain⟨r,qs,gG,a1,a2,a3,a4,a5,W⟩:=h;refine⟨r,qs,gG,a1,a2,a3,a4,by omega,?_⟩;rw[V,h2];rcases W with ⟨-,c,-⟩|⟨J,-,G,z⟩|⟨J,-,G,z⟩
 ·exact absurd ⟨hi,hF,hR⟩ c
 ·exact .inl ⟨J,G,z⟩
 ·exact .inr ⟨J,G,z⟩
def YX (X:List Int) (i:Int) (own:List Nat):Prop:=(dR X i/\own=[])\/∃m,eJ X i m own
def nK (X:List Int) (i:Int) (n:bS) (r:Int) (qs:List (Int×Int)):Prop:=
 (r=1/\¬((0<=i/\i<32)/\cm n)/\qs=[])\/
 (r=10/\((0<=i/\i<32)/\cm n)/\¬dR X i/\(∀n' h,¬eJ X i n' h)/\qs=[])\/
 (∃own,((0<=i/\i<32)/\cm n)/\YX X i own/\((r=7/\(aY (az X (ct X own))).length<dA n/\qs=[])\/(r=0/\dA n<=(aY (az X (ct X own))).length/\qs=lW X i.toNat n own)))
def mC (w:World) (b z:Nat) (B:List Int) (ps:List (Int×Int)) (i:Int) (n:bS) (e:Ending) (w':World):Prop:=
 ∃r qs h,e=(r:Int)/\(h=z\/(w.heap.size<=h/\h<w'.heap.size))/\eN w' b h B (ps++qs)/\ay [b,z] w w'/\qs.length<=700/\nK (az B ps) i n r qs
theorem mC.nothing{z:Nat}(h:eN w b z B ps)(G:ay [] w w')(J:nK (az B ps) i n r []):mC w b z B ps i n (.returned r) w':=
 ⟨r,[],z,rfl,.inl rfl,by rw[bz];exact h.keep G,G.mono,by simp,J⟩
theorem sy{G:Nat}(h:eN w b G B ps)(aZ:In64 (az B ps))(hT:∀z,ay [b,G] w z->ku z)(Ic:G<w.heap.size)(aT:ps.length<=700000)(i:Int)(n:bS)(v:Value)(g:Nat)(hB:n.B.length=13)(hE:bD w v g n.E)
  (hN:∀k,k<n.E.length->(eY n.E k).size<=9223372036854775807) (af:n.E.length≠0->g≠b/\g≠G):
  Calls prog 48 #[b,i,aL n v] w (mC w b G B ps i n):=by
 have cM:ay [] w (w.alloc (.cells (aL n v) 75)):=(ay.refl _ _).alloc _;have rQ:=bc.new w (aL n v) 75;obtain⟨HI,xX⟩:=hh2 (Ao i) (λz (U:ay [] w z)=>nX n v g hB z (hE.keep U) hN);have jT:Hid (∀(w':World) (r:Int),ay [] w w'->nK (az B ps) i n r []->mC w b G B ps i n (.returned (r:Int)) w'):=λw' r U hr=>mC.nothing h U hr
 have Ih:=ar (λz (U:ay [] (w.alloc (.cells (aL n v) 75)) z)=>bZ (rQ.keep U) hB);obtain⟨J,aM⟩:∃J,w.alloc (.cells (aL n v) 75)=J:=⟨_,rfl⟩;rw[aM] at cM rQ Ih;obtain⟨rf,fG,Un,vP,uM,HE,HB⟩:=hh7 aM cM rQ h aZ hE hB;obtain⟨aF,NP,UL,zB,aI⟩:=hh5 hT hN af aT Ic;clear h aZ aM cM rQ hE hN hT af aT Ic;by_cases hi:0<=i/\i<32
 ·rw[bq hi] at HI
  by_cases hR:cm n
  ·rw[bq hR] at xX
   obtain⟨X,hX⟩:∃X,az B ps=X:=⟨_,rfl⟩;have SS:=ar hX;have bK:Hid (X.length=3128):=by show _=_;rw[<-hX];exact vP.out.raw.lx
   have bA:b<w.heap.size:=vP.out.raw.lt;have bQ:=ar bA;have U7:Hid (In64 X):=by show In64 X;rw[<-hX];exact uM.out
   obtain⟨IA,av⟩:=hh2 (Ih.out J (ay.refl _ _)) (xX.out J fG.out);have EA:Hid (∀z,ay [] J z->Calls prog 30 #[b,i] z (E9 z X i)):=λz U=>by
    have :=get_at (vP.out.keep (fG.out.trans' U)) uM.out i;rwa[hX] at this
   have bH:Hid (∀z,ay [] J z->eN z b G B ps):=λz U=>vP.out.keep (fG.out.trans' U)
   have Ma:Hid (∀z,ay [] J z->Calls prog 102 #[b] z λe w'=>e=(ps.length:Int)/\z=w'):=λz U=>
    TM (vP.out.keep (fG.out.trans' U))
   have aB:Hid (∀z va ga own,ay [] J z->Reads z va ga (dJ own)->J.heap.size<=ga->own.length<=32->Calls prog 103 #[b,va] z (jN z b G B (ps++ct X own))):=λz va ga own U hr hg hl=>by
    have hz:=fG.out.size;have aa:=aI.out;have :=Li (vP.out.keep (fG.out.trans' U)) uM.out (by have :=U.size;omega) (by have :=zB.out;omega) hr (by omega) (λ_=>by omega);rwa[hX] at this
   have IH:Hid (∀z kQ own,ay [b,G] J z->eN z b kQ B (ps++ct X own)->kQ<z.heap.size->(kQ=G\/J.heap.size<=kQ)->own.length<=32->∀f:Nat,((n.F=1->f= 111)/\(n.F=2->f= 113))->
     Calls prog f #[tu b i,aL n v] z (GQ z b kQ B (ps++ct X own) i n)):=λz kQ own U hs aa af ak f hf=>by
    have aD:ay [b,G] w z:=(fG.out.mono).trans' U;have Lm:In64 (az B (ps++ct X own)):=by rw[br,hX];exact(iq own X U7.out bK.out).1
    have aA:(ps++ct X own).length<=800000:=by
     have h1:=qp own X;have V:=zB.out;rw[aC];omega
    have bP:=fG.out.size;have bu:bD z v g n.E:=HE.out.keep aD (λh0=>by
     have :=UL.out h0
     simp_all)
    have aV:n.E.length≠0->g≠b/\g≠kQ:=λh0=>by
     have h1:=UL.out h0;refine⟨h1.1,λV=> ?_⟩;rcases af with h3|h3
     ·exact h1.2 (V.trans h3)
     ·have :=HE.out.apart (l:=[kQ]) (λx hx=>by rw[au] at hx;omega) h0
      simp_all
    rcases hR.1 with hF|hF
    ·rw[hf.1 hF]
     exact(Ve hs Lm (aF.out z aD) aa aA i n v g HB.out bu NP.out aV).mono λe w'=>YV hi hR hF
    ·rw[hf.2 hF]
     exact(Vf hs Lm (aF.out z aD) aa aA i n v g HB.out bu NP.out aV).mono λe w'=>YW hi hR hF
   have aj:Hid (∀z,ay [b,G] J z->z.cell? w.heap.size=some (.int .i64 n.F)/\(loadVar 75 w.heap.size).run prog z= .ok (.agg (aL n v)) z):=λz U=>by
    have hb:=Un.out.keep U (by have :=aI.out;simp;omega);refine⟨?_,bZ hb HB.out⟩;rw[hb.cell];exact(fT v HB.out).f0
   have aN:=ar (λz=>Ed n.F z);have aH:Hid (n.F=1\/n.F=2):=hR.1;have ah:Hid ((0<=i/\i<32)/\cm n):=⟨hi,hR⟩;have mi:Hid (∀z (W:Nat) (r:Int) (qs:List (Int×Int)),(W=G\/(w.heap.size<=W/\W<z.heap.size))->eN z b W B (ps++qs)->ay [b,G] J z->qs.length<=700->nK X i n r qs->mC w b G B ps i n (.returned (r:Int)) z):=λz W r qs h1 V h3 h4 h5=>
    ⟨r,qs,W,rfl,h1,V,(fG.out.mono).trans' h3,h4,by rw[hX];exact h5⟩
   have rq:=dC;clear hi hR Ih xX hX jT HE NP UL aF vP uM;have jt:=ar fG.out.size;have bN:n.F=n.F:=rfl;clear bN;generalize bM:aL n v=Z at *;clear bM;generalize hf:n.F=f at *;clear hf;go_in;go_wp2_with fail;rw[rf.out];refine C' (HI.out _) ?_;go_wp2_with((with_reducible show wpList _ _ _ (⟨_,.load 75 (.tmp 5),_,_,_,_⟩::_) _ _);refine eB (by first|rfl|simp[Region.wanted,yielded]) 75 (.tmp 5) rfl _ rfl _ IA.out ?_);refine Rr av.out λw2 ac=> ?_;have fC:=ar ac;clear ac;go_wp2_with fail;refine(EA.out w2 fC.out).mono ?_;rintro e w3 ⟨m,vm,gm,own,va,ga,r,rfl,aU,bg,bL,hO,xe,bo,aX⟩;have ny:ay [] J w3:=fC.out.trans' bo;obtain⟨w4,q1,q2,WZ,⟨bC,SV,aS⟩,bv,bJ⟩:=yU ny aU bg hO (by have :=fC.out.size;omega);obtain⟨tY,bk,bG,qB,ag⟩:=hh5 q1 SV aS bv aX;clear aU bg bL hO xe bo aX q1 q2 WZ SV aS bv bJ ny fC av IA EA;generalize aL m vm=ZM,aL bY (.slice none 0 0)=ZZ at *;by_cases ax:r=10
   ·subst ax
    have bn:nK X i n 10 []:=by
     rcases ag.out with ⟨h,-⟩|⟨h,-⟩|⟨-,h1,V,h3,-⟩|⟨h,-⟩
     ·omega
     ·omega
     ·exact .inr (.inl ⟨rfl,ah.out,V,h3,rfl⟩)
     ·omega
    have HP:Hid (mC w b G B ps i n (.returned (10:Int)) w4):=mi.out w4 G 10 [] (.inl rfl) (by rw[bz];exact bH.out w4 qB.out) (qB.out.mono) (by simp) bn;clear bn ag mi aj aN IH aB Ma;go_wp2_with(with_reducible refine gS 75 tY.out ?_);go_ret;exact HP.out
   ·have ak:own.length<=32/\YX X i own:=by
     rcases ag.out with ⟨h1,V,-⟩|⟨-,-,V,-,h3⟩|⟨h,-⟩|⟨-,h⟩
     ·exact absurd ah.out.1 V
     ·subst h3;exact⟨by simp,.inl ⟨V,rfl⟩⟩
     ·exact absurd h ax
     ·exact⟨by have h1:=h.ownLen;have V:=vr h.right;omega,.inr ⟨m,h⟩⟩
    have bI:(r==10)=false:=by simpa using ax
    obtain⟨ae,aR⟩:=hh2 ak (aB.out w4 va bC own qB.out bk.out.reads bG.out ak.1);clear ak ag aB bk ax;go_wp2_with(with_reducible refine gS 75 tY.out ?_);refine C' (Ma.out w4 qB.out) ?_;go_wp2_with fail;refine Rr aR.out ?_;rintro w5 ⟨kQ,bF,bj,kr⟩;have pU:Hid (ay [b,G] J w5):=(qB.out.mono).trans' kr;have rp:=ar bj;have W6:Hid (kQ<w5.heap.size/\(kQ=G\/J.heap.size<=kQ)):=by
     have z4:=qB.out.size;have z5:=kr.size;have :=aI.out;have :=jt.out;exact⟨by omega,by omega⟩
    have bl:=ar (aj.out w5 pU.out);have c5:=bl.out.1;clear bF bj kr aR Ma;go_wp2_with fail;refine(aN.out w5).mono ?_;rintro e w6 ⟨jE,fa,fb,aY,bf,rfl,h1,V⟩;have bw:∃q:Nat,fb= .func (.func q) #[] #[]/\((f=1->q= 111)/\(f=2->q= 113)):=by
     rcases aH.out with hF|hF
     ·simp_all
     simp_all
    rw[bq aH.out];obtain⟨q,rfl,hq⟩:=bw;have bB:q= 111\/q= 113 :=aH.out.imp (λh=>hq.1 h) λh=>hq.2 h
    have bt:=bc.new w6 #[.nilFunc,.nilFunc] 128;obtain⟨w7,q1,q2,q3⟩:=GL bt aY bf;have aW:ay [] w6 w7:=((ay.refl [] w6).alloc _).trans q3;have Vi:Hid (ay [] w5 w7):=jE.trans' aW;have aG:=ar q1;have JV:Hid (ay [b,G] J w7):=pU.out.trans' (Vi.out.mono);have c7:w7.cell? ⟨w6.heap.size,1,none⟩=some (.func (.func q) #[] #[]):=by rw[q2.cell];rfl
    have aK:=ar (aj.out w7 JV.out).2;have aO:Hid (eN w7 b kQ B (ps++ct X own)):=rp.out.keep Vi.out;have aJ:=ar (IH.out w7 kQ own JV.out aO.out (by have :=W6.out;have :=Vi.out.size;omega) W6.out.2 ae.out.1 q hq);clear hq c5 jE aY bf h1 V bt q1 q2 q3 aW IH aj aN bl tY bI;rcases bB with rfl|rfl
    all_goals (
     go_wp2_with(with_reducible first|refine gS 128 aG.out ?_|refine gL 75 aK.out ?_);refine aJ.out.mono ?_;rintro e w8 ⟨r2,bO,W,rfl,bp,Py,rM,aQ,ba⟩;have hY:az B (ps++ct X own)=az X (ct X own):=by rw[br,SS.out]
     rw[hY] at ba;have aa:=qp own X;have bh:=ae.out.1;have Vj:W=G\/(w.heap.size<=W/\W<w8.heap.size):=by
      have h1:=W6.out;have V:=Vi.out.size;have h3:=rM.size;have h4:=jt.out;have h5:=JV.out.size;omega
     have ai:ay [b,G] J w8:=JV.out.trans rM (by
      intro x hx;have h1:=W6.out.2
      grind)
     rcases ba with ⟨rfl,oZ,rfl⟩|⟨rfl,oZ,rfl⟩
     ·have bE:((ps++ct X own)++[]).take (Fx (ps.length:Int) ((ps++ct X own)++[]).length)=ps:=by
       grind [Jm,List.take_left]
      have DX:Hid (Calls prog 104 #[b,(ps.length:Int)] w8 (Mx w8 b W B ps)):=by
       grind [TL]
      have HP:Hid (∀w9,eN w9 b W B ps->ay [b] w8 w9->mC w b G B ps i n (.returned (7:Int)) w9):=λw9 h1 V=>
       mi.out w9 W 7 [] (by have :=V.size;omega) (by rw[bz];exact h1) (ai.trans V) (by simp) (.inr (.inr ⟨own,ah.out,ae.out.2,.inl ⟨rfl,oZ,rfl⟩⟩))
      clear hY aa bh Vj ai oZ bE Py rM bp aQ aJ mi aK aO aG c7 JV Vi rp pU W6;go_wp2_with fail;refine Rr DX.out ?_;rintro w9 ⟨bb,IK⟩;have Bv:=ar (HP.out w9 bb IK);clear bb IK HP DX;go_wp2;go_ret;exact Bv.out
     ·have HP:Hid (mC w b G B ps i n (.returned (0:Int)) w8):=
       mi.out w8 W 0 (lW X i.toNat n own) Vj (by grind [lW]) ai (by unfold lW;rw[aC];omega) (.inr (.inr ⟨own,ah.out,ae.out.2,.inr ⟨rfl,oZ,rfl⟩⟩))
      clear hY aa bh Vj ai oZ Py rM bp aQ aJ mi aK aO aG c7 JV Vi rp pU W6;go_wp2;go_ret;exact HP.out)
  ·rw[aP hR] at xX
   have HX:Hid (nK (az B ps) i n 1 []):= .inl ⟨rfl,λh=>hR h.2,rfl⟩;obtain⟨IA,av⟩:=hh2 (Ih.out J (ay.refl _ _)) (xX.out J fG.out);clear hi hR Ih xX HB;generalize aL n v=Z at *;go_in;go_wp2_with fail;rw[rf.out];refine C' (HI.out _) ?_;go_wp2_with((with_reducible show wpList _ _ _ (⟨_,.load 75 (.tmp 5),_,_,_,_⟩::_) _ _);refine eB (by first|rfl|simp[Region.wanted,yielded]) 75 (.tmp 5) rfl _ rfl _ IA.out ?_);refine Rr av.out λw2 ac=> ?_;have HP:=ar (jT.out w2 1 (fG.out.trans' ac) HX.out);clear ac;go_wp2;go_ret;exact HP.out
 ·rw[aP hi] at HI
  have HP:=ar (jT.out J 1 fG.out (.inl ⟨rfl,λh=>hi h.1,rfl⟩));clear hi jT xX Ih HB;generalize aL n v=Z at *;go_in;go_wp2_with fail;rw[rf.out];refine C' (HI.out _) ?_;go_wp2;go_ret;exact HP.out
def eA (B:List Int) (k:Nat):List Nat:=((B.take k).filter λx=>x != 0).map Int.toNat
def dv (n:bS):List Nat:=eA n.B 13
theorem Lp (B:List Int)(k:Nat)(z:k<B.length):eA B (k+1)=eA B k++(if B.getD k 0=0 then [] else [(B.getD k 0).toNat]):=by
 unfold eA;rw[bR z,dZ,ez]
 congr 1
 have :B.getD k 0=B[k]:=by simp[z]
 rw[this];by_cases h:B[k]=0
 ·simp[h]
 ·simp[h]
theorem Ap (B:List Int)(k:Nat):(eA B k).length<=k:=by
 unfold eA;rw[b7];exact cL (fe _ _) (by rw[aJ];omega)
theorem SY{ws:World}(V:ay [] ws w){va:Value}{own:List Nat}(hO:w.ownsRow ws.heap.size 3 1 va own.length (dJ own))(n:bS)(v:Value)(hB:n.B.length=13)(h0:∀k,0<=n.B.getD k 0)(hl:own.length<=1000):
  Calls prog 169 #[va,aL n v] w λe w'=>∃u,e=(u:Value)/\w'.ownsRow ws.heap.size 3 1 u (own++dv n).length (dJ (own++dv n))/\ay [] ws w':=by
 obtain⟨i0,hi,ah,ae,af⟩:=df Tryz.info_int;have au:=V.size;have aa:=bc.new w (aL n v) 75;have rW:Hid ((loadVar 73 ⟨w.heap.size,4,none⟩).run prog (w.alloc (.cells (aL n v) 75))= .ok (.agg (zs n.B).toArray) (w.alloc (.cells (aL n v) 75))):=fy aa hB (fT v hB).f4;have HZ:Hid (∀k,k<13->(zs n.B).toArray[k]? =some (.int .i64 (n.B.getD k 0))):=λk V=>by rw[aG,gI (by omega)]
 have W:Hid ((w.alloc (.cells (aL n v) 75)).ownsRow ws.heap.size 3 1 va (own++eA n.B 0).length (dJ (own++eA n.B 0))/\ay [] ws (w.alloc (.cells (aL n v) 75))):=by
  have :own++eA n.B 0=own:=by simp[eA]
  rw[this];exact⟨hO.alloc _,V.alloc _⟩
 obtain⟨HB,H0⟩:=hh2 hB h0;have Vk:Hid (eA n.B 13=dv n):=rfl;clear hO aa V hB h0;generalize aL n v=Z,(zs n.B).toArray=ZB at *;go_in;go_wp2_with(with_reducible refine gL 73 rW.out ?_);go_loopg [0,9] 13 (λgh s0 s9 wx=>∃k:Nat,k+gh=13/\s9= .int .i64 (k:Int)/\Hid (wx.ownsRow ws.heap.size 3 1 s0 (own++eA n.B k).length (dJ (own++eA n.B k))/\ay [] ws wx))
 case atStart=>exact⟨0,by omega,rfl,W.out⟩
 case round=>
  clear W rW;obtain⟨k,V,rfl,J⟩:=hrel;cases gk with
  |zero=>
   obtain rfl:k=13:=by omega
   have HE:=ar J.out;rw[Vk.out] at HE;clear V J;go_wp2;go_ret;exact⟨_,rfl,HE.out⟩
  |succ gg=>
   have lZ:k<13:=by omega
   have ak:(k:Int)<13:=by omega
   have cM:(0:Int)<=(k:Int):=by omega
   have Ib:=yL lZ (HZ.out k lZ);have ax:=H0.out k;have HS:=ar (Lp n.B k (by rw[HB.out];exact lZ));have ai:=Ap n.B k;generalize n.B.getD k 0=x at *;by_cases U:x=0
   ·have e0:(x != 0)=false:=by rw[U];rfl
    have HN:Hid (wr.ownsRow ws.heap.size 3 1 u0 (own++eA n.B (k+1)).length (dJ (own++eA n.B (k+1)))/\ay [] ws wr):=by
     show _/\_;rw[HS.out,aB U,bz];exact J.out
    clear J HS U;go_wp2;go_roundg gg;case measure=>omega
    case rel=>exact⟨k+1,by omega,by go_num,HN.out⟩
   ·have e0:(x != 0)=true:=bne_iff_ne.2 U
    obtain⟨G,jD⟩:=hh2 J.out.1 J.out.2;have av:=J.out.2.size;have aj:(own++eA n.B k).length<=2000:=by rw[aC];omega
    have mV:Hid (own++eA n.B (k+1)=(own++eA n.B k)++[x.toNat]):=by
     show _=_;rw[HS.out,aA U,aV]
    have HI:Hid (dJ ((own++eA n.B k)++[x.toNat])=dJ (own++eA n.B k)++[.int .i64 x]):=by
     show _=_;have ag:((x.toNat:Nat):Int)=x:=by omega
     rw[uh];show _++[Value.int .i64 ((x.toNat:Nat):Int)]=_;rw[ag]
    have Eu:Hid (((own++eA n.B k)++[x.toNat]).length=(own++eA n.B k).length+1):=aC;clear J HS ai;generalize own++eA n.B k=L at *;generalize hq:L.length=q at *;go_wp2_with(at_builtin;refine eO _ rfl _ _ 76 rfl ws.heap.size 3 i0 (.int .i64 0) 1 8 underlying76 hi ah ae af rfl (by decide) u0 q _ rfl (G.out.alloc _) ⟨wr.heap.size,0,none⟩ 1 1 [.int .i64 x] rfl rfl ?c1 ?c2 (by unfold maxLen;omega) (by omega) (by simp;omega) ?_);case c1=>exact lu _ [_] _ _ rfl
    case c2=>simp[Value.oneCell']
    intro v' w1 h z ac;have HN:Hid (w1.ownsRow ws.heap.size 3 1 v' (own++eA n.B (k+1)).length (dJ (own++eA n.B (k+1)))/\ay [] ws w1):=by
     show _/\_;rw[mV.out,Eu.out,HI.out];exact⟨h,(jD.out.alloc _).grown z (dO G.out)⟩
    clear h z ac G jD mV HI Eu U hq;go_wp2;go_roundg gg;case measure=>omega
    case rel=>exact⟨k+1,by omega,by go_num,HN.out⟩
def wI (X:List Int) (i:Nat) (n:bS) (own:List Nat):List (Int×Int):=ct X (own++dv n)++jM (824+8*i) (List.replicate 8 0) 8
def NR (X:List Int) (i r:Int) (qs:List (Int×Int)):Prop:=
 (r=1/\¬(0<=i/\i<32)/\qs=[])\/(r=2/\(0<=i/\i<32)/\dR X i/\qs=[])\/(r=10/\(0<=i/\i<32)/\¬dR X i/\(∀n' h,¬eJ X i n' h)/\qs=[])\/
  (r=0/\∃n own,eJ X i n own/\qs=wI X i.toNat n own)
def GR (w:World) (b z:Nat) (B:List Int) (ps:List (Int×Int)) (i:Int) (e:Ending) (w':World):Prop:=
 ∃r qs h,e=(r:Int)/\(h=z\/(w.heap.size<=h/\h<w'.heap.size))/\eN w' b h B (ps++qs)/\ay [b,z] w w'/\qs.length<=700/\NR (az B ps) i r qs
def GU (w:World) (X:List Int) (i:Int) (e:Ending) (w':World):Prop:=
 ∃v g l,e=(v:Value)/\Reads w' v g (dJ l)/\ay [] w w'/\((∃n own,eJ X i n own/\l=own++dv n)\/((∀n own,¬eJ X i n own)/\l=[]))/\(l≠[]->w.heap.size<=g)
theorem aca:(aX (List.replicate 8 0)).toArray= #[.int .u64 0,.int .u64 0,.int .u64 0,.int .u64 0,.int .u64 0,.int .u64 0,.int .u64 0,.int .u64 0]:=rfl
theorem acb (h:eN w b U B ps)(ac:In64 (az B ps))(Ic:U<w.heap.size)(ag:ps.length<=700000)(i:Int):
  Calls prog 193 #[b,i] w (GR w b U B ps i):=by
 have HX:Hid ((az B ps).length=3128):=h.raw.lx;have hb:=h.raw.lt;obtain⟨vP,uM,EA,zB,ae⟩:=hh5 h ac (get_at h ac i) ag (km i);have rq:=dC;clear h ac ag;go_in;go_wp2_with fail;refine EA.out.mono ?_;rintro e w1 ⟨n,v,g,own,va,ga,r,rfl,hB,hE,hg,hO,xe,au,hr⟩;obtain⟨w2,q1,q2,Md,⟨aU,aj,YY⟩,aB,aG⟩:=yU au hB hE hO xe;obtain⟨jh,rJ,WU,aJ,fC,HR,HB⟩:=hh7 q1 q2 aj YY aB hr hB;clear hB hE hg hO xe au hr q1 q2 Md aj YY aB aG EA;have jT:Hid (NR (az B ps) i r []->GR w b U B ps i (.returned r) w2):=λh=>
  ⟨r,[],U,rfl,.inl rfl,by rw[bz];exact vP.out.keep fC.out,fC.out.mono,by simp,h⟩
 by_cases Ii:r=0
 ·subst Ii
  have z:eJ (az B ps) i n own:=by
   rcases HR.out with ⟨h,-⟩|⟨h,-⟩|⟨h,-⟩|⟨-,h⟩
   ·omega
   ·omega
   ·omega
   ·exact h
  have aP:own.length<=32:=by have h1:=z.ownLen;have W:=vr z.right;omega
  have aR:(dv n).length<=13:=Ap _ _;have hi:=z.rng;have ak:gA i=((824+8*i.toNat:Nat):Int):=by rw[gA,aA];omega
  rw[ak] at ae;have ax:∀k,0<=n.B.getD k 0:=λk=>(uX z.right HB.out k).1
  have V:w2.ownsRow w.heap.size 3 1 va own.length (dJ own):=by
   obtain⟨⟨h0,h5⟩,W⟩:=WU.out;rcases h5 with h5|⟨g',cap,aH,e1,e2,e3⟩
   ·exact⟨h0,.inl h5⟩
   ·exact⟨h0,.inr ⟨g',cap,aH,e1,by have :=aJ.out;omega,e3⟩⟩
  obtain⟨HW,aO,HI⟩:=hh3 (SY fC.out V n v HB.out ax (by omega)) z hi;have G:Hid ((own++dv n).length<=45):=by show _<=_;rw[aC];omega
  clear HR jT z aP aR ak ax V hi;generalize WV:aL n v=ZN at *;clear WV;generalize aL bY (.slice none 0 0)=ZZ at *;go_wp2_with(with_reducible first|refine gS 75 jh.out ?_|refine gL 75 rJ.out ?_);refine HW.out.mono ?_;rintro e w3 ⟨u,rfl,hu,J⟩;obtain⟨gu,aD,aI⟩:=lQ.of_row hu;obtain⟨og,af⟩:=hh2 J (Li (vP.out.keep J) uM.out (by have :=J.size;omega) (by have :=zB.out;omega) aD.reads (by have :=G.out;omega) (λ_=>by omega));clear hu J aD aI HW;go_wp2_with fail;refine Rr af.out ?_;rintro w4 ⟨aa,aN,ai,aF⟩;have ah:=qp (own++dv n) (az B ps);have FX:=ar (rY ai (by have :=zB.out;have :=G.out;rw[aC];omega) (824+8*i.toNat) (by have :=HI.out;omega) (List.replicate 8 0) (by simp));rw[aca] at FX;have qB:Hid (ay [b,U] w w4):=(og.out.mono).trans' aF;have aT:Hid (aa=U\/(w.heap.size<=aa/\aa<w4.heap.size)):=by
   have :=og.out.size;show _\/_;omega
  have SA:=ar ah;clear aN ai aF ah af;generalize ((824+8*i.toNat:Nat):Int)=pi at *;go_wp2_with fail;refine C' (ae.out _) ?_;go_wp2_with fail;refine Rr FX.out ?_;rintro w5 ⟨aQ,aS,av,kr⟩;have HP:Hid (GR w b U B ps i (.returned (0:Int)) w5):=by
   have h1:=aT.out;have W:=qB.out.size;have h3:=kr.size;refine⟨0,wI (az B ps) i.toNat n own,aQ,rfl,by omega,by unfold wI;rw[<-aV];exact av,qB.out.trans kr (by intro x hx;simp only[aM,aK,bC] at hx ⊢;omega),?_,.inr (.inr (.inr ⟨rfl,n,own,aO.out,rfl⟩))⟩;have h4:=SA.out;have h5:=G.out;unfold wI;rw[aC,oJ];omega
  clear aS av kr FX;go_wp2;go_ret;exact HP.out
 ·have hd:NR (az B ps) i r []:=by
   rcases HR.out with ⟨h1,W,-⟩|⟨h1,W,h3,-⟩|⟨h1,W,h3,h4,-⟩|⟨h,-⟩
   ·exact .inl ⟨h1,W,rfl⟩
   ·exact .inr (.inl ⟨h1,W,h3,rfl⟩)
   ·exact .inr (.inr (.inl ⟨h1,W,h3,h4,rfl⟩))
   ·exact absurd h Ii
  have HP:=ar (jT.out hd);have e0:(r != 0)=true:=bne_iff_ne.2 Ii;clear hd jT HR ae Ii;generalize aL n v=ZN,aL bY (.slice none 0 0)=ZZ at *;go_wp2_with(with_reducible refine gS 75 jh.out ?_);go_ret;exact HP.out
theorem acd{gp:Nat}(h:eN w b gp B ps)(V:In64 (az B ps))(i:Int):
  Calls prog 140 #[b,i] w (GU w (az B ps) i):=by
 have EA:=ar (get_at h V i);have rq:=dC;clear h V;go_in;go_wp2_with fail;refine EA.out.mono ?_;rintro e w1 ⟨n,v,g,own,va,ga,r,rfl,hB,hE,hg,hO,xe,J,hr⟩;obtain⟨w2,q1,q2,Md,⟨au,ae,YY⟩,aa,ag⟩:=yU J hB hE hO xe;obtain⟨jh,rJ,WU,ak,fC,HR,HB⟩:=hh7 q1 q2 ae YY aa hr hB;clear hB hE hg hO xe J hr q1 q2 Md ae YY aa ag EA;by_cases Ii:r=0
 ·subst Ii
  have z:eJ (az B ps) i n own:=by
   rcases HR.out with ⟨h,-⟩|⟨h,-⟩|⟨h,-⟩|⟨-,h⟩
   ·omega
   ·omega
   ·omega
   ·exact h
  have aj:own.length<=32:=by have h1:=z.ownLen;have h2:=vr z.right;omega
  have W:∀k,0<=n.B.getD k 0:=λk=>(uX z.right HB.out k).1
  have G:w2.ownsRow w.heap.size 3 1 va own.length (dJ own):=by
   obtain⟨⟨h0,h5⟩,h2⟩:=WU.out;rcases h5 with h5|⟨g',cap,ah,e1,e2,e3⟩
   ·exact⟨h0,.inl h5⟩
   ·exact⟨h0,.inr ⟨g',cap,ah,e1,by have :=ak.out;omega,e3⟩⟩
  obtain⟨HW,ai⟩:=hh2 (SY fC.out G n v HB.out W (by omega)) z;clear HR z aj W G;generalize WV:aL n v=ZN at *;clear WV;generalize aL bY (.slice none 0 0)=ZZ at *;go_wp2_with(with_reducible first|refine gS 75 jh.out ?_|refine gL 75 rJ.out ?_);refine HW.out.mono ?_;rintro e w3 ⟨u,rfl,hu,af⟩;obtain⟨gu,ac,U⟩:=lQ.of_row hu;have HP:Hid (GU w (az B ps) i (.returned u) w3):=⟨u,gu,_,rfl,ac.reads,af,.inl ⟨n,own,ai.out,rfl⟩,λ_=>U⟩;clear hu af ac U HW;go_wp2;go_ret;exact HP.out
 ·have HP:Hid (GU w (az B ps) i (.returned ()) w2):=by
   refine⟨_,0,[],rfl,GD _ _,fC.out,.inr ⟨λn' cY hs=> ?_,rfl⟩,λh=>absurd rfl h⟩;rcases HR.out with ⟨h1,h2,-⟩|⟨h1,h2,h3,-⟩|⟨h1,h2,h3,h4,-⟩|⟨h,-⟩
   ·exact h2 hs.rng
   ·exact hs.notFree h3
   ·exact h4 _ _ hs
   ·exact Ii h
  have e0:(r != 0)=true:=bne_iff_ne.2 Ii;clear HR Ii;generalize aL n v=ZN,aL bY (.slice none 0 0)=ZZ at *;go_wp2_with(with_reducible refine gS 75 jh.out ?_);go_ret;exact HP.out
theorem nK.free(h:nK X i n r qs)(hi:0<=i/\i<32)(W:dR X i):
  (r=1/\¬cm n/\qs=[])\/(r=7/\cm n/\(aY X).length<dA n/\qs=[])\/(r=0/\cm n/\dA n<=(aY X).length/\qs=lW X i.toNat n []):=by
 rcases h with ⟨J,G,z⟩|⟨-,-,G,-⟩|⟨own,J,G,z⟩
 ·simp_all
 ·exact absurd W G
 ·have ho:own=[]:=by
   rcases G with ⟨-,h⟩|⟨m,h⟩
   ·exact h
   ·exact absurd W h.notFree
  subst ho;rcases z with ⟨z,U,V⟩|⟨z,U,V⟩
  ·exact .inr (.inl ⟨z,J.2,U,V⟩)
  ·exact .inr (.inr ⟨z,J.2,U,V⟩)
theorem nK.over{m:bS}{z:List Nat}(h:nK X i n r qs)(J:eJ X i m z):
  (r=1/\¬cm n/\qs=[])\/(r=7/\cm n/\(aY (az X (ct X z))).length<dA n/\qs=[])\/(r=0/\cm n/\dA n<=(aY (az X (ct X z))).length/\qs=lW X i.toNat n z):=by
 rcases h with ⟨U,G,V⟩|⟨-,-,-,G,-⟩|⟨own,U,G,V⟩
 ·exact .inl ⟨U,λW=>G ⟨J.rng,W⟩,V⟩
 ·exact absurd J (G _ _)
 ·have ho:own=z:=by
   rcases G with ⟨h,-⟩|⟨m',h⟩
   ·exact absurd h J.notFree
   ·exact(J.uniq h).2
  simp_all
def ace (X:List Int) (n:bS) (i r:Int) (qs:List (Int×Int)):Prop:=
 (r=7/\i=0/\(∀k:Nat,k<32->¬dR X (k:Int))/\qs=[])\/
 ∃j:Nat,j<32/\dR X (j:Int)/\(∀k:Nat,k<j->¬dR X (k:Int))/\((r=1/\i=0/\¬cm n/\qs=[])\/(r=7/\i=0/\cm n/\(aY X).length<dA n/\qs=[])\/(r=0/\i=(j:Int)/\cm n/\dA n<=(aY X).length/\qs=lW X j n []))
def Lq (w:World) (b z:Nat) (B:List Int) (ps:List (Int×Int)) (n:bS) (e:Ending) (w':World):Prop:=
 ∃i r qs h,e= .returned (.tuple #[(i:Int),(r:Int)])/\(h=z\/(w.heap.size<=h/\h<w'.heap.size))/\eN w' b h B (ps++qs)/\ay [b,z] w w'/\qs.length<=700/\ace (az B ps) n i r qs
theorem Vl{J:Nat}(h:eN w b J B ps)(aj:In64 (az B ps))(hT:∀z,ay [b,J] w z->ku z)(Ic:J<w.heap.size)(au:ps.length<=700000)(n:bS)(v:Value)(g:Nat)(hB:n.B.length=13)(hE:bD w v g n.E)
  (hN:∀k,k<n.E.length->(eY n.E k).size<=9223372036854775807) (ai:n.E.length≠0->g≠b/\g≠J):
  Calls prog 153 #[b,aL n v] w (Lq w b J B ps n):=by
 have cM:ay [] w (w.alloc (.cells (aL n v) 75)):=(ay.refl _ _).alloc _;have ac:=bc.new w (aL n v) 75;obtain⟨X,hX⟩:∃X,az B ps=X:=⟨_,rfl⟩;obtain⟨W0,ae⟩:∃W0,w.alloc (.cells (aL n v) 75)=W0:=⟨_,rfl⟩;rw[ae] at cM ac;have mO:Hid (∀z,ay [] W0 z->(loadVar 75 w.heap.size).run prog z= .ok (.agg (aL n v)) z):=λz V=>bZ (ac.keep V) hB
 have zL:Hid (∀z (i:Int),ay [] W0 z->Calls prog 59 #[b,(i:Int)] z λe w'=>e=(decide ((0<=i/\i<32)/\dR X i))/\ay [] z w'):=λz i V=>by
  have :=E0 (h.keep (cM.trans' V)) i;rwa[hX] at this
 have CW:Hid (∀z (i:Int),ay [] W0 z->Calls prog 48 #[b,(i:Int),aL n v] z (λe w'=>∃r qs G,e=(r:Int)/\(G=J\/(w.heap.size<=G/\G<w'.heap.size))/\eN w' b G B (ps++qs)/\ay [b,J] w w'/\qs.length<=700/\nK X i n r qs)):=λz i V=>by
  have tV:=cM.trans' V;have :=sy (h.keep tV) aj (λwy hy=>hT wy ((tV.mono).trans' hy)) (by have :=tV.size;omega) au i n v g hB (hE.keep tV) hN ai;refine this.mono ?_;rintro e w' ⟨r,qs,G,U,W,h3,h4,h5,h6⟩;rw[hX] at h6;exact⟨r,qs,G,U,by have :=tV.size;omega,h3,(tV.mono).trans' h4,h5,h6⟩
 have jT:Hid (∀z,ay [] W0 z->(∀k:Nat,k<32->¬dR X (k:Int))->Lq w b J B ps n (.returned (.tuple #[(0:Int),(7:Int)])) z):=λz V hf=>
  ⟨0,7,[],J,rfl,.inl rfl,by rw[bz];exact h.keep (cM.trans' V),(cM.trans' V).mono,by simp,.inl ⟨rfl,rfl,by rw[hX];exact hf,rfl⟩⟩
 have aa:Hid (∀z i r qs G,(G=J\/(w.heap.size<=G/\G<z.heap.size))->eN z b G B (ps++qs)->ay [b,J] w z->qs.length<=700->ace X n i r qs->Lq w b J B ps n (.returned (.tuple #[(i:Int),(r:Int)])) z):=λz i r qs G U W h3 h4 h5=>
  ⟨i,r,qs,G,rfl,U,W,h3,h4,by rw[hX];exact h5⟩
 have rf:=ar ae;clear h aj hT Ic au hE hN ai hX ae cM ac hB;generalize aL n v=Z at *;go_in;go_wp2_with fail;rw[rf.out];go_loopg [8] 32 (λgh s8 z=>∃k:Nat,k+gh=32/\s8= .int .i64 (k:Int)/\Hid (ay [] W0 z/\∀j:Nat,j<k->¬dR X (j:Int)))
 case atStart=>exact⟨0,by omega,rfl,ay.refl _ _,λj hj=>by omega⟩
 case round=>
  obtain⟨k,V,rfl,HP⟩:=hrel;cases gk with
  |zero=>
   obtain rfl:k=32:=by omega
   have HE:=ar (jT.out wr HP.out.1 HP.out.2);clear V jT aa CW zL mO;go_wp2;go_ret2;exact HE.out
  |succ gg=>
   have ah:(k:Int)<32:=by omega
   have vt:k<32:=by omega
   go_wp2_with fail;refine Rr (zL.out wr (k:Int) HP.out.1) λw2 ak=> ?_;have fC:Hid (ay [] W0 w2):=HP.out.1.trans' ak;clear ak;by_cases hf:dR X (k:Int)
   ·rw[bq (show(0<=(k:Int)/\(k:Int)<32)/\dR X (k:Int) from ⟨⟨by omega,ah⟩,hf⟩)]
    obtain⟨rJ,HF⟩:=hh2 (mO.out w2 fC.out) hf;clear hf;go_wp2_with(with_reducible refine gL 75 rJ.out ?_);refine(CW.out w2 (k:Int) fC.out).mono ?_;rintro e w3 ⟨r,qs,G,rfl,av,ag,ax,SJ,af⟩;have hr:=af.free ⟨by omega,ah⟩ HF.out;rw[aF] at hr;have HY:=ar (λi hr=>aa.out w3 i r qs G av ag ax SJ hr);clear av ag ax SJ af jT aa CW zL mO rJ fC V;rcases hr with ⟨rfl,U,W⟩|⟨rfl,U,W,h3⟩|⟨rfl,U,W,h3⟩
    ·have HE:=ar (HY.out 0 (.inr ⟨k,vt,HF.out,HP.out.2,.inl ⟨rfl,rfl,U,W⟩⟩))
     clear U W HY vt;go_wp2;go_ret2;exact HE.out
    ·have HE:=ar (HY.out 0 (.inr ⟨k,vt,HF.out,HP.out.2,.inr (.inl ⟨rfl,rfl,U,W,h3⟩)⟩))
     clear U W h3 HY vt;go_wp2;go_ret2;exact HE.out
    ·have HE:=ar (HY.out (k:Int) (.inr ⟨k,vt,HF.out,HP.out.2,.inr (.inr ⟨rfl,rfl,U,W,h3⟩)⟩))
     clear U W h3 HY vt;go_wp2;go_ret2;exact HE.out
   ·rw[aP (show ¬((0<=(k:Int)/\(k:Int)<32)/\dR X (k:Int)) from λh=>hf h.2)]
    have Nf:Hid (ay [] W0 w2/\∀j:Nat,j<k+1->¬dR X (j:Int)):=⟨fC.out,λj hj=>by
     rcases Nat.lt_succ_iff_lt_or_eq.1 hj with h|h
     ·exact HP.out.2 j h
     ·rw[h];exact hf⟩
    clear hf;go_wp2;go_roundg gg;case measure=>omega
    case rel=>exact⟨k+1,by omega,by go_num,Nf.out⟩
end
section
variable{w w':World}{U b:Nat}{B X:List Int}{ps qs:List (Int×Int)}{i r:Int}{n:bS}{e:Ending}
theorem acf{g T:Nat}{v:Value}(z:bc w g (aL n v) T)(x:Int):bc (w.setCell ⟨g,0,none⟩ (.int .i64 x)) g (aL { n with F:=x } v) T:=by
 have :=z.set 0 (.int .i64 x);have e:(aL n v).setIfInBounds 0 (.int .i64 x)=aL { n with F:=x } v:=by
  have h:aL n v=((.int .i64 n.F:Value)::([.int .i64 n.K,.int .i64 n.L,.int .i64 n.S]++(zs n.B++[v]))).toArray:=rfl;rw[h,ag,ah];rfl
 rw[e] at this;exact this
theorem uE{Y:List Int}(h:∀c,c<256->c≠0->dn Y c=dn X c):aY Y=aY X:=by
 unfold aY eX;apply iz;intro c G;by_cases z:c=0
 ·subst z;simp
 ·rw[h c (cu.1 G) z]
end
end Go.Proofs.YtimcfdnbpkiniaaGreatDoor
