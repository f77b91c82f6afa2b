/- Lemmas. -/
import Derived.Test.YtepbpdipenedhaaGreatDoorM29
set_option maxHeartbeats 4000000
set_option maxRecDepth 100000
namespace Go.Proofs.YtepbpdipenedhaaGreatDoor
open Go.Proofs.Tryz
open Go.RowKit
variable{B X Y xs:List Int}{T:List (bT×Value)}{own:Nat->List Nat}{M:Nat->Nd}{W w:World}{b g gf gl gn gp n z:Nat}{o:jB}{vd vq:Value}{d:Int}
theorem og.of_len(X:List Int)(qs:List (Int×Int)):og X (az X qs) qs.length:=
 og.puts (L:=qs.map λp=>p.1.toNat) (by rw[bZ];exact aH _) λp h=>bF.2 ⟨p,h,rfl⟩
theorem aeK (h:mN X T own [] M){o:jB}(V:o.K=11){r:Int}{qs:List (Int×Int)}(J:Df X o.N r qs)(hq:qs.length<=2):lu X M o { fy with E:=r } qs:=by
 have z:=aeH (M:=M) V;rcases ab9 h J with ⟨rfl,G,-⟩|⟨rfl,G,W,-,U⟩
 ·rw[aA G] at z
  exact .inr (.inl ⟨by show(1:Int)≠0;omega,by rw[z]⟩)
 ·rw[aB G] at z
  exact .inr (.inr ⟨rfl,by rw[z];rfl,.inl (by rw[z];rfl),T,own,by rw[z];exact W.nd,λk hk _=>U k (by omega),(og.of_len X qs).mono (by omega)⟩)
theorem Ty (h:mN X T own [] M){o:jB}(U:o.K=12){r:Int}{qs:List (Int×Int)}(hs:ra X T r qs):
  (r≠0/\lu X M o { fy with E:=r } qs)\/(r=0/\(∀n:Int,n=0\/n=1->lu X M o { fy with N:=n } qs)/\∃G J,mN (az X qs) G J [] M):=by
 have z:=acg (M:=M) U;rcases Zk h hs with ⟨rfl,-,V⟩|⟨rfl,G,J,V,h2,L,h3,h4⟩
 ·exact .inl ⟨by omega,.inl ⟨rfl,by rw[U];rfl,.inl (by rw[z];rfl),.inl (by omega)⟩⟩
 ·exact .inr ⟨rfl,λn W=> .inr (.inr ⟨rfl,by rw[z];rfl,.inr ⟨U,n,W,by rw[z]⟩,G,J,by rw[z];exact V.nd,h2,L,by omega,h4⟩),G,J,V⟩
theorem lN:zI fy (.slice none 0 0) (.slice none 0 0)= #[.int .i64 0,.int .i64 0,.int .i64 0,.int .i64 0,.int .i64 0,.slice none 0 0,.slice none 0 0]:=rfl
theorem lO{J:World}{T:Nat}{l:List Nat}{h:Array Value}(hb:bh W g h T)(hc:h.size=7)(U:ay l W J)(V:g∉l)(z:Int):
  ∃G,(storeVar 34 g (.agg #[z,(0:Int),(0:Int),(0:Int),(0:Int),(),()])).run prog J= .ok () G/\(loadVar 34 g).run prog G= .ok (.agg #[z,(0:Int),(0:Int),(0:Int),(0:Int),(),()]) G/\RsP G (cV z) #[z,(0:Int),(0:Int),(0:Int),(0:Int),(),()]/\ay [g] J G:=
 yK hb hc U V (r:=cV z) rfl rfl rfl
theorem acp{U:Nat}(h:rB w b U B [] T own [] M)(hT:dw M){o:jB}{vp vq vd:Value}(hK:o.K=11):
  Calls prog 64 #[cA b o vp vq vd] w (fE w b U B (lu B M o)):=by
 obtain⟨W,hW,cJ,jR,jP,ac⟩:=mH w (cA b o vp vq vd) (zI fy (.slice none 0 0) (.slice none 0 0));have HA:=ar (aeD (h.keep0 cJ).shS (by simp) o.N);have z:=h.lt;have IB:Hid (∀e V,cO W b U B [] 2 (Df (az B []) o.N) e V->∃r G,e=(r:Int)/\(storeVar 34 (w.heap.size+1:Nat) (.agg #[(r:Int),(0:Int),(0:Int),(0:Int),(0:Int),(),()])).run prog V= .ok () G/\(loadVar 34 (w.heap.size+1:Nat)).run prog G= .ok (.agg #[(r:Int),(0:Int),(0:Int),(0:Int),(0:Int),(),()]) G/\fE w b U B (lu B M o) (.returned (.agg #[(r:Int),(0:Int),(0:Int),(0:Int),(0:Int),(),()])) G):=λe V hp=>by
  have aa:=hp;obtain⟨r,qs,gI,rfl,h1,h2,h3,h4,h5⟩:=aa;obtain⟨G,s1,s2,s3,s4⟩:=lO jP rfl h3 (eD z (by omega)) r;refine⟨r,G,rfl,s1,s2,fE.some z cJ (by omega) (Rq:=λr qs=>Df (az B []) o.N r qs/\qs.length<=2) (m:=2) ⟨r,qs,gI,rfl,h1,h2,h3,h4,h5,h4⟩ (by omega) s4 s3 λqs hq=>aeK (h.nd.snd hT) hK hq.1 hq.2⟩
 have c1:W.cell? w.heap.size=some (.pointer (some ⟨b,0,none⟩)):=by rw[jR.cell];rfl
 have c2:W.cell? ⟨w.heap.size,5,none⟩=some (.int .i64 o.N):=by rw[jR.cell];rfl
 have Gj:=l6;clear h hT cJ jR jP ac z;rw[lN] at *;generalize fE w b U B (lu B M o)=Q,cO W b U B [] 2 (Df (az B []) o.N)=SP,hJ:cA b o vp vq vd=J at *;clear hJ;go_in;go_wp2_with fail;refine HA.out.mono ?_;intro e V hp;obtain⟨r,G,rfl,s1,s2,s3⟩:=IB.out e V hp;obtain⟨HS,HL,HF⟩:=hh3 s1 s2 s3;clear s1 s2 s3 hp IB HA c1 c2 hW;go_wp2_with(with_reducible refine gS 34 HS.out ?_);exact aI (bA results64 rfl HL.out) rfl HF.out
theorem Z2 (h:rB w b gp B [] T own [] M)(hT:dw M){o:jB}{vp vq vd:Value}(hK:o.K=12):
  Calls prog 65 #[cA b o vp vq vd] w (fE w b gp B (lu B M o)):=by
 obtain⟨W,hW,cJ,jR,jP,hsz⟩:=mH w (cA b o vp vq vd) (zI fy (.slice none 0 0) (.slice none 0 0));have hS:=h.nd.snd hT;have HA:=ar (ab8 (h.keep0 cJ).shS h.nd.st.all (h.keep0 cJ).tab (by simp));have hlt:=h.lt
 -- where it lacks room
 have j6:Hid (∀r qs kX w1,(kX=gp\/(W.heap.size<=kX/\kX<w1.heap.size))->eK w1 b kX B ([]++qs)->ay [b,gp] W w1->qs.length<=701->ra (az B []) T r qs->r≠0->vS (w.heap.size+1) #[(r:Int),(0:Int),(0:Int),(0:Int),(0:Int),(),()] (fE w b gp B (lu B M o)) w1):=λr qs kX w1 h1 h2 h3 h4 h5 h0=>by
  obtain⟨wy,s1,s2,s3,s4⟩:=lO jP rfl h3 (eD hlt (by omega)) r;refine⟨wy,s1,s2,fE.some hlt cJ (by omega) (Rq:=ra (az B []) T) (m:=701) ⟨r,qs,kX,rfl,h1,h2,h3,h4,h5⟩ (by omega) s4 s3 λqs hq=> ?_⟩;rcases Ty hS hK hq with ⟨-,g⟩|⟨g,-⟩
  ·exact g
  ·exact absurd g h0
 have qZ:Hid (∀qs kX w1,(kX=gp\/(W.heap.size<=kX/\kX<w1.heap.size))->eK w1 b kX B ([]++qs)->ay [b,gp] W w1->qs.length<=701->ra (az B []) T 0 qs->
   ∃d:Bool,(Calls prog 121 #[b] w1 λe w'=>e=d/\w1=w')/\∀n:Int,n=0\/n=1->vS (w.heap.size+1) #[(0:Int),(n:Int),(0:Int),(0:Int),(0:Int),(),()] (fE w b gp B (lu B M o)) w1):=λqs kX w1 h1 h2 h3 h4 h5=>by
  rcases Ty hS hK h5 with ⟨g,-⟩|⟨-,g,T',cW,g2⟩
  ·exact absurd rfl g
  ·refine⟨_,Tf ((h.keep0 cJ).go h2 h3 h1 g2.nd).shS,λn hn=> ?_⟩
   obtain⟨wy,s1,s2,s3,s4⟩:=yK (r:={ fy with N:=n }) jP rfl h3 (eD hlt (by omega)) rfl rfl rfl;exact⟨wy,s1,s2,fE.some hlt cJ (by omega) (Rq:=λr qs=>lu B M o { fy with N:=n } qs) (m:=701) ⟨0,qs,kX,rfl,h1,h2,h3,h4,g n hn⟩ (by omega) s4 s3 λqs hq=>hq⟩
 have c1:W.cell? w.heap.size=some (.pointer (some ⟨b,0,none⟩)):=by rw[jR.cell];rfl
 have HC:Hid (∀w1,ay [b,gp] W w1->w1.cell? w.heap.size=some (.pointer (some ⟨b,0,none⟩))):=λw1 hk=>by rw[(jR.keep hk (eD hlt (by omega))).cell];rfl
 have Gj:=l6;clear h hT cJ jR jP hsz hlt hS;rw[lN] at *;generalize fE w b gp B (lu B M o)=Q,ra (az B []) T=SP,hJ:cA b o vp vq vd=J at *;clear hJ;go_in;go_wp2_with fail;refine HA.out.mono ?_;rintro e w1 ⟨r,qs,kX,rfl,h1,h2,h3,h4,h5⟩;by_cases h0:r=0
 ·subst h0
  obtain⟨d,HD,HR⟩:=qZ.out qs kX w1 h1 h2 h3 h4 h5;have c2:=HC.out w1 h3;have HD:=ar HD;cases d with
  |true=>
   obtain⟨wy,s1,s2,s3⟩:=HR 1 (.inr rfl);obtain⟨HS,HL,HF⟩:=hh3 s1 s2 s3;clear s1 s2 s3 HR j6 qZ HA h1 h2 h3 h4 h5 c1 HC hW;go_wp2_with fail;refine C' HD.out ?_;go_wp2_with(with_reducible refine gS 34 HS.out ?_);exact aI (bA results65 rfl HL.out) rfl HF.out
  |false=>
   obtain⟨wy,s1,s2,s3⟩:=HR 0 (.inl rfl);obtain⟨HS,HL,HF⟩:=hh3 s1 s2 s3;clear s1 s2 s3 HR j6 qZ HA h1 h2 h3 h4 h5 c1 HC hW;go_wp2_with fail;refine C' HD.out ?_;go_wp2_with(with_reducible refine gS 34 HS.out ?_);exact aI (bA results65 rfl HL.out) rfl HF.out
 ·obtain⟨wy,s1,s2,s3⟩:=j6.out r qs kX w1 h1 h2 h3 h4 h5 h0
  obtain⟨HS,HL,HF⟩:=hh3 s1 s2 s3;have b1:(r != 0)=true:=by simpa using h0
  clear s1 s2 s3 j6 qZ HA h1 h2 h3 h4 h5 h0 c1 HC hW;go_wp2_with(with_reducible refine gS 34 HS.out ?_);exact aI (bA results65 rfl HL.out) rfl HF.out
theorem Dq (h:nM X T own [] M){i:Nat}(U:(M i).K≠0):(nT T i).S=(((M i).D.length+(M i).E.length:Nat):Int):=by
 have G:=h.store U;have V:=h.kind i;rw[<-h.ents i,h.abs i];show _=((((if (nT T i).K=1 then qc X (nT T i) else []).length+(nT T i).E.length:Nat)):Int);rcases G.right.2.2 with ⟨J,z⟩|⟨J,z⟩
 ·rw[aB J,nY,z.2.1]
  have :=z.1;omega
 ·rw[aA,z.2.1]
  simp
theorem Z5 (h:rB w b gp B [] T own [] M)(hT:dw M){o:jB}{vp vq vd:Value}{g:Nat}(hP:gN w vp g o.P)(hs:∀s∈o.P,s.size<=9223372036854775807)(hK:o.K=10):
  Calls prog 63 #[cA b o vp vq vd] w (fE w b gp B (lu B M o)):=by
 obtain⟨W,hW,cJ,jR,jP,ac⟩:=mH w (cA b o vp vq vd) (zI fy (.slice none 0 0) (.slice none 0 0));have Gk:=ar (Dn (vq:=vq) (vd:=vd) (h.keep0 cJ) hT (hP.keep cJ (by simp)) hs);have af:=h.lt;obtain⟨fI,lU,lY⟩:=hh3 cJ ac (jJ jR);have ry:Hid ((cM M o.P).2≠0->∀z,ay [] W z->vS (w.heap.size+1) #[.int .i64 (cM M o.P).2,(0:Int),(0:Int),(0:Int),(0:Int),(),()] (fE w b gp B (lu B M o)) z):=λaa z hk=>by
  obtain⟨wy,s1,s2,s3,s4⟩:=lO jP rfl hk (by simp) (cM M o.P).2;exact⟨wy,s1,s2,fE.none h ((cJ.trans' hk).trans s4 (by intro y hy;rw[au] at hy;omega)) s3 (.inr (.inl ⟨aa,Ky (.inr hK) aa⟩))⟩
 have qZ:Hid ((cM M o.P).2=0->(nT T (cM M o.P).1).B.length=13/\∀z,ay [] W z->vS (w.heap.size+1) #[(0:Int),.int .i64 (nT T (cM M o.P).1).S,.int .i64 (nT T (cM M o.P).1).K,.int .i64 (nT T (cM M o.P).1).L,((cM M o.P).1:Int),(),()] (fE w b gp B (lu B M o)) z):=λhe=>by
  have hk:=(nW hT he).1;refine⟨(h.nd.store hk).len,λz zV=> ?_⟩;obtain⟨wy,s1,s2,s3,s4⟩:=yK (r:={ fy with N:=(nT T (cM M o.P).1).S,K:=(nT T (cM M o.P).1).K,L:=(nT T (cM M o.P).1).L,I:=((cM M o.P).1:Int) }) jP rfl zV (by simp) rfl rfl rfl;refine⟨wy,s1,s2,fE.none h ((cJ.trans' zV).trans s4 (by intro y hy;rw[au] at hy;omega)) s3 (.inr (.inr ⟨rfl,?_,?_,?_⟩))⟩
  ·rw[B0 (.inr hK)];show(BK M o).E=0;unfold BK;rw[aA,aB hK];rfl
  ·left
   rw[B0 (.inr hK)];show _=BK M o;unfold BK;rw[aA,aB hK,Dq h.nd hk,h.nd.kind,h.nd.links]
  ·rw[B0 (.inr hK)];exact h.nd.stay
 have Gj:=l6;have rG:=dz;clear h hT hP hs cJ jR jP ac af;unfold AR at Gk;rw[lN] at *;generalize fE w b gp B (lu B M o)=Q,cM M o.P=R,ae:aM cg (.slice none 0 0)=Z0 at *;have jt:=ar ae;generalize hJ:cA b o vp vq vd=J at *;clear hJ ae;obtain⟨x,ee⟩:=R
 dsimp only at *
 go_in;go_wp2_with(with_reducible refine gL 79 lY.out ?_);refine Gk.out.mono ?_;rintro e z ⟨G,⟨he,rfl⟩|⟨rfl,v,g,rfl,hE,hg⟩⟩
 ·obtain⟨V,q1,q2,q3⟩:=cu (n:=cg) (v:= .slice none 0 0) (bh.new z Z0 111) (by rw[<-jt.out];rfl) rfl rfl
  have eV:ay [] z V:=((ay.refl _ _).alloc _).trans q3 (by intro x hx;rw[au] at hx;omega);obtain⟨wy,s1,s2,s3⟩:=ry.out he V (G.trans' eV);rw[jt.out] at q1;obtain⟨jz,HS,HL,HF⟩:=hh4 q1 s1 s2 s3;have b1:(ee != 0)=true:=by simpa using he
  clear hW q1 q2 q3 G eV s1 s2 s3 he ry qZ Gk fI lU lY jt;go_wp2_with(with_reducible first|refine gS 111 jz.out ?_|refine gS 34 HS.out ?_);exact aI (bA results63 rfl HL.out) rfl HF.out
 ·obtain⟨U,JK⟩:=qZ.out rfl
  generalize nT T x=n at *;obtain⟨V,q1,q2,q3⟩:=cu (n:=n) (v:=v) (bh.new z Z0 111) (by rw[<-jt.out];rfl) U hE.one;have eV:ay [] z V:=((ay.refl _ _).alloc _).trans q3 (by intro x hx;rw[au] at hx;omega);obtain⟨wy,s1,s2,s3⟩:=JK V (G.trans' eV);have c1:V.cell? ⟨z.heap.size,1,none⟩=some (.int .i64 n.K):=by rw[q2.cell];exact(gG v U).f1
  have c2:V.cell? ⟨z.heap.size,2,none⟩=some (.int .i64 n.L):=by rw[q2.cell];exact(gG v U).f2
  have c3:V.cell? ⟨z.heap.size,3,none⟩=some (.int .i64 n.S):=by rw[q2.cell];exact(gG v U).f3
  obtain⟨jz,HS,HL,HF⟩:=hh4 q1 s1 s2 s3;clear hW q1 q2 q3 G eV s1 s2 s3 ry qZ Gk fI lU lY jt JK hE hg;generalize aM n v=Zn,n.K=nk,n.L=nl,n.S=ns,(x:Int)=xi at *;go_wp2_with(with_reducible first|refine gS 111 jz.out ?_|refine gS 34 HS.out ?_);exact aI (bA results63 rfl HL.out) rfl HF.out
theorem aaa (h:rB w b gp B [] T own [] M)(hT:dw M){o:jB}{vp vq vd:Value}{g:Nat}(hP:gN w vp g o.P)(hs:∀s∈o.P,s.size<=9223372036854775807)(hK:o.K=9):
  Calls prog 62 #[cA b o vp vq vd] w (fE w b gp B (lu B M o)):=by
 obtain⟨W,hW,cJ,jR,jP,ae⟩:=mH w (cA b o vp vq vd) (zI fy (.slice none 0 0) (.slice none 0 0));have Gk:=ar (Dn (vq:=vq) (vd:=vd) (h.keep0 cJ) hT (hP.keep cJ (by simp)) hs);have ah:=h.lt;obtain⟨fI,lU,lY⟩:=hh3 cJ ae (jJ jR);have O4:(cM M o.P).2=0->kF M o=(M,if (M (cM M o.P).1).K≠2 then cV 4 else { fy with S:=(M (cM M o.P).1).E }):=λU=>by
  rw[B0 (.inl hK)];unfold BK;rw[aA,aA (c:=o.K=10) (by omega)]
 have ry:Hid (∀r,r≠0->(kF M o).2=cV r->∀z,ay [] W z->vS (w.heap.size+1) #[(r:Int),(0:Int),(0:Int),(0:Int),(0:Int),(),()] (fE w b gp B (lu B M o)) z):=λr aa hd z hk=>by
  obtain⟨wy,s1,s2,s3,s4⟩:=lO jP rfl hk (by simp) r;exact⟨wy,s1,s2,fE.none h ((cJ.trans' hk).trans s4 (by intro y hy;rw[au] at hy;omega)) s3 (.inr (.inl ⟨aa,hd⟩))⟩
 have ub:Hid ((cM M o.P).2≠0->(kF M o).2=cV (cM M o.P).2):=λaa=>Ky (.inl hK) aa
 have rO:Hid ((cM M o.P).2=0->(nT T (cM M o.P).1).K≠2->(kF M o).2=cV 4):=λU hk=>by rw[O4 U];show(if _ then _ else _)=_;rw[aB (by rw[<-h.nd.kind];exact hk)]
 have qZ:Hid ((cM M o.P).2=0->(nT T (cM M o.P).1).B.length=13/\((nT T (cM M o.P).1).K=2->∀z v g,ay [] W z->bD z v g (nT T (cM M o.P).1).E->W.heap.size<=g->vS (w.heap.size+1) #[(0:Int),(0:Int),(0:Int),(0:Int),(0:Int),(),v] (fE w b gp B (lu B M o)) z)):=λU=>by
  have hk:=(nW hT U).1;refine⟨(h.nd.store hk).len,λai z v g zV V hg=> ?_⟩;have JT:Ji z { fy with S:=(nT T (cM M o.P).1).E } #[(0:Int),(0:Int),(0:Int),(0:Int),(0:Int),(),v]:=⟨.slice none 0 0,v,rfl,⟨0,tS _ _⟩,g,V⟩;obtain⟨wy,s1,s2,s3⟩:=BU (jP.keep zV (by simp)) rfl JT;have af:xb w.heap.size wy { fy with S:=(nT T (cM M o.P).1).E } #[(0:Int),(0:Int),(0:Int),(0:Int),(0:Int),(),v]:=⟨.slice none 0 0,v,rfl,⟨0,tS _ _,λh=>absurd rfl h⟩,g,V.keep s3 (λ_=>by rw[au];omega),λ_=>by omega⟩;refine⟨wy,s1,zo s2 af.at,fE.noneAt h ((cJ.trans' zV).trans s3 (by intro y hy;rw[au] at hy;omega)) af (.inr (.inr ⟨rfl,?_,.inl ?_,?_⟩))⟩
  ·rw[O4 U];show(if _ then _ else _:mM).E=0;rw[aA (by rw[<-h.nd.kind];omega)];rfl
  ·rw[O4 U];show _=(if _ then _ else _:mM);rw[aA (by rw[<-h.nd.kind];omega),h.nd.ents]
  ·rw[O4 U];exact h.nd.stay
 have Gj:=l6;have rG:=dz;clear h hT hP hs cJ jR jP ae ah O4;unfold AR at Gk;rw[lN] at *;generalize fE w b gp B (lu B M o)=Q,cM M o.P=R,ag:aM cg (.slice none 0 0)=Z0 at *;have jt:=ar ag;generalize hJ:cA b o vp vq vd=J at *;clear hJ ag;obtain⟨x,ee⟩:=R
 dsimp only at *
 go_in;go_wp2_with(with_reducible refine gL 79 lY.out ?_);refine Gk.out.mono ?_;rintro e z ⟨G,⟨U,rfl⟩|⟨rfl,v,g,rfl,V,hg⟩⟩
 ·obtain⟨w2,q1,q2,q3⟩:=cu (n:=cg) (v:= .slice none 0 0) (bh.new z Z0 111) (by rw[<-jt.out];rfl) rfl rfl
  have eV:ay [] z w2:=((ay.refl _ _).alloc _).trans q3 (by intro x hx;rw[au] at hx;omega);obtain⟨wy,s1,s2,s3⟩:=ry.out ee U (ub.out U) w2 (G.trans' eV);rw[jt.out] at q1;obtain⟨jz,HS,HL,HF⟩:=hh4 q1 s1 s2 s3;have b1:(ee != 0)=true:=by simpa using U
  clear hW q1 q2 q3 G eV s1 s2 s3 U ry ub rO qZ Gk fI lU lY jt;go_wp2_with(with_reducible first|refine gS 111 jz.out ?_|refine gS 34 HS.out ?_);exact aI (bA results62 rfl HL.out) rfl HF.out
 ·obtain⟨ac,JK⟩:=qZ.out rfl
  have rO:=ar (rO.out rfl);generalize nT T x=n at *;obtain⟨w2,q1,q2,q3⟩:=cu (n:=n) (v:=v) (bh.new z Z0 111) (by rw[<-jt.out];rfl) ac V.one;have eV:ay [] z w2:=((ay.refl _ _).alloc _).trans q3 (by intro x hx;rw[au] at hx;omega);have c1:w2.cell? ⟨z.heap.size,1,none⟩=some (.int .i64 n.K):=by rw[q2.cell];exact(gG v ac).f1
  have c2:w2.cell? ⟨z.heap.size,17,none⟩=some v:=by rw[q2.cell];exact(gG v ac).f5
  have jz:=ar q1;by_cases h2:n.K=2
  ·obtain⟨sa,sc,rfl,-⟩:=id V
   obtain⟨wy,s1,s2,s3⟩:=JK h2 w2 _ g (G.trans' eV) (V.keep eV (by simp)) hg;obtain⟨HS,HL,HF⟩:=hh3 s1 s2 s3;rw[h2] at c1;clear hW q1 q2 q3 G eV s1 s2 s3 ry ub rO qZ Gk fI lU lY jt JK V hg h2;generalize aM n _=Zn,n.E.length=el at *;go_wp2_with(with_reducible first|refine gS 111 jz.out ?_|refine gS 34 HS.out ?_);exact aI (bA results62 rfl HL.out) rfl HF.out
  ·obtain⟨wy,s1,s2,s3⟩:=ry.out 4 (by omega) (rO.out h2) w2 (G.trans' eV)
   obtain⟨HS,HL,HF⟩:=hh3 s1 s2 s3;have b2:(n.K != 2)=true:=by simpa using h2
   clear hW q1 q2 q3 G eV s1 s2 s3 ry ub rO qZ Gk fI lU lY jt JK V hg h2;generalize aM n v=Zn,n.K=nk at *;go_wp2_with(with_reducible first|refine gS 111 jz.out ?_|refine gS 34 HS.out ?_);exact aI (bA results62 rfl HL.out) rfl HF.out
theorem mN.journal(h:mN X T own [] M)(J:Y.length=3128)(z:In64 Y)(G:∀k,k<3128->(k<8\/816<=k)->Y.getD k 0=X.getD k 0):
  mN Y T own [] M/\aZ Y=aZ X:=by
 obtain⟨V,U⟩:=h.st.journal J z G;refine⟨⟨V,λj=>by rw[h.abs,h.st.nodes U (by simp)],h.tree⟩,uJ λc W _=> ?_⟩;unfold dF bw;rw[G _ (by omega) (by omega)]
def RI (X:List Int) (M:Nat->Nd):Prop:=X.getD 8 0=0/\∃T own,mN X T own [] M
theorem RI.len(h:RI X M):X.length=3128:=by obtain⟨-,T,own,h⟩:=h;exact h.st.len
theorem RI.w64(h:RI X M):In64 X:=by obtain⟨-,T,own,h⟩:=h;exact h.st.w64
theorem RI.tree(h:RI X M):dw M:=by obtain⟨-,T,own,h⟩:=h;exact h.tree
theorem RI.few(h:RI X M):nj M:=by obtain⟨-,T,own,h⟩:=h;exact h.few
theorem RI.lands{M':Nat->Nd}(h:RI X M){qs:List (Int×Int)}(hl:z7 X qs M')(hT:dw M'):
  okP (dg X (az X qs) 3128)/\xM (dg X (az X qs) 3128)=true/\(dg X (az X qs) 3128).length<=400/\RI (nP X (dg X (az X qs) 3128)) M'/\
   ∀Z:List Int,Z.length=3128->In64 Z->(∀k,k<3128->(k<8\/816<=k)->Z.getD k 0=(az X qs).getD k 0)->∃T own,mN Z T own [] M':=by
 obtain⟨h8,T,own,W⟩:=h;obtain⟨V,U,hn,hj,L,hL,G⟩:=hl;have z:(dg X (az X qs) 3128).length<=400:=cE (ab6 G) hL;have J:=hn.snd hT;obtain⟨c1,c2,c3,c4,c5,c6⟩:=OE W.st.len W.st.w64 J.st.w64 hj h8 z;exact⟨c1,c2,z,⟨c5,V,U,(J.journal c3 c4 c6).1⟩,λZ z1 z2 z3=>⟨V,U,(J.journal z1 z2 z3).1⟩⟩
theorem aab{T:Nat}{h:Value}(z:bh w g (BV o h vq vd) T):(loadVar 37 g).run prog w= .ok (.agg #[o.K,h,vq,o.O,o.N,vd]) w:=
 b7 g 0 [.int .i64 o.K,h,vq,.int .i64 o.O,.int .i64 o.N,vd] underlying37 rfl (by kernel_rfl) λj _=>by
  rw[z.cell,bc,<-aF];rfl
def DoP (w:World) (X:List Int) (M:Nat->Nd) (o:jB) (ks:List Nat) (C:List (Int×Int)->Int->World->Prop) (e:Ending) (w':World):Prop:=
 ∃r Z,e= .returned (.agg Z)/\xb w.heap.size w' r Z/\
  ((ay [] w w'/\r.E≠0/\∃h qs,lu X M o h qs/\r=cV h.E)\/
  (ay ks w w'/\∃h qs x,lu X M o h qs/\h.E=0/\C (dg X (az X qs) 3128) x w'/\((x=0/\r=h)\/(x≠0/\r=cV x))))
theorem lu.E_zero{r:mM}{qs:List (Int×Int)}(h:lu X M o r qs)(G:r.E=0):(kF M o).2.E=0/\aeG o r (kF M o).2/\z7 X qs (kF M o).1:=by
 rcases h with ⟨z,-⟩|⟨z,-⟩|⟨-,V,J,U⟩
 ·omega
 ·exact absurd G z
 ·exact⟨V,J,U⟩
theorem acq{f:Nat}{s:iV}{vp:Value}{ks:List Nat}{C:List (Int×Int)->Int->World->Prop}
  (ba:Fp M o) (hf:ZY w f b) (h:fw w b gn gl gf s) (hX:s.now=X) (hp:∀k:Nat,k<s.now.length->s.refusal (k:Int)=0/\s.load (k:Int)=s.now.getD k 0) (hs:RI X M) (hT:lD w) (hI:Ie w o vp vq vd) (af:∀y∈ks,y<w.heap.size)
  (hC:∀ps x wa wb l,(∀y∈l,w.heap.size<=y)->ay l wa wb->C ps x wa->C ps x wb)
  (aV:∀w1 v g qs G,ay [] w w1->lu X M o G qs->G.E=0->ku w1 v g (dg X (az X qs) 3128)->w.heap.size<=g->Calls prog 28 #[b,v] w1 λe w2=>∃x,e=(x:Int)/\ay ks w1 w2/\C (dg X (az X qs) 3128) x w2):
  Calls prog 10 #[f,BV o vp vq vd] w (DoP w X M o ks C):=by
 have bb:=hf.lt;obtain⟨W,hW⟩:∃W,(w.alloc (.cells (BV o vp vq vd) 37)).alloc (.cells (zI fy (.slice none 0 0) (.slice none 0 0)) 34)=W:=⟨_,rfl⟩;have cJ:ay [] w W:=by rw[<-hW];exact((ay.refl _ _).alloc _).alloc _
 have aP:bh W w.heap.size (BV o vp vq vd) 37 :=by rw[<-hW];exact(bh.new w _ _).alloc _
 have jP:bh W (w.heap.size+1) (zI fy (.slice none 0 0) (.slice none 0 0)) 34 :=by rw[<-hW];exact bh.new2 w _ _ _ _
 have aY:W.heap.size=w.heap.size+2:=by rw[<-hW,aX,aX]
 have HW:=ar hW
 -- what the calls leave
 have ak:Hid (∀wx l,(∀y∈l,w.heap.size<=y)->ay l W wx->wx.cell? f=some (.pointer (some ⟨b,0,none⟩))):=λwx l hl hk=>by
  have h1:bh W f _ _:=hf.keep cJ (by simp);have h2:=h1.keep hk (λhm=>by have :=hl f hm;omega);rw[h2.cell];rfl
 have c0:=ak.out W [] (by simp) (ay.refl _ _);have mY:=ar (Ig (h.keep cJ (by simp) (by simp)) hp);rw[hX] at mY;have OZ:kU X=X:=by
  apply cU (by rw[iF,hs.len]);intro k h1 h2;have :=uT X k;rw[iF] at h1;rw[aj,aD (by rw[iF];exact h1),eZ] at this;rw[this,aB h1,aj,aD h2];rfl
 have aT:=ar OZ;have vZ:Hid (∀w2 U,ay [] W w2->w.heap.size+2<=U->eK w2 U U X []->Calls prog 27 #[cA U o vp vq vd] w2 λe w'=>∃fn,e= .returned (.func (.func fn) #[cA U o vp vq vd] #[])/\ay [] w2 w'/\(∀wx,(callFunc fn #[cA U o vp vq vd]).run prog wx= .ok (.enter fn #[cA U o vp vq vd]) wx)/\Calls prog fn #[cA U o vp vq vd] w' (fE w' U U X (lu X M o))):=λw2 U hk hb aa=>by
  obtain⟨-,T,own,Fk⟩:=id hs;have bf:rB w2 U U X [] T own [] M:=⟨aa,by rw[Ad];exact Fk.nd,⟨aa.raw.lt,aa.raw.lt⟩,λwx hx=>hT.keep ((cJ.trans' hk).trans hx λy V=> .inr (by simp only[aL,aK,bC,or_self] at V;omega))⟩;refine(ba w2 U U X T own vp vq vd bf hs.tree ((hI.keep cJ).keep hk)).mono ?_;rintro e w' ⟨fn,rfl,h1,ah,h2⟩;exact⟨fn,rfl,h1,ah,h2 w' h1⟩
 have Ga:Hid (∀w5 (U gp:Nat) qs G,ay [] W w5->eK w5 U gp X qs->lu X M o G qs->G.E=0->∀wx,ay [] w5 wx->Calls prog 29 #[(U:Nat)] wx λe w6=>∃a n cap,e= .returned (.slice a n cap)/\w6.cell? f=some (.pointer (some ⟨b,0,none⟩))/\
   Hid (Calls prog 28 #[b,.slice a n cap] w6 λe z=>∃x,e=(x:Int)/\Hid (ay ks w5 z/\C (dg X (az X qs) 3128) x z))):=λw5 U gp qs G hk aa hO h0 wx zV=>by
  refine(RH (aa.keep zV (by simp) (by simp))).mono ?_;rintro e w6 ⟨v,g,rfl,hr,hg,jW⟩;obtain⟨a,cap,rfl,-,-⟩:=hr.val;have O5:=zV.trans' jW;refine⟨a,_,cap,rfl,ak.out w6 [] (by simp) (hk.trans' O5),?_⟩;have h1:=aV w6 _ g qs G (cJ.trans' (hk.trans' O5)) hO h0 hr (by have :=zV.size;have :=hk.size;omega);show Calls _ _ _ _ _;refine h1.mono ?_;rintro e z ⟨x,rfl,h2,h3⟩;exact⟨x,rfl,(O5.mono (by simp)).trans' h2,h3⟩
 -- an error, and what is told
 have ry:Hid (∀w5 l G qs,ay l W w5->(∀y∈l,w.heap.size+2<=y)->lu X M o G qs->G.E≠0->vS (w.heap.size+1) #[G.E,(0:Int),(0:Int),(0:Int),(0:Int),(),()] (DoP w X M o ks C) w5):=λw5 l G qs hk hl hO h0=>by
  obtain⟨wy,s1,s2,s3,s4⟩:=lO jP rfl hk (λhm=>by have :=hl _ hm;omega) G.E;refine⟨wy,s1,s2,cV G.E,_,rfl,s3 _,.inl ⟨?_,h0,G,qs,hO,rfl⟩⟩;have :=(cJ.trans hk (λy V=> .inr (by have :=hl y V;omega))).trans s4 (l':=[w.heap.size+1]) (λy V=> .inr (by rw[au] at V;omega));exact this
 have aA:Hid (∀w5 z l G qs x,ay l W w5->(∀y∈l,w.heap.size+2<=y)->ay ks w5 z->lu X M o G qs->G.E=0->C (dg X (az X qs) 3128) x z->x≠0->vS (w.heap.size+1) #[(x:Int),(0:Int),(0:Int),(0:Int),(0:Int),(),()] (DoP w X M o ks C) z):=λw5 z l G qs x hk hl ET hO h0 hc hx=>by
  have Mh:=(jP.keep hk (λhm=>by have :=hl _ hm;omega)).keep ET (λhm=>by have :=af _ hm;omega);obtain⟨wy,s1,s2,s3,s4⟩:=lO Mh rfl (ay.refl [] z) (by simp) x;refine⟨wy,s1,s2,cV x,_,rfl,s3 _,.inr ⟨?_,G,qs,x,hO,h0,hC _ _ z wy _ (by intro y V;rw[au] at V;omega) s4 hc,.inr ⟨hx,rfl⟩⟩⟩;have h1:ay [] w w5:=cJ.trans hk (λy V=> .inr (by have :=hl y V;omega));exact((h1.mono (by simp)).trans' ET).trans s4 (λy V=> .inr (by rw[au] at V;omega))
 have qZ:Hid (∀w4 w5 z l G Z qs,ay l W w4->(∀y∈l,w.heap.size+2<=y)->xb (w.heap.size+2) w4 G Z->ay [w4.heap.size] w4 w5->bh w5 w4.heap.size Z 34->ay ks w5 z->lu X M o G qs->G.E=0->C (dg X (az X qs) 3128) 0 z->
   (loadVar 34 w4.heap.size).run prog z= .ok (.agg Z) z/\vS (w.heap.size+1) Z (DoP w X M o ks C) z):=λw4 w5 z l G Z qs hk hl hr rF rU ET hO h0 hc=>by
  have bn:=hk.size;have bj:xb (w.heap.size+2) w5 G Z:=by
   obtain⟨ad,ae,e,⟨g1,a1,a2⟩,g2,b1,b2⟩:=hr;refine⟨ad,ae,e,⟨g1,?_,a2⟩,g2,?_,b2⟩
   ·by_cases hD:G.D=[]
    ·rw[hD] at a1 ⊢
     obtain⟨x1,x2,x3,x4,x5,-⟩:=a1;exact⟨x1,x2,x3,x4,x5,λh=>absurd rfl h⟩
    ·exact a1.keep rF (λhm=>by
      rw[au] at hm;obtain⟨_,_,_,_,_,x6⟩:=a1;have :=(x6 (by intro e;apply hD;simpa[kT] using e)).1;omega)
   ·refine b1.keep rF (λhn hm=> ?_)
    rw[au] at hm;obtain⟨_,_,_,_,_,x6⟩:=b1;have :=(x6 hn).1;omega
  have Mh:=rU.keep ET (λhm=>by have :=af _ hm;omega);have av:=bj.keep ET (λx hx=>by have :=af x hx;omega);have bc:=((jP.keep hk (λhm=>by have :=hl _ hm;omega)).keep rF (by rw[au];omega)).keep ET (λhm=>by have :=af _ hm;omega);obtain⟨wy,s1,s2,s3⟩:=BU bc rfl av.at;have aN:=av.keep s3 (λx hx=>by rw[au] at hx;omega);refine⟨zo Mh av.at,wy,s1,zo s2 aN.at,G,Z,rfl,aN.mono (by omega),.inr ⟨?_,G,qs,0,hO,h0,hC _ _ z wy _ (by intro y V;rw[au] at V;omega) s3 hc,.inl ⟨rfl,rfl⟩⟩⟩;have h1:ay [] w w5:=(cJ.trans hk (λy V=> .inr (by have :=hl y V;omega))).trans rF (λy V=> .inr (by rw[au] at V;omega));exact((h1.mono (by simp)).trans' ET).trans s3 (λy V=> .inr (by rw[au] at V;omega))
 have Ll:Hid (∀wx,ay [] W wx->(loadVar 37 w.heap.size).run prog wx= .ok (.agg #[o.K,vp,vq,o.O,o.N,vd]) wx):=λwx hk=>aab (aP.keep hk (by simp))
 have lU:=ar aY;have Gj:=l6;clear ba h hX hp hs hT hI af hC aV hf bb cJ aP jP aY OZ;rw[lN] at hW Gj;generalize DoP w X M o ks C=Q at *;unfold BV at hW;show Calls _ _ #[f,.agg #[o.K,vp,vq,o.O,o.N,vd]] w Q;go_in;go_wp2_with fail;refine mY.out.mono ?_;rintro e w1 ⟨v,g,rfl,hr,hg,aU⟩;have HN:=Bb hr;rw[aT.out] at HN;obtain⟨HN,jK⟩:=hh2 HN aU;clear hr hg aU mY aT hW c0;go_wp2_with fail;refine HN.out.mono ?_;rintro e w2 ⟨U,rfl,bk,aa,aO⟩;have uG:=jK.out.trans' aO;have aJ:w.heap.size+2<=U:=by have :=jK.out.size;have :=lU.out;omega
 obtain⟨HD,aR,fx⟩:=hh3 (vZ.out w2 U uG aJ aa) (Ll.out w2 uG) uG;have oQ:Hid (w.heap.size+2<=U/\U<w2.heap.size):=⟨aJ,aa.raw.lt⟩;clear bk aa aO uG aJ HN jK Ll vZ;obtain⟨J,hJ⟩:∃J,cA U o vp vq vd=J:=⟨_,rfl⟩;have aS:=ar hJ;unfold cA at hJ;rw[aS.out] at HD;go_wp2_with(with_reducible refine gL 37 aR.out ?_);refine HD.out.mono ?_;rintro e w3 ⟨fn,rfl,aH,ah,aQ⟩;obtain⟨bl,aM,oI⟩:=hh3 (ah w3) aQ (fx.out.trans' aH);have qI:Hid (U<w3.heap.size/\W.heap.size<=U):=by have :=oQ.out;have :=lU.out;have :=aH.size;exact⟨by omega,by omega⟩
 clear aH aQ ah HD fx aR oQ hJ aS;go_wp2_with fail;rw[bl.out,Oper.upon_enter];refine aM.out.mono ?_;rintro e w4 ⟨r,Z,qs,gp,rfl,ac,aW,ag,ax,aZ,SV⟩;have Jj:ay [] W w4:=oI.out.trans ax λy V=> .inr (by simp only[aL,aK,bC,or_self] at V;have :=qI.out;omega)
 obtain⟨w5,p1,p2,p3⟩:=BU (bh.new w4 #[(0:Int),(0:Int),(0:Int),(0:Int),(0:Int),(),()] 34) rfl ac.at;have rF:ay [w4.heap.size] w4 w5:=((ay.refl _ _).alloc _).trans' p3;have We:ay [] W w5:=Jj.trans rF λy V=> .inr (by rw[au] at V;have :=Jj.size;omega)
 have aF:eK w5 U gp X qs:=ag.keep rF (by rw[au];have :=ag.raw.lt;omega) (by rw[au];have :=ag.raw.lt;omega);have c5:w5.cell? w4.heap.size=some (.int .i64 r.E):=by
  obtain⟨_,_,rfl,-⟩:=ac;rw[p2.cell];rfl
 have rz:=ar p1;have aC:xb (w.heap.size+2) w4 r Z:=ac.mono (by have :=oI.out.size;have :=lU.out;omega);by_cases hE:r.E=0
 ·have BC:=ar (Ga.out w5 U gp qs r We aF SV hE)
  have HX:Hid (∀z x,ay ks w5 z->C (dg X (az X qs) 3128) x z->x≠0->vS (w.heap.size+1) #[(x:Int),(0:Int),(0:Int),(0:Int),(0:Int),(),()] Q z):=λz x h1 h2 h3=>aA.out w5 z [] r qs x We (by simp) h1 SV hE h2 h3
  have aG:Hid (∀z,ay ks w5 z->C (dg X (az X qs) 3128) 0 z->(loadVar 34 w4.heap.size).run prog z= .ok (.agg Z) z/\vS (w.heap.size+1) Z Q z):=λz h1 h2=>qZ.out w4 w5 z [] r Z qs Jj (by simp) aC rF p2 h1 SV hE h2
  have c0:=ak.out w5 [] (by simp) We;rw[hE] at c5;generalize C (dg X (az X qs) 3128)=CC at *;clear Ga ry aA qZ ac aC aW ag ax aZ SV Jj p1 p2 p3 rF We aF aM oI qI hE;go_wp2_with(with_reducible refine gS 34 rz.out ?_)
  go_upto_region 9 with fail
  go_cut [10] (λXt wx=>∃x:Int,Xt= .int .i64 x/\Hid (ay ks w5 wx/\CC x wx))
  case first=>
   go_region_with (first|(go_at_call 29;refine(BC.out _ (by first|exact ay.refl _ _|exact(ay.refl _ _).drew)).mono ?_;rintro e w6 ⟨a,n,cap,rfl,c6,Lg⟩)|(go_at_call 28;refine Lg.out.mono ?_;rintro e z ⟨x,rfl,bg⟩))
   all_goals go_wp2_with fail
   all_goals go_meet
   all_goals exact⟨_,rfl,bg⟩
  case rest=>
   obtain⟨x,rfl,HC⟩:=hcut;obtain⟨ET,ai⟩:=HC.out;by_cases hx:x=0
   ·subst hx
    obtain⟨l1,wy,s1,s2,s3⟩:=aG.out wc ET ai;obtain⟨xw,HS,HL,HF⟩:=hh4 l1 s1 s2 s3;clear BC HX aG HC ET ai l1 s1 s2 s3 rz c0 c5;go_wp2_with(with_reducible first|refine gL 34 xw.out ?_|refine gS 34 HS.out ?_);exact aI (bA results10 rfl HL.out) rfl HF.out
   ·obtain⟨wy,s1,s2,s3⟩:=HX.out wc x ET ai hx
    have b1:(x != 0)=true:=by simpa using hx
    obtain⟨HS,HL,HF⟩:=hh3 s1 s2 s3;clear BC HX aG HC ET ai s1 s2 s3 rz c0 c5 hx;go_wp2_with(with_reducible refine gS 34 HS.out ?_);exact aI (bA results10 rfl HL.out) rfl HF.out
 ·obtain⟨wy,s1,s2,s3⟩:=ry.out w5 [] r qs We (by simp) SV hE
  have b1:(r.E != 0)=true:=by simpa using hE
  obtain⟨HS,HL,HF⟩:=hh3 s1 s2 s3;clear Ga ry aA qZ ac aC aW ag ax aZ SV Jj p1 p2 p3 rF We aF aM oI qI hE s1 s2 s3;go_wp2_with(with_reducible first|refine gS 34 rz.out ?_|refine gS 34 HS.out ?_);exact aI (bA results10 rfl HL.out) rfl HF.out
def nF (n:Nat):List Bool:=List.replicate n false
def mF (n q:Nat):List Bool:=(List.range n).map λj=>decide (j<8*q)
theorem aeN (n k:Nat):(nF n).set k false=nF n:=by
 unfold nF;apply cU (by simp);intro j z h;rw[List.getElem_set];split<;>simp
theorem acr (n:Nat):mF n 0=nF n:=by
 unfold nF mF;apply cU (by simp);intro j z h;simp
theorem aeO (n q:Nat):(mF n q).length=n:=by simp[mF]
theorem acs (n q:Nat):Ag (mF n q) q 8=mF n (q+1):=by
 unfold Ag mF;apply cU (by simp);intro j G z;simp only[List.getElem_mapIdx,ic,j0];by_cases h:q*8<=j/\j<q*8+8
 ·rw[aB h]
  exact(bu (by omega)).symm
 ·rw[aA h]
  exact decide_eq_decide.2 (by omega)
theorem aeP{q j:Nat}(h:j<n)(z:j<8*q):(mF n q).getD j false=true:=by
 unfold mF;rw[aj,bJ,cB h];exact bu z
def xH (N:Nat) (xs ws:List Int) (d:Int) (k:Nat):iV:={ now:=mix ws xs k,last:=xs,fl:=nF N,deeds:=d+(k:Int),fused:=false,left:=0 }
def Fq (N:Nat) (xs ws:List Int) (d:Int) (q:Nat):iV:={ now:=ws,last:=xs,fl:=mF N q,deeds:=d+(N:Int)+(q:Int),fused:=false,left:=0 }
section
variable {N:Nat} {xs ws:List Int} {d:Int} {k q:Nat}
theorem Wf (z:N=3128)(G:xs.length=N):xH N xs ws d 0=calm xs d:=by
 have h:nF N=List.replicate ((xs.length+7)/8*8) false:=by
  unfold nF
  congr 1
  omega
 unfold xH calm;rw[Xa,h]
 congr 1
 exact Int.add_zero d
theorem En (h:xs.length=N)(U:ws.length=N)(J:k<N):(xH N xs ws d k).refusal (k:Int)=0:=by
 unfold iV.refusal;have G:¬(xH N xs ws d k).gone=true:=Bool.false_ne_true;have z:(xH N xs ws d k).now.length=N:=by
  show(mix ws xs k).length=N;rw[aaO _ _ _ (by omega),h]
 rw[aA G,z,aA]
theorem Wh (z:xs.length=N)(J:ws.length=N)(h:k<N):(xH N xs ws d k).store (k:Int) (ws.getD k 0)=xH N xs ws d (k+1):=by
 unfold iV.store;rw[aB (En z J h),aG];have U:(xH N xs ws d k).now.set k (ws.getD k 0)=mix ws xs (k+1):=(Xb ws xs k (by omega) (by omega)).symm;have G:(xH N xs ws d k).fl.set k false=nF N:=aeN N k;rw[U,G];show({ now:=mix ws xs (k+1),last:=xs,fl:=nF N,deeds:=d+(k:Int)+1,fused:=false,left:=0 }:iV)={ now:=mix ws xs (k+1),last:=xs,fl:=nF N,deeds:=d+((k+1:Nat):Int),fused:=false,left:=0 }
 congr 1
 omega
theorem aae (h:xs.length=N)(z:ws.length=N):xH N xs ws d N=Fq N xs ws d 0:=by
 unfold xH Fq;rw[aaN _ _ _ (by omega) (by omega),acr]
 congr 1
 omega
theorem Ih (G:ws.length=N)(J:8*q<N):(Fq N xs ws d q).refusal ((8*q:Nat):Int)=0:=by
 unfold iV.refusal;have z:¬(Fq N xs ws d q).gone=true:=Bool.false_ne_true;have h:(Fq N xs ws d q).now.length=N:=G;rw[aA z,h,aA]
theorem aaf (G:ws.length=N)(h:8*q<N):(Fq N xs ws d q).flush ((8*q:Nat):Int)=Fq N xs ws d (q+1):=by
 unfold iV.flush;have z:Ag (Fq N xs ws d q).fl (((8*q:Nat):Int).toNat/8) 8=mF N (q+1):=by
  rw[aG,show 8*q/8=q by omega];exact acs N q
 rw[aB (Ih G h),z];show({ now:=ws,last:=xs,fl:=mF N (q+1),deeds:=d+(N:Int)+(q:Int)+1,fused:=false,left:=0 }:iV)={ now:=ws,last:=xs,fl:=mF N (q+1),deeds:=d+(N:Int)+((q+1:Nat):Int),fused:=false,left:=0 }
 congr 1
 omega
theorem Wi (hN:N=3128)(hq:q=391)(U:xs.length=N)(J:ws.length=N):(Fq N xs ws d q).fence=calm ws (d+3520):=by
 unfold iV.fence;have V:¬(Fq N xs ws d q).gone=true:=Bool.false_ne_true;have h1:iJ (Fq N xs ws d q) (Fq N xs ws d q).now.length=ws:=by
  have z:=DA (Fq N xs ws d q) (Fq N xs ws d q).now.length;have h:(Fq N xs ws d q).last.length=N:=U;apply cU (by rw[z,h,J]);intro j G W;rw[z,h] at G;have hn:(Fq N xs ws d q).now.length=N:=J;simp only[iJ,List.getElem_mapIdx];rw[aB ⟨by omega,aeP G (by omega)⟩];show ws.getD j 0=ws[j];rw[aj,aD W];rfl
 have h2:(Fq N xs ws d q).fl.length=(ws.length+7)/8*8:=by
  show(mF N q).length=_;rw[aeO];omega
 rw[aA V,h1,h2];show({ now:=ws,last:=ws,fl:=List.replicate ((ws.length+7)/8*8) false,deeds:=d+(N:Int)+(q:Int)+1,fused:=false,left:=0 }:iV)={ now:=ws,last:=ws,fl:=List.replicate ((ws.length+7)/8*8) false,deeds:=d+3520,fused:=false,left:=0 }
 congr 1
 omega
theorem aag (G:0<=d)(h:d<1000000000000000000)(z:k<=3128):(xH N xs ws d k).fit:=by
 unfold iV.fit xH
 dsimp only
 omega
theorem Tz (G:N=3128)(J:0<=d)(z:d<1000000000000000000)(h:q<=3128):(Fq N xs ws d q).fit:=by
 unfold iV.fit Fq
 dsimp only
 omega
end
theorem RJ{ws:List Int}(h:fw w b gn gl gf (calm xs d))(h0:0<=d)(hd:d<100000000000000000)(ai:xs.length=3128)(ae:ws.length=3128){v:Value}{g:Nat}(hr:Reads w v g (aY ws))(hg:g∉[b,gn,gl,gf]):
  Calls prog 50 #[b,v] w λe w'=>e=(0:Int)/\fw w' b gn gl gf (calm ws (d+3520))/\ay [b,gn,gl,gf] w w':=by
 obtain⟨N,hN⟩:∃N:Nat,N=3128:=⟨_,rfl⟩;have hx:xs.length=N:=by omega
 have hw:ws.length=N:=by omega
 obtain⟨a,cap,rfl,ak,aj,HC⟩:=fV hr;obtain⟨ah,off,rfl,-⟩:=HC.out 0 (by omega);have UW:Hid (∀G,ay [b,gn,gl,gf] w G->∀k,k<3128->G.cell? ⟨g,off+k,none⟩=some (.int .u64 (ws.getD k 0))):=λG hk k aa=>by
  obtain⟨-,av,e1,e2⟩:=HC.out k (by omega);cases e1;rw[aO (w:=w) (a:=⟨g,off+k,none⟩) (hk.block g ah hg)];exact e2
 rw[ae] at ak ⊢;unfold maxLen at aj;have H0:Hid (fw w b gn gl gf (xH N xs ws d 0)):=by
  show fw _ _ _ _ _ _;rw[Wf hN hx];exact h
 have ac:Hid (∀G (k:Nat),k<3128->fw G b gn gl gf (xH N xs ws d k)->Calls prog 18 #[b,(k:Int),.int .u64 (ws.getD k 0)] G λe w'=>e=(0:Int)/\fw w' b gn gl gf (xH N xs ws d (k+1))/\ay [b,gn,gl,gf] G w'):=λG k hk U=>by
  have :=FA U (aag h0 (by omega) (by omega)) (k:Int) (ws.getD k 0);rw[En hx hw (by omega),Wh hx hw (by omega)] at this;exact this
 have Vm:Hid (∀G (q:Nat),q<391->fw G b gn gl gf (Fq N xs ws d q)->Calls prog 102 #[b,((8*q:Nat):Int)] G λe w'=>e=(0:Int)/\fw w' b gn gl gf (Fq N xs ws d (q+1))/\ay [b,gn,gl,gf] G w'):=λG q hq U=>by
  have :=FB U (Tz hN h0 (by omega) (by omega)) ((8*q:Nat):Int);rw[Ih hw (by omega),aaf hw (by omega)] at this;exact this
 have Ny:Hid (∀G,fw G b gn gl gf (Fq N xs ws d 391)->Calls prog 103 #[b] G λe w'=>e=(0:Int)/\fw w' b gn gl gf (calm ws (d+3520))/\ay [b,gn,gl,gf] G w'):=λG U=>by
  have :=FC U (Tz hN h0 (by omega) (by omega));rw[Wi hN rfl hx hw] at this;exact this
 have uo:Hid (∀G,fw G b gn gl gf (xH N xs ws d 3128)->fw G b gn gl gf (Fq N xs ws d 0)):=λG U=>by
  have :=aae (d:=d) hx hw;rw[hN] at this U ⊢;rw[this] at U;exact U
 clear h hx hw ai ae hr HC ah hg h0 hd hN;go_in;go_wp2_with fail;go_loopg [5,6,7,12] 3128 (λgh s5 s6 s7 s12 G=>∃k:Nat,k+gh=3128/\s12= .int .i64 (k:Int)/\
  Hid (fw G b gn gl gf (xH N xs ws d k)/\ay [b,gn,gl,gf] w G))
 case atStart=>exact⟨0,by omega,rfl,H0.out,ay.refl _ _⟩
 case round=>
  obtain⟨k,hk,rfl,HI⟩:=hrel;cases gk with
  |zero=>
   obtain rfl:k=3128:=by omega
   clear ac UW H0;go_wp2_with fail;go_loopg [8,9] 391 (λgh s8 s9 G=>∃q:Nat,q+gh=391/\s8= .int .i64 ((8*q:Nat):Int)/\
    Hid (fw G b gn gl gf (Fq N xs ws d q)/\ay [b,gn,gl,gf] w G))
   case atStart=>exact⟨0,by omega,rfl,uo.out _ HI.out.1,HI.out.2⟩
   case round=>
    obtain⟨q,hq,rfl,HJ⟩:=hrel;cases gk with
    |zero=>
     obtain rfl:q=391:=by omega
     obtain⟨Qy,J⟩:=hh2 (Ny.out _ HJ.out.1) HJ.out.2;clear Vm Ny uo HI HJ;go_wp2_with fail;refine Rr Qy.out ?_;rintro w3 ⟨V,W⟩;have HF:Hid (fw w3 b gn gl gf (calm ws (d+3520))/\ay [b,gn,gl,gf] w w3):=⟨V,J.out.trans' W⟩;clear V W Qy J;go_wp2_with fail;go_ret;exact⟨rfl,HF.out⟩
    |succ gg=>
     have au:((8*q:Nat):Int)<3128:=by omega
     obtain⟨ag,J⟩:=hh2 (Vm.out _ q (by omega) HJ.out.1) HJ.out.2;have ax:q<391:=by omega
     have Mj:((8*q:Nat):Int)+8=((8*(q+1):Nat):Int):=by omega
     have az:(0:Int)<=((8*q:Nat):Int):=by omega
     generalize hz:((8*q:Nat):Int)=z at *;clear Vm HI HJ Ny uo;go_wp2_with fail;refine Rr ag.out ?_;rintro w3 ⟨V,W⟩;obtain⟨Cm,oI⟩:=hh2 V (J.out.trans' W);clear V W ag J;go_wp2_with fail;go_roundg gg;case measure=>omega
     case rel=>exact⟨q+1,by omega,by rw[<-Mj];go_num,Cm.out,oI.out⟩
  |succ gg=>
   have au:(k:Int)<3128:=by omega
   have aa:k<3128:=by omega
   have hc:=UW.out _ HI.out.2 k aa;obtain⟨HS,af⟩:=hh2 (ac.out _ k aa HI.out.1) HI.out.2;generalize ws.getD k 0=x at *;clear ac Vm Ny uo UW HI;go_wp2_with fail;refine Rr HS.out ?_;rintro w3 ⟨V,W⟩;obtain⟨Cm,oI⟩:=hh2 V (af.out.trans' W);clear V W HS af;go_wp2_with fail;go_roundg gg;case measure=>omega
   case rel=>exact⟨k+1,by omega,by go_num,Cm.out,oI.out⟩
theorem RL (w:World):(zeroValue 116).run prog w= .ok (.agg (aY (kU [])).toArray) w:=by kernel_rfl
theorem O6 (h:bh w g (aY X).toArray 116)(lx:X.length=3128)(Y:List Int)(z:Y.length=3128):
  ∃w',(storeVar 116 g (.agg (aY Y).toArray)).run prog w= .ok () w'/\bh w' g (aY Y).toArray 116/\ay [g] w w':=by
 refine⟨_,jO g 0 (aY Y) _ (by rw[bB,z];exact wm) h (by rw[bN,bB,bB];omega) (fh Y),?_,(ay.refl _ _).setRow (by simp) _⟩;have e:((aY X).toArray.toList.take 0++aY Y++(aY X).toArray.toList.drop (0+(aY Y).length)).toArray=(aY Y).toArray:=by
  rw[ez,bQ,dx (by rw[bB,bB];omega),br]
 rw[e];exact kv h
theorem Wj{T:Nat}(z:bh w g (aY Y).toArray T)(h:Y.length=n)(G:n<=maxLen):Reads w (.slice g n n) g (aY Y):=by
 refine⟨some ⟨g,0,none⟩,n,by rw[bB,h],by rw[bB,h];exact aH _,G,λ_=>⟨z.lt,0,rfl,λj J=> ?_⟩⟩;rw[z.cell,bc];simp
theorem O7{us:List (Int×Int)}(h:kW w b gp B X us):
  Calls prog 51 #[b] w (jN w X):=by
 obtain⟨lb,lx,vp,U,h2,W⟩:=h;have HL:=ar (FJ U lb lx);have hz:=RL;obtain⟨w2,G,J,z⟩:=O6 (bh.new w (aY (kU [])).toArray 116) (iF []) X lx;have TN:=ar G;have V:Hid (jN w X (.returned (.slice w.heap.size 3128 3128)) w2):=
  ⟨_,w.heap.size,rfl,Wj J lx (by simp[maxLen]),aH _,((ay.refl [] w).alloc _).trans z (by simp)⟩
 clear U h2 W G J z lb lx;generalize (aY (kU [])).toArray=Z,(aY X).toArray=Y at *;go_in;go_wp2_with(with_reducible first|refine gL 116 HL.out ?_|refine gS 116 TN.out ?_);go_ret;exact V.out
theorem RM{ps:List (Int×Int)}(h:eK w b z B ps):
  Calls prog 51 #[b] w (jN w (az B ps)):=O7 h.raw
theorem aah (F K:Int):aM (W4 F K) (.slice none 0 0)= #[.int .i64 F,.int .i64 K,.int .i64 1,.int .i64 0,.int .i64 0,.int .i64 0,.int .i64 0,.int .i64 0,.int .i64 0,.int .i64 0,.int .i64 0,.int .i64 0,.int .i64 0,.int .i64 0,.int .i64 0,.int .i64 0,.int .i64 0,.slice none 0 0]:=rfl
theorem Ii:aM cg (.slice none 0 0)= #[.int .i64 0,.int .i64 0,.int .i64 0,.int .i64 0,.int .i64 0,.int .i64 0,.int .i64 0,.int .i64 0,.int .i64 0,.int .i64 0,.int .i64 0,.int .i64 0,.int .i64 0,.int .i64 0,.int .i64 0,.int .i64 0,.int .i64 0,.slice none 0 0]:=rfl
theorem O8{U:World}{J:Nat}{R:mM->List (Int×Int)->Prop}{z:Array Value}{e:Ending}(G:b<w.heap.size/\J<w.heap.size)(cJ:ay [] w W)(aa:W.heap.size=w.heap.size+2)(jP:bh W (w.heap.size+1) z 34)(hc:z.size=7)(hp:fE W b J B R e U):
  ∃Z h,e= .returned (.agg Z)/\(storeVar 34 (w.heap.size+1:Nat) (.agg Z)).run prog U= .ok () h/\(loadVar 34 (w.heap.size+1:Nat)).run prog h= .ok (.agg Z) h/\fE w b J B R (.returned (.agg Z)) h:=by
 obtain⟨r,Z,qs,kX,rfl,h1,h2,h3,h4,h5,h6⟩:=hp;obtain⟨h,s1,s2,s3⟩:=BU (jP.keep h4 (eD G (by omega))) hc h1.at;have V:=h1.keep s3 (λx hx=>by rw[au] at hx;omega);have hs:=s3.size;refine⟨Z,h,rfl,s1,zo s2 V.at,r,Z,qs,kX,rfl,V.mono (by omega),by omega,h3.keep s3 (by rw[au];omega) (by rw[au];omega),((cJ.mono (by simp)).trans' h4).trans s3 (λy hy=>by rw[au] at hy;omega),h5,h6⟩
theorem Kz (h:rB w b gp B [] T own [] M)(hT:dw M){o:jB}{vp vq vd:Value}{g:Nat}(hP:gN w vp g o.P)(hs:∀s∈o.P,s.size<=9223372036854775807)(hK:o.K=0\/o.K=1):
  Calls prog 104 #[cA b o vp vq vd,(1+o.K:Int)] w (fE w b gp B (lu B M o)):=by
 obtain⟨W,hW,cJ,jR,jP,aJ⟩:=mH w (cA b o vp vq vd) (zI fy (.slice none 0 0) (.slice none 0 0));have aa:=ar (Ku (h.keep0 cJ) hT o vp vq vd (hP.keep cJ (by simp)) hs);have V:=h.lt;obtain⟨EX,fI,lU⟩:=hh3 V cJ aJ;have lY:Hid (∀z,ay [b,gp] W z->(loadVar 79 w.heap.size).run prog z= .ok (.agg (cA b o vp vq vd)) z):=λz hk=>jJ (jR.keep hk (eD V (by omega)))
 have qd:Hid (∀z,ay [b,gp] W z->z.cell? w.heap.size=some (.pointer (some ⟨b,0,none⟩))/\z.cell? ⟨w.heap.size,2,none⟩=some vp):=λz hk=>by
  have h1:=jR.keep hk (eD V (by omega));exact⟨by rw[h1.cell];rfl,by rw[h1.cell];rfl⟩
 -- an error
 have ry:Hid (∀r,r≠0->(kF M o).2=cV r->∀w1,ay [] W w1->vS (w.heap.size+1) #[(r:Int),(0:Int),(0:Int),(0:Int),(0:Int),(),()] (fE w b gp B (lu B M o)) w1):=λr G hd w1 hk=>by
  obtain⟨wy,s1,s2,s3,s4⟩:=lO jP rfl hk (by simp) r;exact⟨wy,s1,s2,fE.none h ((cJ.trans' hk).trans s4 (by intro y hy;rw[au] at hy;omega)) s3 (.inr (.inl ⟨G,hd⟩))⟩
 have ub:Hid (qE M o.P≠0->(kF M o).2=cV (qE M o.P)):=V7 hK;have UR:Hid (∀z,ay [] W z->Calls prog 93 #[b] z λe w'=>e=((az B []).getD 1 0:Int)/\z=w'):=λz hk=>zg ((h.keep0 (cJ.trans' hk)).shS)
 -- New: nothing is free, or it is made
 have af:Hid (qE M o.P=0->∀z,ay [] W z->Calls prog 147 #[b,aM (W4 ((az B []).getD 1 0) (1+o.K)) (.slice none 0 0)] z λe U=>∃i r,e= .returned (.tuple #[(i:Int),(r:Int)])/\ay [b,gp] W U/\ay [b,gp] z U/\
   ((r≠0/\vS (w.heap.size+1) #[(r:Int),(0:Int),(0:Int),(0:Int),(0:Int),(),()] (fE w b gp B (lu B M o)) U)\/
   (r=0/\Calls prog 118 #[cA b o vp vq vd,cG (bq M o.P).1 (aS o.P) false 0,(i:Int)] U λe w3=>∃x wy,e=(x:Int)/\(storeVar 34 (w.heap.size+1:Nat) (.agg #[(x:Int),(i:Int),(0:Int),(0:Int),(0:Int),(),()])).run prog w3= .ok () wy/\(loadVar 34 (w.heap.size+1:Nat)).run prog wy= .ok (.agg #[(x:Int),(i:Int),(0:Int),(0:Int),(0:Int),(),()]) wy/\fE w b gp B (lu B M o) (.returned (.agg #[(x:Int),(i:Int),(0:Int),(0:Int),(0:Int),(),()])) wy))):=λhv z hk=>by
  have ae:=(h.keep0 (cJ.trans' hk));have aO:=h.nd.st.sup.2.1;refine(Vn ae.sh ae.nd.st.w64 ae.tab ae.lt.2 (by simp) (W4 ((az B []).getD 1 0) (1+o.K)) (.slice none 0 0) 0 rfl (bD.nil _ _) (λk hk=>by simp[W4] at hk) (λh=>absurd rfl h)).mono ?_;rintro e U ⟨i,r,qs,kX,rfl,h1,h2,h3,h4,h5⟩;have rh:ay [b,gp] W U:=(hk.mono (by simp)).trans' h3;have aA:kX=gp\/(W.heap.size<=kX/\kX<U.heap.size):=by have :=hk.size;omega
  refine⟨i,r,rfl,rh,h3,?_⟩;rcases h.nd.made (F:=(az B []).getD 1 0) (K:=1+o.K) aO (by omega) h5 with ⟨rfl,hq,pq⟩|⟨rfl,j,rfl,hj,aT,Cf,aF,pq⟩
  ·left
   obtain⟨wy,s1,s2,s3,s4⟩:=lO jP rfl rh (eD V (by omega)) 7;refine⟨by omega,wy,s1,s2,fE.some V cJ (by omega) (Rq:=λr qs=>lu B M o (cV 7) qs) (m:=700) ⟨7,qs,kX,rfl,aA,h2,rh,h4,.inr (.inl ⟨by show(7:Int)≠0;omega,?_⟩)⟩ (by omega) s4 s3 λqs hq=>hq⟩;rw[Tv hK hv,pq];rfl
  ·right
   refine⟨rfl,?_⟩;obtain⟨T',cW,g1,g2,g3⟩:=id aF;have aR:=(h.keep0 cJ).go h2 rh aA g1;obtain⟨v1,v2,v3⟩:=zr hv;have hp:=pV (M:=M) v2;have aQ:(bq M o.P).1≠j:=λe=>by
    have :=hp.1;rw[e] at this;omega
   refine(H9 aR (by rw[bQ];omega) o vp vq vd (d:=(bq M o.P).1) (by rw[dI _ _ aQ];exact hp.1) hp.2.1 false 0 (i:=(j:Int)) (by omega)).mono ?_;rintro e w3 ⟨x,q2,lS,rfl,e1,e2,e3,e4,e5⟩;have ax:ay [b,gp] W w3:=rh.trans e3 λy hy=>by
    simp only[aL,aK,bC] at hy ⊢;omega
   obtain⟨wy,s1,s2,s3,s4⟩:=yK (r:={ fy with N:=(j:Int),E:=x }) jP rfl ax (eD V (by omega)) rfl rfl rfl;have aX:=h3.size;have aW:=e3.size;refine⟨x,wy,rfl,s1,s2,fE.some V cJ (by omega) (Rq:=λ_ q=>lu B M o { fy with N:=(j:Int),E:=x } q) (m:=1400) ⟨x,qs++q2,lS,rfl,by have :=hk.size;omega,by rw[<-aV];exact e2,ax,by rw[aC];omega,?_⟩ (by omega) s4 s3 λ_ hq=>hq⟩;refine V8 hT hK hv hj Cf aF pq ?_;have av:=e5;rw[bz] at av;exact av
 have Gj:=l6;have aY:=pj;have rG:=dz;clear h hT hP hs cJ jR jP aJ V;unfold RA at aa;rw[lN] at *;generalize fE w b gp B (lu B M o)=Q,qE M o.P=ve,(kF M o).2=D2,aN:cG (bq M o.P).1 (aS o.P) false 0=Zs at *;have xB:=ar aN;generalize (az B []).getD 1 0=tg at *;have e0:cG 0 ⟨#[]⟩ false 0= #[.int .i64 0,.string ⟨#[]⟩,.bool false,.int .i64 0]:=rfl;rw[e0] at aa;rw[aah] at af;rw[Ii] at rG;generalize hJ:cA b o vp vq vd=J at *;clear hJ e0 aN;generalize 1+o.K=kk at *;have c2:=(qd.out W (ay.refl _ _)).2;have ju:=ar (lY.out W (ay.refl _ _));go_in;go_wp2_with(with_reducible refine gL 79 ju.out ?_);refine aa.out.mono ?_;rintro e w1 ⟨ac,⟨G,rfl⟩|⟨rfl,rfl⟩⟩
 ·obtain⟨U,p1,p2,p3⟩:=iU (d:=0) (nm:=⟨#[]⟩) (th:=false) (i:=0) (bh.new w1 #[(0:Int),.string ⟨#[]⟩,false,(0:Int)] 165) rfl
  have eV:ay [] w1 U:=((ay.refl [] w1).alloc _).trans p3 (by intro x hx;rw[au] at hx;omega);obtain⟨wy,s1,s2,s3⟩:=ry.out ve G (ub.out G) U (ac.trans' eV);have b1:(ve != 0)=true:=by simpa using G
  obtain⟨jz,HS,HL,HF⟩:=hh4 p1 s1 s2 s3;clear hW p1 p2 p3 ac eV s1 s2 s3 G aa EX fI lU lY ju qd ry ub UR af c2 xB;unfold cG at jz;go_wp2_with(with_reducible first|refine gS 165 jz.out ?_|refine gS 34 HS.out ?_);exact aI (bA results104 rfl HL.out) rfl HF.out
 ·have nG:=ar (af.out rfl)
  have aG:bh (w1.alloc (.cells #[(0:Int),.string ⟨#[]⟩,false,(0:Int)] 165)) w1.heap.size #[(0:Int),.string ⟨#[]⟩,false,(0:Int)] 165 :=bh.new w1 _ _;obtain⟨U,p1,p2,p3⟩:=iU (d:=(bq M o.P).1) (nm:=aS o.P) (th:=false) (i:=0) aG rfl;rw[xB.out] at p1 p2;have eV:ay [] w1 U:=((ay.refl [] w1).alloc _).trans p3 (by intro x hx;rw[au] at hx;omega);have rh:=ac.trans' eV;have jz:=ar p1;have JM:Hid (∀z,ay [b,gp] U z->(loadVar 165 w1.heap.size).run prog z= .ok (.agg Zs) z):=λz hk=>by
   have h1:=ac.size;have h2:=lU.out;have h3:=EX.out;have :=jr (d:=(bq M o.P).1) (nm:=aS o.P) (th:=false) (i:=0) (by rw[xB.out];exact p2.keep hk (by simp;omega));rwa[xB.out] at this
  obtain⟨aD,Qs⟩:=hh2 (UR.out U.drew rh.drew) (nG.out U.drew rh.drew);have aP:=(qd.out U.drew (rh.drew.mono (by simp)));obtain⟨c3,-⟩:=aP;have nL:=ar rh;clear hW p1 p2 p3 aG ac eV rh aa fI ry ub UR af nG c2 xB ju;go_wp2_with(with_reducible refine gS 165 jz.out ?_);refine Jk (l:=[_,_,_,_,_,_,_]) (o:=_) (l2:=[_,_,_,_,_]) (S:=λz=>z=U.drew) (by kernel_rfl) rfl (by kernel_rfl) (by kernel_rfl) (λd _ _ _ _ h=>by cases d<;>exact h) rfl (by kernel_rfl) (by kernel_rfl) ?_;repeat (
   (first
   |((with_reducible show aU _ _ _ _ (⟨some 25,_,_,_,_,_⟩::_) _);refine aU.cons (.int .i64 tg) (bR.call rfl 93 #[b] ?he ?h) ?_;(case he=>(intro wz;go_simp));(case h=>(intro wz hz;subst hz;refine C' aD.out ?_;exact⟨rfl,rfl⟩)))
   |(refine aU.cons ?_ (bR.val rfl ?h) ?_;(case h=>(intro wz hz;subst hz;go_simp;rfl))));simp only[Act.put,ag,ah,ai])
  refine aU.done λwz hz=> ?_
  subst hz;go_wp2_with fail;refine Qs.out.mono ?_;rintro e w3 ⟨i,r,rfl,aH,nE,hh⟩;have aB:ay [b,gp] U w3:=((ay.refl [] U).drew.mono (by simp)).trans' nE;obtain⟨ak,yL⟩:=hh2 (JM.out w3 aB) (lY.out w3 aH);clear aH nE aB JM lY Qs aD jz qd EX lU nL c3;go_wp2_with fail;refine⟨trivial,λz=>z=w3,rfl,?_⟩;repeat (first
   |(refine aU.cons ?_ (bR.val rfl ?h) ?_;(case h=>(intro wz hz;subst hz;go_simp;rfl));simp only[Act.put,ag,ah,ai]))
  refine aU.done λwz hz=> ?_
  subst hz;rcases hh with ⟨G,wy,s1,s2,s3⟩|⟨rfl,aj⟩
  ·have b1:(r != 0)=true:=by simpa using G
   obtain⟨HS,HL,HF⟩:=hh3 s1 s2 s3;clear s1 s2 s3 G ak yL;go_wp2_with(with_reducible refine gS 34 HS.out ?_);exact aI (bA results104 rfl HL.out) rfl HF.out
  ·have HE:=ar aj
   clear aj;go_wp2_with(with_reducible first|refine gL 79 yL.out ?_|refine gL 165 ak.out ?_);refine HE.out.mono ?_;rintro e w4 ⟨x,wy,rfl,s1,s2,s3⟩;obtain⟨HS,HL,HF⟩:=hh3 s1 s2 s3;clear s1 s2 s3 HE ak yL;go_wp2_with(with_reducible refine gS 34 HS.out ?_);exact aI (bA results104 rfl HL.out) rfl HF.out
theorem Eo (h:rB w b z B [] T own [] M)(hT:dw M){o:jB}{vp vq vd:Value}{g:Nat}(hP:gN w vp g o.P)(hs:∀s∈o.P,s.size<=9223372036854775807)(hK:o.K=0):
  Calls prog 53 #[cA b o vp vq vd] w (fE w b z B (lu B M o)):=by
 obtain⟨W,hW,cJ,jR,jP,G⟩:=mH w (cA b o vp vq vd) (zI fy (.slice none 0 0) (.slice none 0 0));have hc:=Kz (vq:=vq) (vd:=vd) (h.keep0 cJ) hT (hP.keep cJ (by simp)) hs (.inl hK);rw[hK] at hc;obtain⟨HC,ju⟩:=hh2 hc (jJ jR);have IB:Hid (∀e U,fE W b z B (lu B M o) e U->∃Z V,e= .returned (.agg Z)/\(storeVar 34 (w.heap.size+1:Nat) (.agg Z)).run prog U= .ok () V/\(loadVar 34 (w.heap.size+1:Nat)).run prog V= .ok (.agg Z) V/\fE w b z B (lu B M o) (.returned (.agg Z)) V):=λe U hp=>O8 h.lt cJ G jP rfl hp
 have Gj:=l6;clear h hT hP hs cJ jR jP G hc;rw[lN] at *;generalize fE w b z B (lu B M o)=Q,fE W b z B (lu B M o)=Q1,cA b o vp vq vd=J at *;go_in;go_wp2_with(with_reducible refine gL 79 ju.out ?_);refine HC.out.mono ?_;intro e U hp;obtain⟨Z,V,rfl,s1,s2,s3⟩:=IB.out e U hp;obtain⟨HS,HL,HF⟩:=hh3 s1 s2 s3;clear s1 s2 s3 hp IB HC hW ju;go_wp2_with(with_reducible refine gS 34 HS.out ?_);exact aI (bA results53 rfl HL.out) rfl HF.out
theorem RN (h:rB w b z B [] T own [] M)(hT:dw M){o:jB}{vp vq vd:Value}{g:Nat}(hP:gN w vp g o.P)(hs:∀s∈o.P,s.size<=9223372036854775807)(hK:o.K=1):
  Calls prog 54 #[cA b o vp vq vd] w (fE w b z B (lu B M o)):=by
 obtain⟨W,hW,cJ,jR,jP,G⟩:=mH w (cA b o vp vq vd) (zI fy (.slice none 0 0) (.slice none 0 0));have hc:=Kz (vq:=vq) (vd:=vd) (h.keep0 cJ) hT (hP.keep cJ (by simp)) hs (.inr hK);rw[hK] at hc;obtain⟨HC,ju⟩:=hh2 hc (jJ jR);have IB:Hid (∀e U,fE W b z B (lu B M o) e U->∃Z V,e= .returned (.agg Z)/\(storeVar 34 (w.heap.size+1:Nat) (.agg Z)).run prog U= .ok () V/\(loadVar 34 (w.heap.size+1:Nat)).run prog V= .ok (.agg Z) V/\fE w b z B (lu B M o) (.returned (.agg Z)) V):=λe U hp=>O8 h.lt cJ G jP rfl hp
 have Gj:=l6;clear h hT hP hs cJ jR jP G hc;rw[lN] at *;generalize fE w b z B (lu B M o)=Q,fE W b z B (lu B M o)=Q1,cA b o vp vq vd=J at *;go_in;go_wp2_with(with_reducible refine gL 79 ju.out ?_);refine HC.out.mono ?_;intro e U hp;obtain⟨Z,V,rfl,s1,s2,s3⟩:=IB.out e U hp;obtain⟨HS,HL,HF⟩:=hh3 s1 s2 s3;clear s1 s2 s3 hp IB HC hW ju;go_wp2_with(with_reducible refine gS 34 HS.out ?_);exact aI (bA results54 rfl HL.out) rfl HF.out
theorem RO (f:Int):aM (z6 f) (.slice none 0 0)= #[.int .i64 f,.int .i64 2,.int .i64 1,.int .i64 0,.int .i64 0,.int .i64 0,.int .i64 0,.int .i64 0,.int .i64 0,.int .i64 0,.int .i64 0,.int .i64 0,.int .i64 0,.int .i64 0,.int .i64 0,.int .i64 0,.int .i64 0,.slice none 0 0]:=rfl
def Laid (w:World) (b gn gl gf:Nat) (d:Int) (w':World):Prop:=
 ∃Y,RI Y ES/\(aZ Y).length=255/\fw w' b gn gl gf (calm Y d)/\ay [b,gn,gl,gf] w w'
theorem aeR (h:fw w b gn gl gf (calm xs d))(h0:0<=d)(hd:d<100000000000000000)(hx:xs.length=3128)(hT:lD w){f:Int}(hf:f=1\/f=2):
  Calls prog 24 #[b,f] w λe w'=>e=(0:Int)/\Laid w b gn gl gf (d+3520) w':=by
 obtain⟨HN,HL⟩:=hh2 (Bb (w:=w) (v:= .slice none 0 0) (g:=0) (ws:=[]) ⟨none,0,rfl,aH _,by simp[maxLen],λh=>absurd rfl h⟩) (λwx (hk:ay [] w wx)=>Hr (h.keep hk (by simp) (by simp)) hx);have ho:=h.old (by show xs.length≠0;omega)
 -- Aim, the puts, the root, settle
 have ag:Hid (∀U J,w.heap.size<=J->ay [] w U->eK U J J (kU []) []->Calls prog 47 #[(J:Nat),f] U λe w2=>e=(0:Int)/\Hid (∃V,(w.heap.size<=V/\V<w2.heap.size)/\eK w2 J V (kU []) [(1,f),(2,0)]/\ay [] w w2)):=λU J hb hk hs=>by
  refine(Zh hs ⟨hs.raw.lt,hs.raw.lt⟩ (by simp) f (OH hs (yH 1))).mono ?_;rintro e w2 ⟨r,qs,V,rfl,hg,G,z,-,hr⟩;have hz:(az (kU []) []).getD 1 0=0:=yH 1;have hq:r=0/\qs=[(1,f),(2,0)]:=by
   rcases hr with ⟨-,h1,-⟩|⟨h1,-,⟨h2,-⟩|⟨-,h2⟩⟩
   ·exact absurd hf h1
   ·rw[hz] at h2;omega
   ·exact⟨h1,h2⟩
  obtain⟨rfl,rfl⟩:=hq;refine⟨rfl,V,by have :=hk.size;have :=z.size;have :=hs.raw.lt;omega,G,hk.trans z λy hy=> .inr (by simp only[aL,aK,bC,or_self] at hy;omega)⟩
 have C4:Hid (∀U J V ps (i x:Int),Sg i=true->ps.length<=10->w.heap.size<=J->(w.heap.size<=V/\V<U.heap.size)->ay [] w U->eK U J V (kU []) ps->Calls prog 48 #[(J:Nat),(i:Int),.int .u64 x] U λe w2=>e= .returned (.tuple #[])/\Hid (∃gI,(w.heap.size<=gI/\gI<w2.heap.size)/\eK w2 J gI (kU []) (ps++[(i,x)])/\ay [] w w2)):=λU J V ps i x hi hp hb hg hk hs=>by
  refine Rr (pA hs (by omega) i x) ?_;rintro w2 ⟨gI,ak,G,z⟩;rw[Ai,aB hi] at G;refine⟨rfl,gI,by have :=hk.size;have :=z.size;omega,G,hk.trans z λy hy=> .inr (by simp only[aL,aK,bC] at hy;omega)⟩
 have Uh:Hid (∀U J V,w.heap.size<=J->(w.heap.size<=V/\V<U.heap.size)->ay [] w U->eK U J V (kU []) (zJ f)->Calls prog 49 #[(J:Nat),(0:Int),aM (z6 f) (.slice none 0 0)] U λe w2=>e=(0:Int)/\Hid (∃gI Y,RI Y ES/\(aZ Y).length=255/\ay [] w w2/\Calls prog 51 #[(J:Nat)] w2 λe w3=>∃v,e=(v:Value)/\Hid (Calls prog 50 #[b,v] w3 λe w4=>e=(0:Int)/\Hid (gI=gI/\Laid w b gn gl gf (d+3520) w4)))):=λU J V hb hg hk hs=>by
  have au:J<U.heap.size/\V<U.heap.size:=⟨hs.raw.lt,hg.2⟩;refine(sG hs (ac5 hf).st.w64 (λwx hx=>hT.keep (hk.trans hx λy hy=> .inr (by simp only[aL,aK,bC] at hy;omega))) au.2 (by simp[zJ]) 0 (z6 f) (.slice none 0 0) 0 rfl (bD.nil _ _) (λk hk=>by simp[z6] at hk) (λh=>absurd rfl h)).mono ?_;rintro e w2 ⟨r,qs,gI,rfl,ak,G,z,-,hr⟩;obtain⟨rfl,T,own,Fk,pq,h8⟩:=acf hf hr;have uG:ay [] w w2:=hk.trans z λy hy=> .inr (by simp only[aL,aK,bC] at hy;omega)
  refine⟨rfl,gI,_,⟨h8,T,own,Fk⟩,pq,uG,?_⟩;refine(RM G).mono ?_;rintro e w3 ⟨v,g,rfl,ah,av,ai⟩;refine⟨v,rfl,?_⟩;have Li:=uG.trans' ai;show Calls _ _ _ _ _;refine(RJ (h.keep Li (by simp) (by simp)) h0 hd hx Fk.st.len ah (by have :=uG.size;intro hm;simp only[aL,aK,bC] at hm;omega)).mono ?_;rintro e w4 ⟨rfl,h1,h2⟩;exact⟨rfl,rfl,_,⟨h8,T,own,Fk⟩,pq,h1,(Li.mono (by simp)).trans' h2⟩
 rw[RO] at Uh;clear h h0 hd hx hT hf ho;generalize Laid w b gn gl gf (d+3520)=Q at *;go_in;go_wp2_with fail;refine HN.out.mono ?_;rintro e U ⟨J,rfl,aa,af,hk⟩;obtain⟨xw,HA,Qv⟩:=hh3 (HL.out U hk) (ag.out U J aa hk af) aa;clear hk HL HN ag af aa;go_wp2_with fail;refine C' xw.out ?_;go_wp2_with fail;refine Rr HA.out λw2 hr=> ?_;obtain⟨V,W,G,z⟩:=hr.out;have HP:=ar (C4.out w2 J V _ 0 7596835243318849792 (by decide) (by simp) Qv.out W z G);clear hr W G z HA xw;go_wp2_with fail;refine Rr HP.out λw3 hr=> ?_;obtain⟨Rm,W,G,z⟩:=hr.out;have mZ:=ar (C4.out w3 J Rm _ 2 32 (by decide) (by simp) Qv.out W z G);clear hr W G z HP C4;go_wp2_with fail;refine Rr mZ.out λw4 hr=> ?_;obtain⟨aj,W,G,z⟩:=hr.out;have HI:=ar (Uh.out w4 J aj Qv.out W z G);have rG:=dz;rw[Ii] at rG;clear hr W G z mZ Uh Qv;go_wp2_with fail;refine Rr HI.out λw5 hr=> ?_;obtain⟨-,-,-,-,-,hw⟩:=hr.out;have ac:=ar hw;clear hr hw HI;go_wp2_with fail;refine ac.out.mono ?_;rintro e w6 ⟨v,rfl,ae⟩;clear ac;go_wp2_with fail;refine Rr ae.out λw7 hq=> ?_;clear ae;go_wp2_with fail;go_ret;exact⟨rfl,hq.out.2⟩
end Go.Proofs.YtepbpdipenedhaaGreatDoor
