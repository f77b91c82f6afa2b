/- Lemmas. -/
import Derived.Test.YtepbpdipenedhaaGreatDoorR29
set_option maxHeartbeats 4000000
set_option maxRecDepth 100000
namespace Go.Proofs.YtepbpdipenedhaaGreatDoor
open Go.Proofs.Tryz
open Go.RowKit
variable{B X Y:List Int}{T:List (bP×Value)}{own:Nat->List Nat}{M:Nat->Nd}{W w:World}{b g gf gl gn gp n z:Nat}{o:kM}{vd vq:Value}
theorem nJ.of_len(X:List Int)(qs:List (Int×Int)):nJ X (aA X qs) qs.length:=
 nJ.puts (L:=qs.map λp=>p.1.toNat) (by rw[bS];exact aI _) λp h=>bH.2 ⟨p,h,rfl⟩
theorem adT (h:lY X T own [] M){o:kM}(V:o.K=11){r:Int}{qs:List (Int×Int)}(U:Cu X o.N r qs)(hq:qs.length<=2):pQ X M o { jf with E:=r } qs:=by
 have z:=Yt (M:=M) V;rcases aby h U with ⟨rfl,G,-⟩|⟨rfl,G,J,-,W⟩
 ·rw[aB G] at z
  exact .inr (.inl ⟨by show(1:Int)≠0;omega,by rw[z]⟩)
 ·rw[aC G] at z
  exact .inr (.inr ⟨rfl,by rw[z];rfl,.inl (by rw[z];rfl),T,own,by rw[z];exact J.nd,λk hk _=>W k (by omega),(nJ.of_len X qs).mono (by omega)⟩)
theorem RS (h:lY X T own [] M){o:kM}(V:o.K=12){r:Int}{qs:List (Int×Int)}(hs:qx X T r qs):
  (r≠0/\pQ X M o { jf with E:=r } qs)\/(r=0/\(∀n:Int,n=0\/n=1->pQ X M o { jf with N:=n } qs)/\∃G z,lY (aA X qs) G z [] M):=by
 have J:=RQ (M:=M) V;rcases Yc h hs with ⟨rfl,-,U⟩|⟨rfl,G,z,U,h2,L,h3,h4⟩
 ·exact .inl ⟨by omega,.inl ⟨rfl,by rw[V];rfl,.inl (by rw[J];rfl),.inl (by omega)⟩⟩
 ·exact .inr ⟨rfl,λn W=> .inr (.inr ⟨rfl,by rw[J];rfl,.inr ⟨V,n,W,by rw[J]⟩,G,z,by rw[J];exact U.nd,h2,L,by omega,h4⟩),G,z,U⟩
theorem p8:GH jf (.slice none 0 0) (.slice none 0 0)= #[.int .i64 0,.int .i64 0,.int .i64 0,.int .i64 0,.int .i64 0,.slice none 0 0,.slice none 0 0]:=rfl
theorem nz{J:World}{T:Nat}{l:List Nat}{h:Array Value}(hb:bh W g h T)(hc:h.size=7)(U:az l W J)(V:g∉l)(G:Int):
  ∃z,(storeVar 34 ⟨g,0,none⟩ (.agg #[.int .i64 G,.int .i64 0,.int .i64 0,.int .i64 0,.int .i64 0,.slice none 0 0,.slice none 0 0])).run prog J= .ok () z/\(loadVar 34 ⟨g,0,none⟩).run prog z= .ok (.agg #[.int .i64 G,.int .i64 0,.int .i64 0,.int .i64 0,.int .i64 0,.slice none 0 0,.slice none 0 0]) z/\RsP z (fy G) #[.int .i64 G,.int .i64 0,.int .i64 0,.int .i64 0,.int .i64 0,.slice none 0 0,.slice none 0 0]/\az [g] J z:=
 CD hb hc U V (r:=fy G) rfl rfl rfl
theorem abM{U:Nat}(h:wH w b U B [] T own [] M)(hT:eo M){o:kM}{vp vq vd:Value}(hK:o.K=11):
  Calls prog 64 #[.agg (dZ b o vp vq vd)] w (jA w b U B (pQ B M o)):=by
 obtain⟨W,hW,dt,oZ,mq,aa⟩:=vT w (dZ b o vp vq vd) (GH jf (.slice none 0 0) (.slice none 0 0));have HA:=au (adM (h.keep0 dt).shS (by simp) o.N);have z:=h.lt;have Kn:Hid (∀e V,cO W b U B [] 2 (Cu (aA B []) o.N) e V->∃r G,e= .returned (.int .i64 r)/\(storeVar 34 ⟨w.heap.size+1,0,none⟩ (.agg #[.int .i64 r,.int .i64 0,.int .i64 0,.int .i64 0,.int .i64 0,.slice none 0 0,.slice none 0 0])).run prog V= .ok () G/\(loadVar 34 ⟨w.heap.size+1,0,none⟩).run prog G= .ok (.agg #[.int .i64 r,.int .i64 0,.int .i64 0,.int .i64 0,.int .i64 0,.slice none 0 0,.slice none 0 0]) G/\jA w b U B (pQ B M o) (.returned (.agg #[.int .i64 r,.int .i64 0,.int .i64 0,.int .i64 0,.int .i64 0,.slice none 0 0,.slice none 0 0])) G):=λe V hp=>by
  have ac:=hp;obtain⟨r,qs,gG,rfl,h1,h2,h3,h4,h5⟩:=ac;obtain⟨G,s1,s2,s3,s4⟩:=nz mq rfl h3 (gZ z (by omega)) r;refine⟨r,G,rfl,s1,s2,jA.some z dt (by omega) (Rq:=λr qs=>Cu (aA B []) o.N r qs/\qs.length<=2) (m:=2) ⟨r,qs,gG,rfl,h1,h2,h3,h4,h5,h4⟩ (by omega) s4 s3 λqs hq=>adT (h.nd.snd hT) hK hq.1 hq.2⟩
 have c1:W.cell? ⟨w.heap.size,0,none⟩=some (.pointer (some ⟨b,0,none⟩)):=by rw[oZ.cell];rfl
 have c2:W.cell? ⟨w.heap.size,5,none⟩=some (.int .i64 o.N):=by rw[oZ.cell];rfl
 have IE:=pZ;clear h hT dt oZ mq aa z;rw[p8] at *;generalize jA w b U B (pQ B M o)=Q at *;generalize cO W b U B [] 2 (Cu (aA B []) o.N)=SP at *;generalize hJ:dZ b o vp vq vd=J at *;clear hJ;go_enter func64,ntmps64;go_wp2_with fail;refine HA.out.mono ?_;intro e V hp;obtain⟨r,G,rfl,s1,s2,s3⟩:=Kn.out e V hp;have HS:=au s1;have HL:=au s2;have HF:=au s3;clear s1 s2 s3 hp Kn HA c1 c2 hW;go_wp2_with(with_reducible refine gS 34 HS.out ?_);exact aL (b9 results64 rfl HL.out) rfl HF.out
theorem YA (h:wH w b gp B [] T own [] M)(hT:eo M){o:kM}{vp vq vd:Value}(hK:o.K=12):
  Calls prog 65 #[.agg (dZ b o vp vq vd)] w (jA w b gp B (pQ B M o)):=by
 obtain⟨W,hW,dt,oZ,mq,hsz⟩:=vT w (dZ b o vp vq vd) (GH jf (.slice none 0 0) (.slice none 0 0));have hS:=h.nd.snd hT;have HA:=au (abx (h.keep0 dt).shS h.nd.st.all (h.keep0 dt).tab (by simp));have hlt:=h.lt
 -- where it lacks room
 have jC:Hid (∀r qs kX w1,(kX=gp\/(W.heap.size<=kX/\kX<w1.heap.size))->eO w1 b kX B ([]++qs)->az [b,gp] W w1->qs.length<=701->qx (aA B []) T r qs->r≠0->∃wy,(storeVar 34 ⟨w.heap.size+1,0,none⟩ (.agg #[.int .i64 r,.int .i64 0,.int .i64 0,.int .i64 0,.int .i64 0,.slice none 0 0,.slice none 0 0])).run prog w1= .ok () wy/\(loadVar 34 ⟨w.heap.size+1,0,none⟩).run prog wy= .ok (.agg #[.int .i64 r,.int .i64 0,.int .i64 0,.int .i64 0,.int .i64 0,.slice none 0 0,.slice none 0 0]) wy/\jA w b gp B (pQ B M o) (.returned (.agg #[.int .i64 r,.int .i64 0,.int .i64 0,.int .i64 0,.int .i64 0,.slice none 0 0,.slice none 0 0])) wy):=λr qs kX w1 h1 h2 h3 h4 h5 h0=>by
  obtain⟨wy,s1,s2,s3,s4⟩:=nz mq rfl h3 (gZ hlt (by omega)) r;refine⟨wy,s1,s2,jA.some hlt dt (by omega) (Rq:=qx (aA B []) T) (m:=701) ⟨r,qs,kX,rfl,h1,h2,h3,h4,h5⟩ (by omega) s4 s3 λqs hq=> ?_⟩;rcases RS hS hK hq with ⟨-,g⟩|⟨g,-⟩
  ·exact g
  ·exact absurd g h0
 have wQ:Hid (∀qs kX w1,(kX=gp\/(W.heap.size<=kX/\kX<w1.heap.size))->eO w1 b kX B ([]++qs)->az [b,gp] W w1->qs.length<=701->qx (aA B []) T 0 qs->
   ∃d:Bool,(Calls prog 121 #[.pointer (some ⟨b,0,none⟩)] w1 λe w'=>e= .returned (.bool d)/\w1=w')/\∀n:Int,n=0\/n=1->∃wy,(storeVar 34 ⟨w.heap.size+1,0,none⟩ (.agg #[.int .i64 0,.int .i64 n,.int .i64 0,.int .i64 0,.int .i64 0,.slice none 0 0,.slice none 0 0])).run prog w1= .ok () wy/\(loadVar 34 ⟨w.heap.size+1,0,none⟩).run prog wy= .ok (.agg #[.int .i64 0,.int .i64 n,.int .i64 0,.int .i64 0,.int .i64 0,.slice none 0 0,.slice none 0 0]) wy/\jA w b gp B (pQ B M o) (.returned (.agg #[.int .i64 0,.int .i64 n,.int .i64 0,.int .i64 0,.int .i64 0,.slice none 0 0,.slice none 0 0])) wy):=λqs kX w1 h1 h2 h3 h4 h5=>by
  rcases RS hS hK h5 with ⟨g,-⟩|⟨-,g,T',cM,g2⟩
  ·exact absurd rfl g
  ·refine⟨_,RF ((h.keep0 dt).go h2 h3 h1 g2.nd).shS,λn hn=> ?_⟩
   obtain⟨wy,s1,s2,s3,s4⟩:=CD (r:={ jf with N:=n }) mq rfl h3 (gZ hlt (by omega)) rfl rfl rfl;exact⟨wy,s1,s2,jA.some hlt dt (by omega) (Rq:=λr qs=>pQ B M o { jf with N:=n } qs) (m:=701) ⟨0,qs,kX,rfl,h1,h2,h3,h4,g n hn⟩ (by omega) s4 s3 λqs hq=>hq⟩
 have c1:W.cell? ⟨w.heap.size,0,none⟩=some (.pointer (some ⟨b,0,none⟩)):=by rw[oZ.cell];rfl
 have HC:Hid (∀w1,az [b,gp] W w1->w1.cell? ⟨w.heap.size,0,none⟩=some (.pointer (some ⟨b,0,none⟩))):=λw1 hk=>by rw[(oZ.keep hk (gZ hlt (by omega))).cell];rfl
 have IE:=pZ;clear h hT dt oZ mq hsz hlt hS;rw[p8] at *;generalize jA w b gp B (pQ B M o)=Q at *;generalize qx (aA B []) T=SP at *;generalize hJ:dZ b o vp vq vd=J at *;clear hJ;go_enter func65,ntmps65;go_wp2_with fail;refine HA.out.mono ?_;rintro e w1 ⟨r,qs,kX,rfl,h1,h2,h3,h4,h5⟩;by_cases h0:r=0
 ·subst h0
  obtain⟨d,HD,HR⟩:=wQ.out qs kX w1 h1 h2 h3 h4 h5;have c2:=HC.out w1 h3;have HD:=au HD;cases d with
  |true=>
   obtain⟨wy,s1,s2,s3⟩:=HR 1 (.inr rfl);have HS:=au s1;have HL:=au s2;have HF:=au s3;clear s1 s2 s3 HR jC wQ HA h1 h2 h3 h4 h5 c1 HC hW;go_wp2_with fail;refine HD.out.mono ?_;rintro e w2 ⟨rfl,rfl⟩;go_wp2_with(with_reducible refine gS 34 HS.out ?_);exact aL (b9 results65 rfl HL.out) rfl HF.out
  |false=>
   obtain⟨wy,s1,s2,s3⟩:=HR 0 (.inl rfl);have HS:=au s1;have HL:=au s2;have HF:=au s3;clear s1 s2 s3 HR jC wQ HA h1 h2 h3 h4 h5 c1 HC hW;go_wp2_with fail;refine HD.out.mono ?_;rintro e w2 ⟨rfl,rfl⟩;go_wp2_with(with_reducible refine gS 34 HS.out ?_);exact aL (b9 results65 rfl HL.out) rfl HF.out
 ·obtain⟨wy,s1,s2,s3⟩:=jC.out r qs kX w1 h1 h2 h3 h4 h5 h0
  have HS:=au s1;have HL:=au s2;have HF:=au s3;have b1:(r != 0)=true:=by simpa using h0
  clear s1 s2 s3 jC wQ HA h1 h2 h3 h4 h5 h0 c1 HC hW;go_wp2_with(with_reducible refine gS 34 HS.out ?_);exact aL (b9 results65 rfl HL.out) rfl HF.out
theorem U0 (h:ni X T own [] M){i:Nat}(U:(M i).K≠0):(nT T i).S=(((M i).D.length+(M i).E.length:Nat):Int):=by
 have G:=h.store U;have V:=h.kind i;rw[<-h.ents i,h.abs i];show _=((((if (nT T i).K=1 then qO X (nT T i) else []).length+(nT T i).E.length:Nat)):Int);rcases G.right.2.2 with ⟨J,z⟩|⟨J,z⟩
 ·rw[aC J,uA,z.2.1]
  have :=z.1;omega
 ·rw[aB (by omega),z.2.1]
  simp
theorem YB (h:wH w b gp B [] T own [] M)(hT:eo M){o:kM}{vp vq vd:Value}{g:Nat}(hP:jg w vp g o.P)(hs:∀s∈o.P,s.size<=9223372036854775807)(hK:o.K=10):
  Calls prog 63 #[.agg (dZ b o vp vq vd)] w (jA w b gp B (pQ B M o)):=by
 obtain⟨W,hW,dt,oZ,mq,ac⟩:=vT w (dZ b o vp vq vd) (GH jf (.slice none 0 0) (.slice none 0 0));have IG:=au (Jl (vq:=vq) (vd:=vd) (h.keep0 dt) hT (hP.keep dt (by simp)) hs);have af:=h.lt;have fW:=au dt;have ot:=au ac;have sx:=au (ny oZ);have tz:Hid ((cG M o.P).2≠0->∀z,az [] W z->∃G,(storeVar 34 ⟨w.heap.size+1,0,none⟩ (.agg #[.int .i64 (cG M o.P).2,.int .i64 0,.int .i64 0,.int .i64 0,.int .i64 0,.slice none 0 0,.slice none 0 0])).run prog z= .ok () G/\(loadVar 34 ⟨w.heap.size+1,0,none⟩).run prog G= .ok (.agg #[.int .i64 (cG M o.P).2,.int .i64 0,.int .i64 0,.int .i64 0,.int .i64 0,.slice none 0 0,.slice none 0 0]) G/\jA w b gp B (pQ B M o) (.returned (.agg #[.int .i64 (cG M o.P).2,.int .i64 0,.int .i64 0,.int .i64 0,.int .i64 0,.slice none 0 0,.slice none 0 0])) G):=λae z hk=>by
  obtain⟨G,s1,s2,s3,s4⟩:=nz mq rfl hk (by simp) (cG M o.P).2;exact⟨G,s1,s2,jA.none h ((dt.trans' hk).trans s4 (by intro y hy;rw[ay] at hy;omega)) s3 (.inr (.inl ⟨ae,UZ (.inr hK) ae⟩))⟩
 have wQ:Hid ((cG M o.P).2=0->(nT T (cG M o.P).1).B.length=13/\∀z,az [] W z->∃G,(storeVar 34 ⟨w.heap.size+1,0,none⟩ (.agg #[.int .i64 0,.int .i64 (nT T (cG M o.P).1).S,.int .i64 (nT T (cG M o.P).1).K,.int .i64 (nT T (cG M o.P).1).L,.int .i64 ((cG M o.P).1:Int),.slice none 0 0,.slice none 0 0])).run prog z= .ok () G/\(loadVar 34 ⟨w.heap.size+1,0,none⟩).run prog G= .ok (.agg #[.int .i64 0,.int .i64 (nT T (cG M o.P).1).S,.int .i64 (nT T (cG M o.P).1).K,.int .i64 (nT T (cG M o.P).1).L,.int .i64 ((cG M o.P).1:Int),.slice none 0 0,.slice none 0 0]) G/\jA w b gp B (pQ B M o) (.returned (.agg #[.int .i64 0,.int .i64 (nT T (cG M o.P).1).S,.int .i64 (nT T (cG M o.P).1).K,.int .i64 (nT T (cG M o.P).1).L,.int .i64 ((cG M o.P).1:Int),.slice none 0 0,.slice none 0 0])) G):=λhe=>by
  have hk:=(rz hT he).1;refine⟨(h.nd.store hk).len,λz C9=> ?_⟩;obtain⟨G,s1,s2,s3,s4⟩:=CD (r:={ jf with N:=(nT T (cG M o.P).1).S,K:=(nT T (cG M o.P).1).K,L:=(nT T (cG M o.P).1).L,I:=((cG M o.P).1:Int) }) mq rfl C9 (by simp) rfl rfl rfl;refine⟨G,s1,s2,jA.none h ((dt.trans' C9).trans s4 (by intro y hy;rw[ay] at hy;omega)) s3 (.inr (.inr ⟨rfl,?_,?_,?_⟩))⟩
  ·rw[Bk (.inr hK)];show(A9 M o).E=0;unfold A9;rw[aB (by omega),aC hK];rfl
  ·left
   rw[Bk (.inr hK)];show _=A9 M o;unfold A9;rw[aB (by omega),aC hK,U0 h.nd hk,h.nd.kind,h.nd.links]
  ·rw[Bk (.inr hK)];exact h.nd.stay
 have IE:=pZ;have ub:=eA;clear h hT hP hs dt oZ mq ac af;unfold DV at IG;rw[p8] at *;generalize jA w b gp B (pQ B M o)=Q at *;generalize cG M o.P=R at *;generalize aa:aR cr (.slice none 0 0)=Z0 at *;have oz:=au aa;generalize hJ:dZ b o vp vq vd=J at *;clear hJ aa;obtain⟨x,ee⟩:=R
 dsimp only at *
 go_enter func63,ntmps63;go_wp2_with(with_reducible refine gL 79 sx.out ?_);refine IG.out.mono ?_;rintro e z ⟨U,⟨he,rfl⟩|⟨rfl,v,g,rfl,hE,hg⟩⟩
 ·obtain⟨w2,q1,q2,q3⟩:=dc (n:=cr) (v:= .slice none 0 0) (bh.new z Z0 111) (by rw[<-oz.out];rfl) rfl rfl
  have iM:az [] z w2:=((az.refl _ _).alloc _).trans q3 (by intro x hx;rw[ay] at hx;omega);obtain⟨G,s1,s2,s3⟩:=tz.out he w2 (U.trans' iM);rw[oz.out] at q1;have ov:=au q1;have HS:=au s1;have HL:=au s2;have HF:=au s3;have b1:(ee != 0)=true:=by simpa using he
  clear hW q1 q2 q3 U iM s1 s2 s3 he tz wQ IG fW ot sx oz;go_wp2_with(first|(with_reducible refine gS 111 ov.out ?_)|(with_reducible refine gS 34 HS.out ?_));exact aL (b9 results63 rfl HL.out) rfl HF.out
 ·obtain⟨V,JP⟩:=wQ.out rfl
  generalize nT T x=n at *;obtain⟨w2,q1,q2,q3⟩:=dc (n:=n) (v:=v) (bh.new z Z0 111) (by rw[<-oz.out];rfl) V hE.one;have iM:az [] z w2:=((az.refl _ _).alloc _).trans q3 (by intro x hx;rw[ay] at hx;omega);obtain⟨G,s1,s2,s3⟩:=JP w2 (U.trans' iM);have c1:w2.cell? ⟨z.heap.size,1,none⟩=some (.int .i64 n.K):=by rw[q2.cell];exact(iX v V).f1
  have c2:w2.cell? ⟨z.heap.size,2,none⟩=some (.int .i64 n.L):=by rw[q2.cell];exact(iX v V).f2
  have c3:w2.cell? ⟨z.heap.size,3,none⟩=some (.int .i64 n.S):=by rw[q2.cell];exact(iX v V).f3
  have ov:=au q1;have HS:=au s1;have HL:=au s2;have HF:=au s3;clear hW q1 q2 q3 U iM s1 s2 s3 tz wQ IG fW ot sx oz JP hE hg;generalize aR n v=Zn at *;generalize n.K=nk at *;generalize n.L=nl at *;generalize n.S=ns at *;generalize (x:Int)=xi at *;go_wp2_with(first|(with_reducible refine gS 111 ov.out ?_)|(with_reducible refine gS 34 HS.out ?_));exact aL (b9 results63 rfl HL.out) rfl HF.out
theorem lY.journal(h:lY X T own [] M)(V:Y.length=3128)(z:In64 Y)(G:∀k,k<3128->(k<8\/816<=k)->Y.getD k 0=X.getD k 0):
  lY Y T own [] M/\aZ Y=aZ X:=by
 obtain⟨J,U⟩:=h.st.journal V z G;refine⟨⟨J,λj=>by rw[h.abs,h.st.nodes U (by simp)],h.tree⟩,sZ λc W _=> ?_⟩;unfold dC bw;rw[G _ (by omega) (by omega)]
def Ql (X:List Int) (M:Nat->Nd):Prop:=X.getD 8 0=0/\∃T own,lY X T own [] M
theorem Ql.len(h:Ql X M):X.length=3128:=by obtain⟨-,T,own,h⟩:=h;exact h.st.len
theorem Ql.w64(h:Ql X M):In64 X:=by obtain⟨-,T,own,h⟩:=h;exact h.st.w64
theorem Ql.tree(h:Ql X M):eo M:=by obtain⟨-,T,own,h⟩:=h;exact h.tree
theorem Ql.few(h:Ql X M):mK M:=by obtain⟨-,T,own,h⟩:=h;exact h.few
theorem Ql.lands{M':Nat->Nd}(h:Ql X M){qs:List (Int×Int)}(hl:Bi X qs M')(hT:eo M'):
  okP (cV X (aA X qs) 3128)/\Aa (cV X (aA X qs) 3128)=true/\(cV X (aA X qs) 3128).length<=400/\Ql (mM X (cV X (aA X qs) 3128)) M'/\
   ∀Z:List Int,Z.length=3128->In64 Z->(∀k,k<3128->(k<8\/816<=k)->Z.getD k 0=(aA X qs).getD k 0)->∃T own,lY Z T own [] M':=by
 obtain⟨h8,T,own,W⟩:=h;obtain⟨V,U,hn,hj,L,hL,J⟩:=hl;have z:(cV X (aA X qs) 3128).length<=400:=cD (abv J) hL;have G:=hn.snd hT;obtain⟨c1,c2,c3,c4,c5,c6⟩:=Nf W.st.len W.st.w64 G.st.w64 hj h8 z;exact⟨c1,c2,z,⟨c5,V,U,(G.journal c3 c4 c6).1⟩,λZ z1 z2 z3=>⟨V,U,(G.journal z1 z2 z3).1⟩⟩
theorem YC{T:Nat}{h:Value}(z:bh w g (Gs o h vq vd) T):(loadVar 37 ⟨g,0,none⟩).run prog w= .ok (.agg #[.int .i64 o.K,h,vq,.int .i64 o.O,.int .i64 o.N,vd]) w:=
 bW g 0 [.int .i64 o.K,h,vq,.int .i64 o.O,.int .i64 o.N,vd] underlying37 rfl (by kernel_rfl) λj _=>by
  rw[z.cell,aX,<-aF];rfl
def DoP (w:World) (X:List Int) (M:Nat->Nd) (o:kM) (ks:List Nat) (C:List (Int×Int)->Int->World->Prop) (e:Ending) (w':World):Prop:=
 ∃r Z,e= .returned (.agg Z)/\uG w.heap.size w' r Z/\
  ((az [] w w'/\r.E≠0/\∃h qs,pQ X M o h qs/\r=fy h.E)\/
  (az ks w w'/\∃h qs x,pQ X M o h qs/\h.E=0/\C (cV X (aA X qs) 3128) x w'/\((x=0/\r=h)\/(x≠0/\r=fy x))))
theorem pQ.E_zero{r:lX}{qs:List (Int×Int)}(h:pQ X M o r qs)(G:r.E=0):(oV M o).2.E=0/\adR o r (oV M o).2/\Bi X qs (oV M o).1:=by
 rcases h with ⟨z,-⟩|⟨z,-⟩|⟨-,J,V,U⟩
 ·omega
 ·exact absurd G z
 ·exact⟨J,V,U⟩
theorem abN{f:Nat}{s:j0}{vp:Value}{ks:List Nat}{C:List (Int×Int)->Int->World->Prop}
  (aK:p7 M o) (hf:abL w f b) (h:fH w b gn gl gf s) (hX:s.now=X) (hp:∀k:Nat,k<s.now.length->s.refusal (k:Int)=0/\s.load (k:Int)=s.now.getD k 0) (hs:Ql X M) (hT:kg w) (hI:zS w o vp vq vd) (af:∀y∈ks,y<w.heap.size)
  (hC:∀ps x wa wb l,(∀y∈l,w.heap.size<=y)->az l wa wb->C ps x wa->C ps x wb)
  (aH:∀w1 v g qs U,az [] w w1->pQ X M o U qs->U.E=0->mX w1 v g (cV X (aA X qs) 3128)->w.heap.size<=g->Calls prog 28 #[.pointer (some ⟨b,0,none⟩),v] w1 λe w2=>∃x,e= .returned (.int .i64 x)/\az ks w1 w2/\C (cV X (aA X qs) 3128) x w2):
  Calls prog 10 #[.pointer (some ⟨f,0,none⟩),.agg (Gs o vp vq vd)] w (DoP w X M o ks C):=by
 have bb:=hf.lt;obtain⟨W,hW⟩:∃W,(w.alloc (.cells (Gs o vp vq vd) 37)).alloc (.cells (GH jf (.slice none 0 0) (.slice none 0 0)) 34)=W:=⟨_,rfl⟩;have dt:az [] w W:=by rw[<-hW];exact((az.refl _ _).alloc _).alloc _
 have aT:bh W w.heap.size (Gs o vp vq vd) 37 :=by rw[<-hW];exact(bh.new w _ _).alloc _
 have mq:bh W (w.heap.size+1) (GH jf (.slice none 0 0) (.slice none 0 0)) 34 :=by rw[<-hW];exact bh.new2 w _ _ _ _
 have aO:W.heap.size=w.heap.size+2:=by rw[<-hW,br,br]
 have HW:=au hW
 -- what the calls leave
 have ah:Hid (∀wx l,(∀y∈l,w.heap.size<=y)->az l W wx->wx.cell? ⟨f,0,none⟩=some (.pointer (some ⟨b,0,none⟩))):=λwx l hl hk=>by
  have h1:bh W f _ _:=hf.keep dt (by simp);have h2:=h1.keep hk (λhm=>by have :=hl f hm;omega);rw[h2.cell];rfl
 have c0:=ah.out W [] (by simp) (az.refl _ _);have p9:=au (Nu (h.keep dt (by simp) (by simp)) hp);rw[hX] at p9;have YD:kF X=X:=by
  apply dg (by rw[iK,hs.len]);intro k h1 h2;have :=wT X k;rw[iK] at h1;rw[aj,aG (by rw[iK];exact h1),gD] at this;rw[this,aC h1,aj,aG h2];rfl
 have aU:=au YD;have wC:Hid (∀w2 V,az [] W w2->w.heap.size+2<=V->eO w2 V V X []->Calls prog 27 #[.agg (dZ V o vp vq vd)] w2 λe w'=>∃fn,e= .returned (.func (.func fn) #[.agg (dZ V o vp vq vd)] #[])/\az [] w2 w'/\(∀wx,(callFunc fn #[.agg (dZ V o vp vq vd)]).run prog wx= .ok (.enter fn #[.agg (dZ V o vp vq vd)]) wx)/\Calls prog fn #[.agg (dZ V o vp vq vd)] w' (jA w' V V X (pQ X M o))):=λw2 V hk hb aa=>by
  obtain⟨-,T,own,GG⟩:=id hs;have bc:wH w2 V V X [] T own [] M:=⟨aa,by rw[ze];exact GG.nd,⟨aa.raw.lt,aa.raw.lt⟩,λwx hx=>hT.keep ((dt.trans' hk).trans hx λy hy=> .inr (by simp only[aP,aM,bz,or_self] at hy;omega))⟩;refine(aK w2 V V X T own vp vq vd bc hs.tree ((hI.keep dt).keep hk)).mono ?_;rintro e w' ⟨fn,rfl,h1,ag,h2⟩;exact⟨fn,rfl,h1,ag,h2 w' h1⟩
 have E0:Hid (∀w5 (V gp:Nat) qs U,az [] W w5->eO w5 V gp X qs->pQ X M o U qs->U.E=0->∀wx,az [] w5 wx->Calls prog 29 #[.pointer (some ⟨V,0,none⟩)] wx λe w6=>∃a n cap,e= .returned (.slice a n cap)/\w6.cell? ⟨f,0,none⟩=some (.pointer (some ⟨b,0,none⟩))/\
   Hid (Calls prog 28 #[.pointer (some ⟨b,0,none⟩),.slice a n cap] w6 λe G=>∃x,e= .returned (.int .i64 x)/\Hid (az ks w5 G/\C (cV X (aA X qs) 3128) x G))):=λw5 V gp qs U hk aa hO h0 wx C9=>by
  refine(Qk (aa.keep C9 (by simp) (by simp))).mono ?_;rintro e w6 ⟨v,g,rfl,hr,hg,kG⟩;obtain⟨a,cap,rfl,-,-⟩:=hr.val;have U1:=C9.trans' kG;refine⟨a,_,cap,rfl,ah.out w6 [] (by simp) (hk.trans' U1),?_⟩;have h1:=aH w6 _ g qs U (dt.trans' (hk.trans' U1)) hO h0 hr (by have :=C9.size;have :=hk.size;omega);show Calls _ _ _ _ _;refine h1.mono ?_;rintro e G ⟨x,rfl,h2,h3⟩;exact⟨x,rfl,(U1.mono (by simp)).trans' h2,h3⟩
 -- an error, and what is told
 have tz:Hid (∀w5 l U qs,az l W w5->(∀y∈l,w.heap.size+2<=y)->pQ X M o U qs->U.E≠0->∃z,(storeVar 34 ⟨w.heap.size+1,0,none⟩ (.agg #[.int .i64 U.E,.int .i64 0,.int .i64 0,.int .i64 0,.int .i64 0,.slice none 0 0,.slice none 0 0])).run prog w5= .ok () z/\(loadVar 34 ⟨w.heap.size+1,0,none⟩).run prog z= .ok (.agg #[.int .i64 U.E,.int .i64 0,.int .i64 0,.int .i64 0,.int .i64 0,.slice none 0 0,.slice none 0 0]) z/\
   DoP w X M o ks C (.returned (.agg #[.int .i64 U.E,.int .i64 0,.int .i64 0,.int .i64 0,.int .i64 0,.slice none 0 0,.slice none 0 0])) z):=λw5 l U qs hk hl hO h0=>by
  obtain⟨z,s1,s2,s3,s4⟩:=nz mq rfl hk (λhm=>by have :=hl _ hm;omega) U.E;refine⟨z,s1,s2,fy U.E,_,rfl,s3 _,.inl ⟨?_,h0,U,qs,hO,rfl⟩⟩;have :=(dt.trans hk (λy hy=> .inr (by have :=hl y hy;omega))).trans s4 (l':=[w.heap.size+1]) (λy hy=> .inr (by rw[ay] at hy;omega));exact this
 have aB:Hid (∀w5 G l U qs x,az l W w5->(∀y∈l,w.heap.size+2<=y)->az ks w5 G->pQ X M o U qs->U.E=0->C (cV X (aA X qs) 3128) x G->x≠0->∃z,(storeVar 34 ⟨w.heap.size+1,0,none⟩ (.agg #[.int .i64 x,.int .i64 0,.int .i64 0,.int .i64 0,.int .i64 0,.slice none 0 0,.slice none 0 0])).run prog G= .ok () z/\(loadVar 34 ⟨w.heap.size+1,0,none⟩).run prog z= .ok (.agg #[.int .i64 x,.int .i64 0,.int .i64 0,.int .i64 0,.int .i64 0,.slice none 0 0,.slice none 0 0]) z/\
   DoP w X M o ks C (.returned (.agg #[.int .i64 x,.int .i64 0,.int .i64 0,.int .i64 0,.int .i64 0,.slice none 0 0,.slice none 0 0])) z):=λw5 G l U qs x hk hl DW hO h0 hc hx=>by
  have KQ:=(mq.keep hk (λhm=>by have :=hl _ hm;omega)).keep DW (λhm=>by have :=af _ hm;omega);obtain⟨z,s1,s2,s3,s4⟩:=nz KQ rfl (az.refl [] G) (by simp) x;refine⟨z,s1,s2,fy x,_,rfl,s3 _,.inr ⟨?_,U,qs,x,hO,h0,hC _ _ G z _ (by intro y hy;rw[ay] at hy;omega) s4 hc,.inr ⟨hx,rfl⟩⟩⟩;have h1:az [] w w5:=dt.trans hk (λy hy=> .inr (by have :=hl y hy;omega));exact((h1.mono (by simp)).trans' DW).trans s4 (λy hy=> .inr (by rw[ay] at hy;omega))
 have wQ:Hid (∀w4 w5 G l U Z qs,az l W w4->(∀y∈l,w.heap.size+2<=y)->uG (w.heap.size+2) w4 U Z->az [w4.heap.size] w4 w5->bh w5 w4.heap.size Z 34->az ks w5 G->pQ X M o U qs->U.E=0->C (cV X (aA X qs) 3128) 0 G->
   (loadVar 34 ⟨w4.heap.size,0,none⟩).run prog G= .ok (.agg Z) G/\∃z,(storeVar 34 ⟨w.heap.size+1,0,none⟩ (.agg Z)).run prog G= .ok () z/\(loadVar 34 ⟨w.heap.size+1,0,none⟩).run prog z= .ok (.agg Z) z/\DoP w X M o ks C (.returned (.agg Z)) z):=λw4 w5 G l U Z qs hk hl hr wE rI DW hO h0 hc=>by
  have bg:=hk.size;have bf:uG (w.heap.size+2) w5 U Z:=by
   obtain⟨ad,ae,e,⟨g1,a1,a2⟩,g2,b1,b2⟩:=hr;refine⟨ad,ae,e,⟨g1,?_,a2⟩,g2,?_,b2⟩
   ·by_cases hD:U.D=[]
    ·rw[hD] at a1 ⊢
     obtain⟨x1,x2,x3,x4,x5,-⟩:=a1;exact⟨x1,x2,x3,x4,x5,λh=>absurd rfl h⟩
    ·exact a1.keep wE (λhm=>by
      rw[ay] at hm;obtain⟨_,_,_,_,_,x6⟩:=a1;have :=(x6 (by intro e;apply hD;simpa[jL] using e)).1;omega)
   ·refine b1.keep wE (λhn hm=> ?_)
    rw[ay] at hm;obtain⟨_,_,_,_,_,x6⟩:=b1;have :=(x6 hn).1;omega
  have KQ:=rI.keep DW (λhm=>by have :=af _ hm;omega);have ar:=bf.keep DW (λx hx=>by have :=af x hx;omega);have ba:=((mq.keep hk (λhm=>by have :=hl _ hm;omega)).keep wE (by rw[ay];omega)).keep DW (λhm=>by have :=af _ hm;omega);obtain⟨z,s1,s2,s3⟩:=uF ba rfl ar.at;have aS:=ar.keep s3 (λx hx=>by rw[ay] at hx;omega);refine⟨Bg KQ ar.at,z,s1,Bg s2 aS.at,U,Z,rfl,aS.mono (by omega),.inr ⟨?_,U,qs,0,hO,h0,hC _ _ G z _ (by intro y hy;rw[ay] at hy;omega) s3 hc,.inl ⟨rfl,rfl⟩⟩⟩;have h1:az [] w w5:=(dt.trans hk (λy hy=> .inr (by have :=hl y hy;omega))).trans wE (λy hy=> .inr (by rw[ay] at hy;omega));exact((h1.mono (by simp)).trans' DW).trans s3 (λy hy=> .inr (by rw[ay] at hy;omega))
 have GC:Hid (∀wx,az [] W wx->(loadVar 37 ⟨w.heap.size,0,none⟩).run prog wx= .ok (.agg #[.int .i64 o.K,vp,vq,.int .i64 o.O,.int .i64 o.N,vd]) wx):=λwx hk=>YC (aT.keep hk (by simp))
 have ot:=au aO;have IE:=pZ;clear aK h hX hp hs hT hI af hC aH hf bb dt aT mq aO YD;rw[p8] at hW IE;generalize DoP w X M o ks C=Q at *;unfold Gs at hW;show Calls _ _ #[.pointer (some ⟨f,0,none⟩),.agg #[.int .i64 o.K,vp,vq,.int .i64 o.O,.int .i64 o.N,vd]] w Q;go_enter func10,ntmps10;go_wp2_with fail;refine p9.out.mono ?_;rintro e w1 ⟨v,g,rfl,hr,hg,aJ⟩;have HN:=EB hr;rw[aU.out] at HN;have HN:=au HN;have iU:=au aJ;clear hr hg aJ p9 aU hW c0;go_wp2_with fail;refine HN.out.mono ?_;rintro e w2 ⟨V,rfl,aZ,aa,aN⟩;have sW:=iU.out.trans' aN;have ai:w.heap.size+2<=V:=by have :=iU.out.size;have :=ot.out;omega
 have HD:=au (wC.out w2 V sW ai aa);have aV:=au (GC.out w2 sW);have fL:=au sW;have o7:Hid (w.heap.size+2<=V/\V<w2.heap.size):=⟨ai,aa.raw.lt⟩;clear aZ aa aN sW ai HN iU GC wC;obtain⟨J,hJ⟩:∃J,dZ V o vp vq vd=J:=⟨_,rfl⟩;have aW:=au hJ;unfold dZ at hJ;rw[aW.out] at HD;go_wp2_with(with_reducible refine gL 37 aV.out ?_);refine HD.out.mono ?_;rintro e w3 ⟨fn,rfl,aD,ag,aQ⟩;have aX:=au (ag w3);have aF:=au aQ;have mV:=au (fL.out.trans' aD);have rb:Hid (V<w3.heap.size/\W.heap.size<=V):=by have :=o7.out;have :=ot.out;have :=aD.size;exact⟨by omega,by omega⟩
 clear aD aQ ag HD fL aV o7 hJ aW;go_wp2_with fail;rw[aX.out,Oper.upon_enter];refine aF.out.mono ?_;rintro e w4 ⟨r,Z,qs,gp,rfl,ac,aI,YE,ax,aR,Rl⟩;have Hx:az [] W w4:=mV.out.trans ax λy hy=> .inr (by simp only[aP,aM,bz,or_self] at hy;have :=rb.out;omega)
 obtain⟨w5,p1,p2,p3⟩:=uF (bh.new w4 #[.int .i64 0,.int .i64 0,.int .i64 0,.int .i64 0,.int .i64 0,.slice none 0 0,.slice none 0 0] 34) rfl ac.at;have wE:az [w4.heap.size] w4 w5:=((az.refl _ _).alloc _).trans' p3;have U2:az [] W w5:=Hx.trans wE λy hy=> .inr (by rw[ay] at hy;have :=Hx.size;omega)
 have YF:eO w5 V gp X qs:=YE.keep wE (by rw[ay];have :=YE.raw.lt;omega) (by rw[ay];have :=YE.raw.lt;omega);have c5:w5.cell? ⟨w4.heap.size,0,none⟩=some (.int .i64 r.E):=by
  obtain⟨_,_,rfl,-⟩:=ac;rw[p2.cell];rfl
 have zz:=au p1;have ak:uG (w.heap.size+2) w4 r Z:=ac.mono (by have :=mV.out.size;have :=ot.out;omega);by_cases hE:r.E=0
 ·have A0:=au (E0.out w5 V gp qs r U2 YF Rl hE)
  have HX:Hid (∀G x,az ks w5 G->C (cV X (aA X qs) 3128) x G->x≠0->∃z,(storeVar 34 ⟨w.heap.size+1,0,none⟩ (.agg #[.int .i64 x,.int .i64 0,.int .i64 0,.int .i64 0,.int .i64 0,.slice none 0 0,.slice none 0 0])).run prog G= .ok () z/\(loadVar 34 ⟨w.heap.size+1,0,none⟩).run prog z= .ok (.agg #[.int .i64 x,.int .i64 0,.int .i64 0,.int .i64 0,.int .i64 0,.slice none 0 0,.slice none 0 0]) z/\
   Q (.returned (.agg #[.int .i64 x,.int .i64 0,.int .i64 0,.int .i64 0,.int .i64 0,.slice none 0 0,.slice none 0 0])) z):=λG x h1 h2 h3=>aB.out w5 G [] r qs x U2 (by simp) h1 Rl hE h2 h3
  have av:Hid (∀G,az ks w5 G->C (cV X (aA X qs) 3128) 0 G->(loadVar 34 ⟨w4.heap.size,0,none⟩).run prog G= .ok (.agg Z) G/\∃z,(storeVar 34 ⟨w.heap.size+1,0,none⟩ (.agg Z)).run prog G= .ok () z/\(loadVar 34 ⟨w.heap.size+1,0,none⟩).run prog z= .ok (.agg Z) z/\Q (.returned (.agg Z)) z):=λG h1 h2=>wQ.out w4 w5 G [] r Z qs Hx (by simp) ak wE p2 h1 Rl hE h2
  have c0:=ah.out w5 [] (by simp) U2;rw[hE] at c5;generalize C (cV X (aA X qs) 3128)=CC at *;clear E0 tz aB wQ ac ak aI YE ax aR Rl Hx p1 p2 p3 wE U2 YF aF mV rb hE;go_wp2_with(with_reducible refine gS 34 zz.out ?_)
  go_upto_region 9 with fail
  go_cut [10] (λSq wx=>∃x:Int,Sq= .int .i64 x/\Hid (az ks w5 wx/\CC x wx))
  case first=>
   go_region_with (first|(go_at_call 29;refine(A0.out _ (by first|exact az.refl _ _|exact(az.refl _ _).drew)).mono ?_;rintro e w6 ⟨a,n,cap,rfl,c6,N9⟩)|(go_at_call 28;refine N9.out.mono ?_;rintro e G ⟨x,rfl,aY⟩))
   all_goals go_wp2_with fail
   all_goals go_meet
   all_goals exact⟨_,rfl,aY⟩
  case rest=>
   obtain⟨x,rfl,HC⟩:=hcut;obtain⟨DW,OO⟩:=HC.out;by_cases hx:x=0
   ·subst hx
    obtain⟨l1,z,s1,s2,s3⟩:=av.out wc DW OO;have yr:=au l1;have HS:=au s1;have HL:=au s2;have HF:=au s3;clear A0 HX av HC DW OO l1 s1 s2 s3 zz c0 c5;go_wp2_with(first|(with_reducible refine gL 34 yr.out ?_)|(with_reducible refine gS 34 HS.out ?_));exact aL (b9 results10 rfl HL.out) rfl HF.out
   ·obtain⟨z,s1,s2,s3⟩:=HX.out wc x DW OO hx
    have b1:(x != 0)=true:=by simpa using hx
    have HS:=au s1;have HL:=au s2;have HF:=au s3;clear A0 HX av HC DW OO s1 s2 s3 zz c0 c5 hx;go_wp2_with(with_reducible refine gS 34 HS.out ?_);exact aL (b9 results10 rfl HL.out) rfl HF.out
 ·obtain⟨z,s1,s2,s3⟩:=tz.out w5 [] r qs U2 (by simp) Rl hE
  have b1:(r.E != 0)=true:=by simpa using hE
  have HS:=au s1;have HL:=au s2;have HF:=au s3;clear E0 tz aB wQ ac ak aI YE ax aR Rl Hx p1 p2 p3 wE U2 YF aF mV rb hE s1 s2 s3;go_wp2_with(first|(with_reducible refine gS 34 zz.out ?_)|(with_reducible refine gS 34 HS.out ?_));exact aL (b9 results10 rfl HL.out) rfl HF.out
def nF (n:Nat):List Bool:=List.replicate n false
def mF (n q:Nat):List Bool:=(List.range n).map λj=>decide (j<8*q)
theorem adW (n k:Nat):(nF n).set k false=nF n:=by
 unfold nF;apply dg (by simp);intro j z h;rw[List.getElem_set];split<;>simp
theorem abO (n:Nat):mF n 0=nF n:=by
 unfold nF mF;apply dg (by simp);intro j z h;simp
theorem adX (n q:Nat):(mF n q).length=n:=by simp[mF]
theorem abP (n q:Nat):zh (mF n q) q 8=mF n (q+1):=by
 unfold zh mF;apply dg (by simp);intro j G z;simp only[List.getElem_mapIdx,ig,jJ];by_cases h:q*8<=j/\j<q*8+8
 ·rw[aC h]
  exact(bq (by omega)).symm
 ·rw[aB h]
  exact decide_eq_decide.2 (by omega)
theorem adY{q j:Nat}(h:j<n)(z:j<8*q):(mF n q).getD j false=true:=by
 unfold mF;rw[aj,bF,cA h];exact bq z
def wJ (N:Nat) (xs ws:List Int) (d:Int) (k:Nat):j0:={ now:=mix ws xs k,last:=xs,fl:=nF N,deeds:=d+(k:Int),fused:=false,left:=0 }
def En (N:Nat) (xs ws:List Int) (d:Int) (q:Nat):j0:={ now:=ws,last:=xs,fl:=mF N q,deeds:=d+(N:Int)+(q:Int),fused:=false,left:=0 }
section
variable {N:Nat} {xs ws:List Int} {d:Int} {k q:Nat}
theorem U3 (z:N=3128)(G:xs.length=N):wJ N xs ws d 0=calm xs d:=by
 have h:nF N=List.replicate ((xs.length+7)/8*8) false:=by
  unfold nF
  congr 1
  omega
 unfold wJ calm;rw[VM,h]
 congr 1
 exact Int.add_zero d
theorem Dr (z:xs.length=N)(U:ws.length=N)(J:k<N):(wJ N xs ws d k).refusal (k:Int)=0:=by
 unfold j0.refusal;have h:¬(wJ N xs ws d k).gone=true:=Bool.false_ne_true;have G:(wJ N xs ws d k).now.length=N:=by
  show(mix ws xs k).length=N;rw[ZX _ _ _ (by omega),z]
 rw[aB h,G,aB (by omega)]
theorem U4 (G:xs.length=N)(U:ws.length=N)(h:k<N):(wJ N xs ws d k).store (k:Int) (ws.getD k 0)=wJ N xs ws d (k+1):=by
 unfold j0.store;rw[aC (Dr G U h),aH];have z:(wJ N xs ws d k).now.set k (ws.getD k 0)=mix ws xs (k+1):=(VN ws xs k (by omega) (by omega)).symm;have J:(wJ N xs ws d k).fl.set k false=nF N:=adW N k;rw[z,J];show({ now:=mix ws xs (k+1),last:=xs,fl:=nF N,deeds:=d+(k:Int)+1,fused:=false,left:=0 }:j0)={ now:=mix ws xs (k+1),last:=xs,fl:=nF N,deeds:=d+((k+1:Nat):Int),fused:=false,left:=0 }
 congr 1
 omega
theorem YG (h:xs.length=N)(z:ws.length=N):wJ N xs ws d N=En N xs ws d 0:=by
 unfold wJ En;rw[ZV _ _ _ (by omega) (by omega),abO]
 congr 1
 omega
theorem Gt (G:ws.length=N)(J:8*q<N):(En N xs ws d q).refusal ((8*q:Nat):Int)=0:=by
 unfold j0.refusal;have h:¬(En N xs ws d q).gone=true:=Bool.false_ne_true;have z:(En N xs ws d q).now.length=N:=G;rw[aB h,z,aB (by omega)]
theorem YH (G:ws.length=N)(z:8*q<N):(En N xs ws d q).flush ((8*q:Nat):Int)=En N xs ws d (q+1):=by
 unfold j0.flush;have h:zh (En N xs ws d q).fl (((8*q:Nat):Int).toNat/8) 8=mF N (q+1):=by
  rw[aH,show 8*q/8=q by omega];exact abP N q
 rw[aC (Gt G z),h];show({ now:=ws,last:=xs,fl:=mF N (q+1),deeds:=d+(N:Int)+(q:Int)+1,fused:=false,left:=0 }:j0)={ now:=ws,last:=xs,fl:=mF N (q+1),deeds:=d+(N:Int)+((q+1:Nat):Int),fused:=false,left:=0 }
 congr 1
 omega
theorem U5 (hN:N=3128)(hq:q=391)(V:xs.length=N)(G:ws.length=N):(En N xs ws d q).fence=calm ws (d+3520):=by
 unfold j0.fence;have W:¬(En N xs ws d q).gone=true:=Bool.false_ne_true;have U:iH (En N xs ws d q) (En N xs ws d q).now.length=ws:=by
  have z:=CM (En N xs ws d q) (En N xs ws d q).now.length;have h:(En N xs ws d q).last.length=N:=V;apply dg (by rw[z,h,G]);intro j J h4;rw[z,h] at J;have hn:(En N xs ws d q).now.length=N:=G;simp only[iH,List.getElem_mapIdx];rw[aC ⟨by omega,adY J (by omega)⟩];show ws.getD j 0=ws[j];rw[aj,aG h4];rfl
 have h2:(En N xs ws d q).fl.length=(ws.length+7)/8*8:=by
  show(mF N q).length=_;rw[adX];omega
 rw[aB W,U,h2];show({ now:=ws,last:=ws,fl:=List.replicate ((ws.length+7)/8*8) false,deeds:=d+(N:Int)+(q:Int)+1,fused:=false,left:=0 }:j0)={ now:=ws,last:=ws,fl:=List.replicate ((ws.length+7)/8*8) false,deeds:=d+3520,fused:=false,left:=0 }
 congr 1
 omega
theorem YI (z:0<=d)(G:d<1000000000000000000)(h:k<=3128):(wJ N xs ws d k).fit:=by
 unfold j0.fit wJ
 dsimp only
 omega
theorem RT (z:N=3128)(G:0<=d)(J:d<1000000000000000000)(h:q<=3128):(En N xs ws d q).fit:=by
 unfold j0.fit En
 dsimp only
 omega
end
theorem Qm{xs ws:List Int}{d:Int}(h:fH w b gn gl gf (calm xs d))(h0:0<=d)(hd:d<100000000000000000)(aj:xs.length=3128)(ag:ws.length=3128){v:Value}{g:Nat}(hr:Reads w v g (aW ws))(hg:g∉[b,gn,gl,gf]):
  Calls prog 50 #[.pointer (some ⟨b,0,none⟩),v] w λe w'=>e= .returned (.int .i64 0)/\fH w' b gn gl gf (calm ws (d+3520))/\az [b,gn,gl,gf] w w':=by
 obtain⟨N,hN⟩:∃N:Nat,N=3128:=⟨_,rfl⟩;have hx:xs.length=N:=by omega
 have hw:ws.length=N:=by omega
 obtain⟨a,cap,rfl,ar,ai,HC⟩:=iB hr;obtain⟨af,off,rfl,-⟩:=HC.out 0 (by omega);have Tu:Hid (∀G,az [b,gn,gl,gf] w G->∀k,k<3128->G.cell? ⟨g,off+k,none⟩=some (.int .u64 (ws.getD k 0))):=λG hk k ac=>by
  obtain⟨-,av,e1,e2⟩:=HC.out k (by omega);cases e1;rw[aO (w:=w) (a:=⟨g,off+k,none⟩) (hk.block g af hg)];exact e2
 rw[ag] at ar ⊢;unfold maxLen at ai;have H0:Hid (fH w b gn gl gf (wJ N xs ws d 0)):=by
  show fH _ _ _ _ _ _;rw[U3 hN hx];exact h
 have aa:Hid (∀G (k:Nat),k<3128->fH G b gn gl gf (wJ N xs ws d k)->Calls prog 18 #[.pointer (some ⟨b,0,none⟩),.int .i64 (k:Int),.int .u64 (ws.getD k 0)] G λe w'=>e= .returned (.int .i64 0)/\fH w' b gn gl gf (wJ N xs ws d (k+1))/\az [b,gn,gl,gf] G w'):=λG k hk U=>by
  have :=Lb U (YI h0 (by omega) (by omega)) (k:Int) (ws.getD k 0);rw[Dr hx hw (by omega),U4 hx hw (by omega)] at this;exact this
 have Zq:Hid (∀G (q:Nat),q<391->fH G b gn gl gf (En N xs ws d q)->Calls prog 102 #[.pointer (some ⟨b,0,none⟩),.int .i64 ((8*q:Nat):Int)] G λe w'=>e= .returned (.int .i64 0)/\fH w' b gn gl gf (En N xs ws d (q+1))/\az [b,gn,gl,gf] G w'):=λG q hq U=>by
  have :=Lc U (RT hN h0 (by omega) (by omega)) ((8*q:Nat):Int);rw[Gt hw (by omega),YH hw (by omega)] at this;exact this
 have Rf:Hid (∀G,fH G b gn gl gf (En N xs ws d 391)->Calls prog 103 #[.pointer (some ⟨b,0,none⟩)] G λe w'=>e= .returned (.int .i64 0)/\fH w' b gn gl gf (calm ws (d+3520))/\az [b,gn,gl,gf] G w'):=λG U=>by
  have :=Le U (RT hN h0 (by omega) (by omega));rw[U5 hN rfl hx hw] at this;exact this
 have oo:Hid (∀G,fH G b gn gl gf (wJ N xs ws d 3128)->fH G b gn gl gf (En N xs ws d 0)):=λG U=>by
  have :=YG (d:=d) hx hw;rw[hN] at this U ⊢;rw[this] at U;exact U
 clear h hx hw aj ag hr HC af hg h0 hd hN;go_enter func50,ntmps50;go_wp2_with fail;go_loopg [5,6,7,12] 3128 (λgh s5 s6 s7 s12 G=>∃k:Nat,k+gh=3128/\s12= .int .i64 (k:Int)/\
  Hid (fH G b gn gl gf (wJ N xs ws d k)/\az [b,gn,gl,gf] w G))
 case atStart=>exact⟨0,by omega,rfl,H0.out,az.refl _ _⟩
 case round=>
  obtain⟨k,hk,rfl,HI⟩:=hrel;cases gk with
  |zero=>
   obtain rfl:k=3128:=by omega
   clear aa Tu H0;go_wp2_with fail;go_loopg [8,9] 391 (λgh s8 s9 G=>∃q:Nat,q+gh=391/\s8= .int .i64 ((8*q:Nat):Int)/\
    Hid (fH G b gn gl gf (En N xs ws d q)/\az [b,gn,gl,gf] w G))
   case atStart=>exact⟨0,by omega,rfl,oo.out _ HI.out.1,HI.out.2⟩
   case round=>
    obtain⟨q,hq,rfl,HJ⟩:=hrel;cases gk with
    |zero=>
     obtain rfl:q=391:=by omega
     have O9:=au (Rf.out _ HJ.out.1);have J:=au HJ.out.2;clear Zq Rf oo HI HJ;go_wp2_with fail;refine O9.out.mono ?_;rintro e w3 ⟨rfl,V,W⟩;have HF:Hid (fH w3 b gn gl gf (calm ws (d+3520))/\az [b,gn,gl,gf] w w3):=⟨V,J.out.trans' W⟩;clear V W O9 J;go_wp2_with fail;go_ret;exact⟨rfl,HF.out⟩
    |succ gg=>
     have ak:((8*q:Nat):Int)<3128:=by omega
     have ae:=au (Zq.out _ q (by omega) HJ.out.1);have J:=au HJ.out.2;have ax:q<391:=by omega
     have Wt:((8*q:Nat):Int)+8=((8*(q+1):Nat):Int):=by omega
     have ay:(0:Int)<=((8*q:Nat):Int):=by omega
     generalize hz:((8*q:Nat):Int)=z at *;clear Zq HI HJ Rf oo;go_wp2_with fail;refine ae.out.mono ?_;rintro e w3 ⟨rfl,V,W⟩;have Ad:=au V;have mV:=au (J.out.trans' W);clear V W ae J;go_wp2_with fail;go_roundg gg;case measure=>omega
     case rel=>exact⟨q+1,by omega,by rw[<-Wt];go_num,Ad.out,mV.out⟩
  |succ gg=>
   have ak:(k:Int)<3128:=by omega
   have ac:k<3128:=by omega
   have hc:=Tu.out _ HI.out.2 k ac;have HS:=au (aa.out _ k ac HI.out.1);have ah:=au HI.out.2;generalize ws.getD k 0=x at *;clear aa Zq Rf oo Tu HI;go_wp2_with fail;refine HS.out.mono ?_;rintro e w3 ⟨rfl,V,W⟩;have Ad:=au V;have mV:=au (ah.out.trans' W);clear V W HS ah;go_wp2_with fail;go_roundg gg;case measure=>omega
   case rel=>exact⟨k+1,by omega,by go_num,Ad.out,mV.out⟩
theorem Qn (w:World):(zeroValue 116).run prog w= .ok (.agg (aW (kF [])).toArray) w:=by kernel_rfl
theorem Ny (h:bh w g (aW X).toArray 116)(lx:X.length=3128)(Y:List Int)(z:Y.length=3128):
  ∃w',(storeVar 116 ⟨g,0,none⟩ (.agg (aW Y).toArray)).run prog w= .ok () w'/\bh w' g (aW Y).toArray 116/\az [g] w w':=by
 refine⟨_,jy g 0 (aW Y) _ (by rw[bp,z];exact uT) h (by rw[bN,bp,bp];omega) (fh Y),?_,(az.refl _ _).setRow (by simp) _⟩;have e:((aW X).toArray.toList.take 0++aW Y++(aW X).toArray.toList.drop (0+(aW Y).length)).toArray=(aW Y).toArray:=by
  rw[eV,bY,dF (by rw[bp,bp];omega),bu]
 rw[e];exact kr h
theorem U6{T:Nat}(z:bh w g (aW Y).toArray T)(h:Y.length=n)(G:n<=maxLen):Reads w (.slice (some ⟨g,0,none⟩) n n) g (aW Y):=by
 refine⟨some ⟨g,0,none⟩,n,by rw[bp,h],by rw[bp,h];exact aI _,G,λ_=>⟨z.lt,0,rfl,λj J=> ?_⟩⟩;rw[z.cell,aX];simp
theorem Nz{us:List (Int×Int)}(h:kp w b gp B X us):
  Calls prog 51 #[.pointer (some ⟨b,0,none⟩)] w (jw w X):=by
 obtain⟨lb,lx,vp,U,h2,h3⟩:=h;have HL:=au (EA U lb lx);have hz:=Qn;obtain⟨w2,G,z,J⟩:=Ny (bh.new w (aW (kF [])).toArray 116) (iK []) X lx;have V:=au G;have W:Hid (jw w X (.returned (.slice (some ⟨w.heap.size,0,none⟩) 3128 3128)) w2):=
  ⟨_,w.heap.size,rfl,U6 z lx (by simp[maxLen]),aI _,((az.refl [] w).alloc _).trans J (by simp)⟩
 clear U h2 h3 G z J lb lx;generalize (aW (kF [])).toArray=Z at *;generalize (aW X).toArray=Y at *;go_enter func51,ntmps51;go_wp2_with(first|(with_reducible refine gL 116 HL.out ?_)|(with_reducible refine gS 116 V.out ?_));go_ret;exact W.out
theorem Qo{ps:List (Int×Int)}(h:eO w b z B ps):
  Calls prog 51 #[.pointer (some ⟨b,0,none⟩)] w (jw w (aA B ps)):=Nz h.raw
theorem YJ (F K:Int):aR (VH F K) (.slice none 0 0)= #[.int .i64 F,.int .i64 K,.int .i64 1,.int .i64 0,.int .i64 0,.int .i64 0,.int .i64 0,.int .i64 0,.int .i64 0,.int .i64 0,.int .i64 0,.int .i64 0,.int .i64 0,.int .i64 0,.int .i64 0,.int .i64 0,.int .i64 0,.slice none 0 0]:=rfl
theorem Gu:aR cr (.slice none 0 0)= #[.int .i64 0,.int .i64 0,.int .i64 0,.int .i64 0,.int .i64 0,.int .i64 0,.int .i64 0,.int .i64 0,.int .i64 0,.int .i64 0,.int .i64 0,.int .i64 0,.int .i64 0,.int .i64 0,.int .i64 0,.int .i64 0,.int .i64 0,.slice none 0 0]:=rfl
theorem YK{U:World}{G:Nat}{R:lX->List (Int×Int)->Prop}{z:Array Value}{e:Ending}(J:b<w.heap.size/\G<w.heap.size)(dt:az [] w W)(aa:W.heap.size=w.heap.size+2)(mq:bh W (w.heap.size+1) z 34)(hc:z.size=7)(hp:jA W b G B R e U):
  ∃Z h,e= .returned (.agg Z)/\(storeVar 34 ⟨w.heap.size+1,0,none⟩ (.agg Z)).run prog U= .ok () h/\(loadVar 34 ⟨w.heap.size+1,0,none⟩).run prog h= .ok (.agg Z) h/\jA w b G B R (.returned (.agg Z)) h:=by
 obtain⟨r,Z,qs,kX,rfl,h1,h2,h3,h4,h5,h6⟩:=hp;obtain⟨h,s1,s2,s3⟩:=uF (mq.keep h4 (gZ J (by omega))) hc h1.at;have V:=h1.keep s3 (λx hx=>by rw[ay] at hx;omega);have hs:=s3.size;refine⟨Z,h,rfl,s1,Bg s2 V.at,r,Z,qs,kX,rfl,V.mono (by omega),by omega,h3.keep s3 (by rw[ay];omega) (by rw[ay];omega),((dt.mono (by simp)).trans' h4).trans s3 (λy hy=>by rw[ay] at hy;omega),h5,h6⟩
theorem U7 (h:wH w b gp B [] T own [] M)(hT:eo M){o:kM}{vp vq vd:Value}{g:Nat}(hP:jg w vp g o.P)(hs:∀s∈o.P,s.size<=9223372036854775807)(hK:o.K=0\/o.K=1):
  Calls prog 104 #[.agg (dZ b o vp vq vd),.int .i64 (1+o.K)] w (jA w b gp B (pQ B M o)):=by
 obtain⟨W,hW,dt,oZ,mq,av⟩:=vT w (dZ b o vp vq vd) (GH jf (.slice none 0 0) (.slice none 0 0));have ae:=au (UY (h.keep0 dt) hT o vp vq vd (hP.keep dt (by simp)) hs);have aa:=h.lt;have EI:=au aa;have fW:=au dt;have ot:=au av;have sx:Hid (∀z,az [b,gp] W z->(loadVar 79 ⟨w.heap.size,0,none⟩).run prog z= .ok (.agg (dZ b o vp vq vd)) z):=λz hk=>ny (oZ.keep hk (gZ aa (by omega)))
 have CE:Hid (∀z,az [b,gp] W z->z.cell? ⟨w.heap.size,0,none⟩=some (.pointer (some ⟨b,0,none⟩))/\z.cell? ⟨w.heap.size,2,none⟩=some vp):=λz hk=>by
  have h1:=oZ.keep hk (gZ aa (by omega));exact⟨by rw[h1.cell];rfl,by rw[h1.cell];rfl⟩
 -- an error
 have tz:Hid (∀r,r≠0->(oV M o).2=fy r->∀w1,az [] W w1->∃G,(storeVar 34 ⟨w.heap.size+1,0,none⟩ (.agg #[.int .i64 r,.int .i64 0,.int .i64 0,.int .i64 0,.int .i64 0,.slice none 0 0,.slice none 0 0])).run prog w1= .ok () G/\(loadVar 34 ⟨w.heap.size+1,0,none⟩).run prog G= .ok (.agg #[.int .i64 r,.int .i64 0,.int .i64 0,.int .i64 0,.int .i64 0,.slice none 0 0,.slice none 0 0]) G/\jA w b gp B (pQ B M o) (.returned (.agg #[.int .i64 r,.int .i64 0,.int .i64 0,.int .i64 0,.int .i64 0,.slice none 0 0,.slice none 0 0])) G):=λr V hd w1 hk=>by
  obtain⟨G,s1,s2,s3,s4⟩:=nz mq rfl hk (by simp) r;exact⟨G,s1,s2,jA.none h ((dt.trans' hk).trans s4 (by intro y hy;rw[ay] at hy;omega)) s3 (.inr (.inl ⟨V,hd⟩))⟩
 have YL:Hid (wI M o.P≠0->(oV M o).2=fy (wI M o.P)):=UW hK;have Tp:Hid (∀z,az [] W z->Calls prog 93 #[.pointer (some ⟨b,0,none⟩)] z λe w'=>e= .returned (.int .i64 ((aA B []).getD 1 0))/\z=w'):=λz hk=>yf ((h.keep0 (dt.trans' hk)).shS)
 -- New: nothing is free, or it is made
 have aj:Hid (wI M o.P=0->∀z,az [] W z->Calls prog 147 #[.pointer (some ⟨b,0,none⟩),.agg (aR (VH ((aA B []).getD 1 0) (1+o.K)) (.slice none 0 0))] z λe U=>∃i r,e= .returned (.tuple #[.int .i64 i,.int .i64 r])/\az [b,gp] W U/\az [b,gp] z U/\
   ((r≠0/\∃G,(storeVar 34 ⟨w.heap.size+1,0,none⟩ (.agg #[.int .i64 r,.int .i64 0,.int .i64 0,.int .i64 0,.int .i64 0,.slice none 0 0,.slice none 0 0])).run prog U= .ok () G/\(loadVar 34 ⟨w.heap.size+1,0,none⟩).run prog G= .ok (.agg #[.int .i64 r,.int .i64 0,.int .i64 0,.int .i64 0,.int .i64 0,.slice none 0 0,.slice none 0 0]) G/\jA w b gp B (pQ B M o) (.returned (.agg #[.int .i64 r,.int .i64 0,.int .i64 0,.int .i64 0,.int .i64 0,.slice none 0 0,.slice none 0 0])) G)\/
   (r=0/\Calls prog 118 #[.agg (dZ b o vp vq vd),.agg (fU (dJ M o.P).1 (cL o.P) false 0),.int .i64 i] U λe w3=>∃x G,e= .returned (.int .i64 x)/\(storeVar 34 ⟨w.heap.size+1,0,none⟩ (.agg #[.int .i64 x,.int .i64 i,.int .i64 0,.int .i64 0,.int .i64 0,.slice none 0 0,.slice none 0 0])).run prog w3= .ok () G/\(loadVar 34 ⟨w.heap.size+1,0,none⟩).run prog G= .ok (.agg #[.int .i64 x,.int .i64 i,.int .i64 0,.int .i64 0,.int .i64 0,.slice none 0 0,.slice none 0 0]) G/\jA w b gp B (pQ B M o) (.returned (.agg #[.int .i64 x,.int .i64 i,.int .i64 0,.int .i64 0,.int .i64 0,.slice none 0 0,.slice none 0 0])) G))):=λhv z hk=>by
  have af:=(h.keep0 (dt.trans' hk));have aS:=h.nd.st.sup.2.1;refine(TW af.sh af.nd.st.w64 af.tab af.lt.2 (by simp) (VH ((aA B []).getD 1 0) (1+o.K)) (.slice none 0 0) 0 rfl (bC.nil _ _) (λk hk=>by simp[VH] at hk) (λh=>absurd rfl h)).mono ?_;rintro e U ⟨i,r,qs,kX,rfl,h1,h2,h3,h4,h5⟩;have yE:az [b,gp] W U:=(hk.mono (by simp)).trans' h3;have aI:kX=gp\/(W.heap.size<=kX/\kX<U.heap.size):=by have :=hk.size;omega
  refine⟨i,r,rfl,yE,h3,?_⟩;rcases h.nd.made (F:=(aA B []).getD 1 0) (K:=1+o.K) aS (by omega) h5 with ⟨rfl,hq,o9⟩|⟨rfl,j,rfl,hj,aT,BI,aC,o9⟩
  ·left
   obtain⟨G,s1,s2,s3,s4⟩:=nz mq rfl yE (gZ aa (by omega)) 7;refine⟨by omega,G,s1,s2,jA.some aa dt (by omega) (Rq:=λr qs=>pQ B M o (fy 7) qs) (m:=700) ⟨7,qs,kX,rfl,aI,h2,yE,h4,.inr (.inl ⟨by show(7:Int)≠0;omega,?_⟩)⟩ (by omega) s4 s3 λqs hq=>hq⟩;rw[RR hK hv,o9];rfl
  ·right
   refine⟨rfl,?_⟩;obtain⟨T',cM,g1,g2,g3⟩:=id aC;have aQ:=(h.keep0 dt).go h2 yE aI g1;obtain⟨v1,v2,v3⟩:=KE hv;have hp:=uy (M:=M) v2;have Zx:(dJ M o.P).1≠j:=λe=>by
    have :=hp.1;rw[e] at this;omega
   refine(Yq aQ (by rw[bY];omega) o vp vq vd (d:=(dJ M o.P).1) (by rw[dL _ _ Zx];exact hp.1) hp.2.1 false 0 (i:=(j:Int)) (by omega)).mono ?_;rintro e w3 ⟨x,q2,pq,rfl,e1,e2,e3,e4,e5⟩;have aN:az [b,gp] W w3:=yE.trans e3 λy hy=>by
    simp only[aP,aM,bz] at hy ⊢;omega
   obtain⟨G,s1,s2,s3,s4⟩:=CD (r:={ jf with N:=(j:Int),E:=x }) mq rfl aN (gZ aa (by omega)) rfl rfl rfl;have aU:=h3.size;have aW:=e3.size;refine⟨x,G,rfl,s1,s2,jA.some aa dt (by omega) (Rq:=λ_ q=>pQ B M o { jf with N:=(j:Int),E:=x } q) (m:=1400) ⟨x,qs++q2,pq,rfl,by have :=hk.size;omega,by rw[<-ba];exact e2,aN,by rw[aD];omega,?_⟩ (by omega) s4 s3 λ_ hq=>hq⟩;refine UX hT hK hv hj BI aC o9 ?_;have aG:=e5;rw[bD] at aG;exact aG
 have IE:=pZ;have aV:=Cz;have ub:=eA;clear h hT hP hs dt oZ mq av aa;unfold Yy at ae;rw[p8] at *;generalize jA w b gp B (pQ B M o)=Q at *;generalize wI M o.P=ve at *;generalize (oV M o).2=D2 at *;generalize aJ:fU (dJ M o.P).1 (cL o.P) false 0=Zs at *;have KT:=au aJ;generalize (aA B []).getD 1 0=tg at *;have e0:fU 0 ⟨#[]⟩ false 0= #[.int .i64 0,.string ⟨#[]⟩,.bool false,.int .i64 0]:=rfl;rw[e0] at ae;rw[YJ] at aj;rw[Gu] at ub;generalize hJ:dZ b o vp vq vd=J at *;clear hJ e0 aJ;generalize 1+o.K=kk at *;have c2:=(CE.out W (az.refl _ _)).2;have tq:=au (sx.out W (az.refl _ _));go_enter func104,ntmps104;go_wp2_with(with_reducible refine gL 79 tq.out ?_);refine ae.out.mono ?_;rintro e w1 ⟨ac,⟨V,rfl⟩|⟨rfl,rfl⟩⟩
 ·obtain⟨U,p1,p2,p3⟩:=nL (d:=0) (nm:=⟨#[]⟩) (th:=false) (i:=0) (bh.new w1 #[.int .i64 0,.string ⟨#[]⟩,.bool false,.int .i64 0] 165) rfl
  have iM:az [] w1 U:=((az.refl [] w1).alloc _).trans p3 (by intro x hx;rw[ay] at hx;omega);obtain⟨G,s1,s2,s3⟩:=tz.out ve V (YL.out V) U (ac.trans' iM);have b1:(ve != 0)=true:=by simpa using V
  have ov:=au p1;have HS:=au s1;have HL:=au s2;have HF:=au s3;clear hW p1 p2 p3 ac iM s1 s2 s3 V ae EI fW ot sx tq CE tz YL Tp aj c2 KT;unfold fU at ov;go_wp2_with(first|(with_reducible refine gS 165 ov.out ?_)|(with_reducible refine gS 34 HS.out ?_));exact aL (b9 results104 rfl HL.out) rfl HF.out
 ·have mI:=au (aj.out rfl)
  have aB:bh (w1.alloc (.cells #[.int .i64 0,.string ⟨#[]⟩,.bool false,.int .i64 0] 165)) w1.heap.size #[.int .i64 0,.string ⟨#[]⟩,.bool false,.int .i64 0] 165 :=bh.new w1 _ _;obtain⟨U,p1,p2,p3⟩:=nL (d:=(dJ M o.P).1) (nm:=cL o.P) (th:=false) (i:=0) aB rfl;rw[KT.out] at p1 p2;have iM:az [] w1 U:=((az.refl [] w1).alloc _).trans p3 (by intro x hx;rw[ay] at hx;omega);have yE:=ac.trans' iM;have ov:=au p1;have ax:Hid (∀z,az [b,gp] U z->(loadVar 165 ⟨w1.heap.size,0,none⟩).run prog z= .ok (.agg Zs) z):=λz hk=>by
   have h1:=ac.size;have h2:=ot.out;have h3:=EI.out;have :=rA (d:=(dJ M o.P).1) (nm:=cL o.P) (th:=false) (i:=0) (by rw[KT.out];exact p2.keep hk (by simp;omega));rwa[KT.out] at this
  have aH:=au (Tp.out U.drew yE.drew);have O0:=au (mI.out U.drew yE.drew);have Qp:=(CE.out U.drew (yE.drew.mono (by simp)));obtain⟨c3,-⟩:=Qp;have nD:=au yE;clear hW p1 p2 p3 aB ac iM yE ae fW tz YL Tp aj mI c2 KT tq;go_wp2_with(with_reducible refine gS 165 ov.out ?_);refine Hy (l:=[_,_,_,_,_,_,_]) (o:=_) (l2:=[_,_,_,_,_]) (S:=λz=>z=U.drew) (by kernel_rfl) rfl (by kernel_rfl) (by kernel_rfl) (λd _ _ _ _ h=>by cases d<;>exact h) rfl (by kernel_rfl) (by kernel_rfl) ?_;repeat (first
   |((with_reducible show aK _ _ _ _ (⟨some 25,_,_,_,_,_⟩::_) _);refine aK.cons (.int .i64 tg) (bc.call rfl 93 #[.pointer (some ⟨b,0,none⟩)] ?he ?h) ?_;(case he=>(intro wz;go_simp));(case h=>(intro wz hz;subst hz;refine aH.out.mono ?_;rintro e w' ⟨rfl,rfl⟩;exact⟨rfl,rfl⟩));simp only[Act.put,ag,ah,ai])
   |(refine aK.cons ?_ (bc.val rfl ?h) ?_;(case h=>(intro wz hz;subst hz;go_simp;rfl));simp only[Act.put,ag,ah,ai]))
  refine aK.done λwz hz=> ?_
  subst hz;go_wp2_with fail;refine O0.out.mono ?_;rintro e w3 ⟨i,r,rfl,aF,mH,hh⟩;have aO:az [b,gp] U w3:=((az.refl [] U).drew.mono (by simp)).trans' mH;have ar:=au (ax.out w3 aO);have U8:=au (sx.out w3 aF);clear aF mH aO ax sx O0 aH ov CE EI ot nD c3;go_wp2_with fail;refine⟨trivial,λz=>z=w3,rfl,?_⟩;repeat (first
   |(refine aK.cons ?_ (bc.val rfl ?h) ?_;(case h=>(intro wz hz;subst hz;go_simp;rfl));simp only[Act.put,ag,ah,ai]))
  refine aK.done λwz hz=> ?_
  subst hz;rcases hh with ⟨V,G,s1,s2,s3⟩|⟨rfl,ak⟩
  ·have b1:(r != 0)=true:=by simpa using V
   have HS:=au s1;have HL:=au s2;have HF:=au s3;clear s1 s2 s3 V ar U8;go_wp2_with(with_reducible refine gS 34 HS.out ?_);exact aL (b9 results104 rfl HL.out) rfl HF.out
  ·have HE:=au ak
   clear ak;go_wp2_with(first|(with_reducible refine gL 79 U8.out ?_)|(with_reducible refine gL 165 ar.out ?_));refine HE.out.mono ?_;rintro e w4 ⟨x,G,rfl,s1,s2,s3⟩;have HS:=au s1;have HL:=au s2;have HF:=au s3;clear s1 s2 s3 HE ar U8;go_wp2_with(with_reducible refine gS 34 HS.out ?_);exact aL (b9 results104 rfl HL.out) rfl HF.out
theorem NA (h:wH w b z B [] T own [] M)(hT:eo M){o:kM}{vp vq vd:Value}{g:Nat}(hP:jg w vp g o.P)(hs:∀s∈o.P,s.size<=9223372036854775807)(hK:o.K=0):
  Calls prog 53 #[.agg (dZ b o vp vq vd)] w (jA w b z B (pQ B M o)):=by
 obtain⟨W,hW,dt,oZ,mq,G⟩:=vT w (dZ b o vp vq vd) (GH jf (.slice none 0 0) (.slice none 0 0));have hc:=U7 (vq:=vq) (vd:=vd) (h.keep0 dt) hT (hP.keep dt (by simp)) hs (.inl hK);rw[hK] at hc;have HC:=au hc;have tq:=au (ny oZ);have Kn:Hid (∀e U,jA W b z B (pQ B M o) e U->∃Z V,e= .returned (.agg Z)/\(storeVar 34 ⟨w.heap.size+1,0,none⟩ (.agg Z)).run prog U= .ok () V/\(loadVar 34 ⟨w.heap.size+1,0,none⟩).run prog V= .ok (.agg Z) V/\jA w b z B (pQ B M o) (.returned (.agg Z)) V):=λe U hp=>YK h.lt dt G mq rfl hp
 have IE:=pZ;clear h hT hP hs dt oZ mq G hc;rw[p8] at *;generalize jA w b z B (pQ B M o)=Q at *;generalize jA W b z B (pQ B M o)=Q1 at *;generalize dZ b o vp vq vd=J at *;go_enter func53,ntmps53;go_wp2_with(with_reducible refine gL 79 tq.out ?_);refine HC.out.mono ?_;intro e U hp;obtain⟨Z,V,rfl,s1,s2,s3⟩:=Kn.out e U hp;have HS:=au s1;have HL:=au s2;have HF:=au s3;clear s1 s2 s3 hp Kn HC hW tq;go_wp2_with(with_reducible refine gS 34 HS.out ?_);exact aL (b9 results53 rfl HL.out) rfl HF.out
end Go.Proofs.YtepbpdipenedhaaGreatDoor
