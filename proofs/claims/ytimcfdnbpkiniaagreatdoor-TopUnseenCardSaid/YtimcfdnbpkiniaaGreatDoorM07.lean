/- Lemmas. -/
import Derived.Test.YtimcfdnbpkiniaaGreatDoorM06
set_option maxHeartbeats 8000000
set_option maxRecDepth 100000
namespace Go.Proofs.YtimcfdnbpkiniaaGreatDoor
open Go.Proofs.Tryz
section
open Go.RowKit
variable{w:World}{v:Value}{a b g:Nat}{P:Program}{C ws:List Int}{E:List (ByteArray×Int)}{own:List Nat}
def pz (w:World) (v:Value) (g:Nat) (Ls:List (List Int)):Prop:=
 ∃a cap,v= .slice a Ls.length cap/\Ls.length<=cap/\cap<=maxLen/\(Ls.length≠0->g<w.heap.size/\∃off,a=some ⟨g,off,none⟩/\∀k,k<Ls.length->∀j,j<8->w.cell? ⟨g,off+k*8+j,none⟩=some (.int .u64 ((Ls.getD k []).getD j 0)))
theorem pz.keep{w':World}{Ls:List (List Int)}(h:pz w v g Ls){l:List Nat}(U:ay l w w')(hg:Ls.length≠0->g∉l:=by simp):pz w' v g Ls:=by
 obtain⟨a,cap,V,h2,h3,h4⟩:=h;refine⟨a,cap,V,h2,h3,λJ=> ?_⟩;obtain⟨z,off,h5,W⟩:=h4 J;refine⟨bQ z U.size,off,h5,λk G j hj=> ?_⟩;exact(aO (w:=w) (w':=w') (a:=⟨g,off+k*8+j,none⟩) (U.block g z (hg J))).trans (W k G j hj)
theorem pz.nil(w:World)(g:Nat):pz w (.slice none 0 0) g []:=⟨none,0,rfl,by simp,by simp[maxLen],λh=>absurd rfl h⟩
def mY (n:bS) (own:List Nat):List Int:=
 if (fu n.B).length<=6 then oX n::n.S::(fu n.B++List.replicate (6-(fu n.B).length) 0) else oX n::n.S::((fu n.B).take 5++[9223372036854775808+((own.getD 0 0:Nat):Int)])
def kf (n:bS):List (List Int):=
 if (fu n.B).length<=6 then [] else [(fu n.B).drop 5++List.replicate (13-(fu n.B).length) 0]
def pA (w:World) (R:List Int) (z:List (List Int)) (e:Ending) (w':World):Prop:=
 ∃h gb,e= .returned (.tuple #[(aX R).toArray,h])/\pz w' h gb z/\w.heap.size<=gb/\ay [] w w'
theorem eI{fn:Func}{tmps:Array Value}{t:Nat}{G:Addr}{x:Value}(h:fn.results= #[.cell a t,.tmp b])(J:tmps.getD a undef= .pointer (some G))(U:(loadVar t G).run P w= .ok v w)
  (z:tmps.getD b undef=x):(results fn tmps).run P w= .ok (.tuple #[v,x]) w:=by
 rw[fg] at J z;unfold results;rw[h];simp[J,vT,U,z]
theorem pB{z:Array Oper}{o:Oper}{a:Act}{K:Act->World->Prop}{Q:Exit->Act->World->Prop}{E:Prop}(G:o.guard=none)(ty:TypeId)(x y:Operand)(ho:o.op= .store ty x y)(J:Addr)
  (U:a.eval x= .pointer (some J)) (v:Value) (hy:a.eval y=v) (w':World) (W:(storeVar ty J v).run P w= .ok () w') (h:K (a.put o.dst undef) w'):if Region.wanted o (yielded z a.tmps)=true then Oper.wp P o a w K Q else E:=by
 have V:Region.wanted o (yielded z a.tmps)=true:=by simp[Region.wanted,G]
 rw[aB V];unfold Oper.wp execOp;simp only[ho,U,hy,Instr.storeAt,Instr.sureAddr,ck,fQ,cN,W];exact h
theorem Gc{T:Nat}{L:List Int}{z V a2 a3 J U G W:Value}(hb:bc w b #[z,V,a2,a3,J,U,G,W] T)(hl:L.length=8)(h:aX L=[z,V,a2,a3,J,U,G,W]):pz w (.slice b 1 1) b [L]:=by
 refine⟨_,1,rfl,aI _,by unfold maxLen;omega,λ_=>⟨hb.lt,0,rfl,λk hk j hj=> ?_⟩⟩;have cM:k=0:=by
  have :k<1:=hk;omega
 subst cM;have e:(0+0*8+j:Nat)=j:=by omega
 rw[e,hb.cell];have h2:(#[z,V,a2,a3,J,U,G,W]:Array Value)=(aX L).toArray:=by rw[h]
 rw[h2,aG,dM (by omega)];rfl
theorem sS (b:Nat)(w:World):(Instr.sliceAt 132 (.pointer (some ⟨b,0,none⟩)) (some (.int .i64 2)) none none).run prog w= .ok (.slice (some ⟨b,2,none⟩) 6 6) w:=by show Sem.run _ _ _=_;kernel_rfl
theorem Gd (n:bS)(v:Value)(hB:n.B.length=13)(ht:zD n)(vo:Value)(own:List Nat)(h6:(fu n.B).length<=6):
  Calls prog 213 #[aL n v,vo] w (pA w (mY n own) (kf n)):=by
 have ae:mY n own=oX n::n.S::(fu n.B++List.replicate (6-(fu n.B).length) 0):=aB h6;have ai:kf n=[]:=aB h6;rw[ae,ai];obtain⟨HH,xo⟩:=hh2 (ET n v hB ht) (λwx=>KS n.B hB wx);obtain⟨W,z⟩:∃W,W=(w.alloc (.cells (aL n v) 75)).alloc (.cells (aX (List.replicate 8 0)).toArray 132):=⟨_,rfl⟩;have V:bc W w.heap.size (aL n v) 75 :=by
  rw[z];exact(bc.new w _ _).alloc _
 have JK:Hid (bc W (w.heap.size+1) (aX (List.replicate 8 0)).toArray 132):=by
  have :=bc.new (w.alloc (.cells (aL n v) 75)) (aX (List.replicate 8 0)).toArray 132;have e:(w.alloc (.cells (aL n v) 75)).heap.size=w.heap.size+1:=by simp
  rw[e,<-z] at this;exact this
 have fG:Hid (ay [] w W):=by
  rw[z];exact((ay.refl [] w).alloc _).alloc _
 have uP:=ar (bZ V hB);have rW:Hid (∀wx,ay [] W wx->(loadVar 73 ⟨w.heap.size,4,none⟩).run prog wx= .ok (.agg (zs n.B).toArray) wx):=λwx hk=>fy (off:=4) (V.keep hk) hB λk hk=>Cr _ (by omega)
 have aA:=kV;have aC:(fu n.B).length<=13:=mj n.B 13;have rf:=ar z;have MZ:Hid (uQ n=oX n::n.S::List.replicate 6 0):=rfl;have X6:=Cu n;generalize oX n=t,n.S=s,uQ n=H,fu n.B=R,(zs n.B).toArray=ZB,aL n v=Z at *;clear V z ae ai ht hB;generalize vW:(aX (List.replicate 8 0)).toArray=Z8 at *;have xz:=ar vW;clear vW;go_in;go_wp2_with((with_reducible show wpList _ _ _ (⟨_,.load 75 (.tmp 2),_,_,_,_⟩::_) _ _);rw[<-rf.out];refine gH rfl 75 (.tmp 2) rfl _ rfl _ uP.out ?_);refine Rr (HH.out _) λw1 G=> ?_;obtain⟨w2,af,tX,ag⟩:=bE (P:= prog) (ty:= 132) (cs:=aX H) (by rw[bA,X6];exact iZ) (bc.new w1 Z8 132) (by rw[<-xz.out];simp[bA,X6]) (fk _);have uB:ay [] W w2:=(G.alloc (.cells Z8 132)).trans ag (by intro x hx;rw[au] at hx;have :=G.size;omega);have az:w.heap.size+1<w1.heap.size:=bQ JK.out.lt G.size;obtain⟨ak,SB,fC,av⟩:=hh4 af tX uB (rW.out w2 uB);clear af tX ag uB G HH;generalize ax:w1.heap.size=g6 at *;go_wp2_with(with_reducible first|refine gS 132 ak.out ?_|refine gL 73 av.out ?_);refine(xo.out _).mono ?_;rintro e w3 ⟨va,ga,rfl,JI,xe,J⟩;obtain⟨vc,w4,zH,Ge,ac⟩:=qh (o:=2) (n:=6) (cap:=6) (SB.out.keep J) JI h6 (by rw[X6];omega);obtain⟨aa,ca,rfl,-,-,-⟩:=il JI;have U:H.take 2++R++H.drop (2+R.length)=t::s::(R++List.replicate (6-R.length) 0):=by
  rw[MZ.out,show 2+R.length=R.length+1+1 by omega,List.drop_succ_cons,List.drop_succ_cons,jy];rfl
 rw[U] at Ge;have h:(t::s::(R++List.replicate (6-R.length) 0)).length=8:=by simp;omega
 have Ig:=ar (fN Ge h);have qB:Hid (ay [] w w4):=((fG.out.trans' fC.out).trans' J).trans ac (by intro x hx;rw[au] at hx;omega);have ah:bc w4 (w.heap.size+1) Z8 132 :=(((JK.out.keep fC.out).keep J).keep ac (by rw[au];omega));obtain⟨w5,hS,rQ,kr⟩:=bE (P:= prog) (ty:= 132) (cs:=aX (t::s::(R++List.replicate (6-R.length) 0))) (by rw[bA,h];exact iZ) ah (by rw[<-xz.out];simp[bA,h]) (fk _);obtain⟨HS,JL⟩:=hh2 hS (fN rQ h);have pU:Hid (ay [] w w5):=qB.out.trans kr (by intro x hx;rw[au] at hx;omega);have aj:=ar zH;have aF:=sS g6;have aD:(R.length:Int)<=6:=by omega
 clear JI xe J zH Ge ac U h ah hS rQ kr X6;go_wp2_with(first|((with_reducible show wpList _ _ _ (⟨some 20,_,_,_,_,_⟩::_) _ _);refine jm rfl (.tmp 18) (.tmp 19) 65 65 rfl _ _ rfl rfl (aj.out _) ?_)|(with_reducible refine gL 132 Ig.out ?_)|(with_reducible refine gS 132 HS.out ?_));exact aH (eI results213 rfl JL.out rfl) rfl ⟨_,w.heap.size,rfl,pz.nil _ _,aI _,pU.out⟩
theorem sU{xs:List Nat}(h:Reads w v g (dJ xs)):∃a cap,v= .slice a xs.length cap/\xs.length<=cap/\cap<=maxLen/\
  Hid (∀k,k<xs.length->g<w.heap.size/\∃off,a=some ⟨g,off,none⟩/\w.cell? ⟨g,off+k,none⟩=some (.int .i64 ((xs.getD k 0:Nat):Int))):=by
 obtain⟨a,cap,U,G,h2,W⟩:=h;rw[fo] at *;refine⟨a,cap,U,G,h2,λk z=> ?_⟩;obtain⟨hg,off,V,J⟩:=W (by intro e;have :=cP List.length e;rw[fo,cD] at this;omega);exact⟨hg,off,V,(J k z).trans (nr z)⟩
theorem Reads.part{off L cap:Nat}{R:List Int}(h:Reads w (.slice (some ⟨g,off,none⟩) L cap) g (aX R)){o n:Nat}(hn:o+n<=R.length):Reads w (.slice (some ⟨g,off+o,none⟩) n (cap-o)) g (aX ((R.drop o).take n)):=by
 obtain⟨a,c,hv,V,h2,h3⟩:=h;cases hv;rw[bA] at V;have z:(aX ((R.drop o).take n)).length=n:=by rw[bA,aJ,bV];omega
 refine⟨_,cap-o,by rw[z],by rw[z];omega,by omega,λW=> ?_⟩;have aa:0<n:=by
  rcases eo n with G|G
  ·subst G;exact absurd (bg z) W
  ·exact G
 obtain⟨hg,J,ho,hc⟩:=h3 (by intro e;have :=cP List.length e;rw[bA,cD] at this;omega);cases ho;refine⟨hg,_,rfl,λj U=> ?_⟩;rw[z] at U;have :=hc (o+j) (by rw[bA];omega);rw[Nat.add_assoc,this,dM (by omega),dM (by rw[aJ,bV];omega)];simp[U]
theorem K6 (n:bS)(v:Value)(hB:n.B.length=13)(ht:zD n)(vo:Value)(go:Nat)(own:List Nat)(ho:Reads w vo go (dJ own))(bz:own.getD 0 0<256)(h1:1<=own.length)(h6:6<(fu n.B).length):
  Calls prog 213 #[aL n v,vo] w (pA w (mY n own) (kf n)):=by
 have aV:mY n own=oX n::n.S::((fu n.B).take 5++[9223372036854775808+((own.getD 0 0:Nat):Int)]):=aA;have bh:kf n=[(fu n.B).drop 5++List.replicate (13-(fu n.B).length) 0]:=aA;rw[aV,bh];obtain⟨ao,co,rfl,Ng,bX,SC⟩:=sU ho;obtain⟨bG,Qq,rfl,ak⟩:=SC.out 0 (by omega);have cm:0<(own.length:Int):=by omega
 obtain⟨x0,bg⟩:∃x0,x0=own.getD 0 0:=⟨_,rfl⟩;rw[<-bg] at bz ak ⊢;rw[dE] at ak;have K7:=ar ak;clear ak bg SC ho;obtain⟨HH,xo⟩:=hh2 (ET n v hB ht) (λG=>KS n.B hB G);obtain⟨W0,ac⟩:∃W0,W0=(w.alloc (.cells (aL n v) 75)).alloc (.cells (aX (List.replicate 8 0)).toArray 132):=⟨_,rfl⟩;have aI:bc W0 w.heap.size (aL n v) 75 :=by
  rw[ac];exact(bc.new w _ _).alloc _
 have JK:Hid (bc W0 (w.heap.size+1) (aX (List.replicate 8 0)).toArray 132):=by
  have :=bc.new (w.alloc (.cells (aL n v) 75)) (aX (List.replicate 8 0)).toArray 132;have e:(w.alloc (.cells (aL n v) 75)).heap.size=w.heap.size+1:=by simp
  rw[e,<-ac] at this;exact this
 have fG:Hid (ay [] w W0):=by
  rw[ac];exact((ay.refl [] w).alloc _).alloc _
 have uP:=ar (bZ aI hB);have rW:Hid (∀G,ay [] W0 G->(loadVar 73 ⟨w.heap.size,4,none⟩).run prog G= .ok (.agg (zs n.B).toArray) G):=λG hk=>fy (off:=4) (aI.keep hk) hB λk hk=>Cr _ (by omega)
 have cd:=kV;have bT:(fu n.B).length<=13:=mj n.B 13;have rf:=ar ac;have MZ:Hid (uQ n=oX n::n.S::List.replicate 6 0):=rfl;have X6:=Cu n;generalize oX n=t,n.S=s,uQ n=H,fu n.B=R,(zs n.B).toArray=ZB,aL n v=Z at *;clear aI ac aV bh ht hB;generalize vW:(aX (List.replicate 8 0)).toArray=Z8 at *;have xz:=ar vW;clear vW;go_in;go_wp2_with((with_reducible show wpList _ _ _ (⟨_,.load 75 (.tmp 2),_,_,_,_⟩::_) _ _);rw[<-rf.out];refine gH rfl 75 (.tmp 2) rfl _ rfl _ uP.out ?_);refine Rr (HH.out _) λw1 aj=> ?_;obtain⟨w2,aT,tX,bq⟩:=bE (P:= prog) (ty:= 132) (cs:=aX H) (by rw[bA,X6];exact iZ) (bc.new w1 Z8 132) (by rw[<-xz.out];simp[bA,X6]) (fk _);have uB:ay [] W0 w2:=(aj.alloc (.cells Z8 132)).trans bq (by intro x hx;rw[au] at hx;have :=aj.size;omega);have bY:w.heap.size+1<w1.heap.size:=bQ JK.out.lt aj.size;obtain⟨bH,SB,fC,bu⟩:=hh4 aT tX uB (rW.out w2 uB);clear aT tX bq uB aj HH;generalize bL:w1.heap.size=U at *;go_wp2_with(with_reducible first|refine gS 132 bH.out ?_|refine gL 73 bu.out ?_);refine(xo.out _).mono ?_;rintro e w3 ⟨va,ga,rfl,JI,xe,av⟩;obtain⟨aa,ca,rfl,b6,cj,bF⟩:=il JI;obtain⟨-,bj,rfl,-⟩:=bF.out 0 (by omega);have aQ:=JI.part (o:=0) (n:=5) (by omega);rw[dE,Nat.sub_zero,List.drop_zero] at aQ;have Ub:(R.take 5).length=5:=by rw[aJ];omega
 obtain⟨vc,w4,zH,Ge,ax⟩:=qh (w:=w3.drew) (o:=2) (n:=6) (cap:=6) (SB.out.keep av).drew (show Reads w3.drew _ ga (aX (R.take 5)) from aQ) (by omega) (by rw[X6];omega);have M9:=zH 3;have bI:=sS U;have bW:¬(R.length:Int)<=6:=by omega
 have ck:(5:Int)<=(ca:Int):=by omega
 have cn:5<=ca:=by omega
 go_wp2_with fail;go_region_with (fail)
 have qB:Hid (ay [] w w4):=(((fG.out.trans' fC.out).trans' av).drew).trans ax (by intro x hx;rw[au] at hx;omega);have az:H.take 2++R.take 5++H.drop (2+(R.take 5).length)=t::s::(R.take 5++[0]):=by
  rw[MZ.out,Ub];rfl
 rw[az] at Ge;have bt:(t::s::(R.take 5++[(0:Int)])).length=8:=by simp[Ub]
 have br:Hid (bc w4 (w.heap.size+1) Z8 132):=((JK.out.keep fC.out).keep av).drew.keep ax (by rw[au];omega);have bU:U<w2.heap.size:=SB.out.lt;have bM:U<ga:=by omega
 have aS:Hid (Reads w4 (.slice (some ⟨ga,bj,none⟩) R.length ca) ga (aX R)):=(show Reads w3.drew _ ga (aX R) from JI).keep ax (by rw[au];omega);have bB:=(aO (w:=w) (w':=w4) (a:=⟨go,Qq,none⟩) (qB.out.block go bG (by simp))).trans K7.out;have c7:w4.cell? ⟨U,7,none⟩=some (.int .u64 ((t::s::(R.take 5++[(0:Int)])).getD 7 0)):=by
  rw[Ge.cell,aG,dM (by omega)]
 have f7:w4.frozen? ⟨U,7,none⟩=false:=Ge.frozen 7;have bn:bits .or .u64 9223372036854775808 (x0:Int)=((9223372036854775808+x0:Nat):Int):=by
  rw[show(9223372036854775808:Int)=((9223372036854775808:Nat):Int) from rfl,u64_or_nat _ _ (by omega) (by omega),nat_join 63 _ _ (by decide) (by omega)]
 obtain⟨X,hX⟩:∃X:Int,X=((9223372036854775808+x0:Nat):Int):=⟨_,rfl⟩;rw[<-hX] at bn;have aF:(9223372036854775808:Int)+((x0:Nat):Int)=X:=by omega
 rw[aF];have bv:=nu (x:=(x0:Int)) (by omega) (by omega);have aD:bc (w4.setCell ⟨U,7,none⟩ (.int .u64 X)) U (aX (t::s::(R.take 5++[X]))).toArray 132 :=by
  have :=Ge.set 7 (.int .u64 X);rw[ag,mz] at this;have e:(t::s::(R.take 5++[(0:Int)])).set 7 X=t::s::(R.take 5++[X]):=by
   rw[ai,ai,dU _ _ (by omega),Ub];rfl
  rw[e] at this;exact this
 have bw:=ar aD;have Nh:Hid ((t::s::(R.take 5++[X])).length=8):=by show _=_;simp[Ub]
 obtain⟨W5,ae⟩:∃W5,W5=(w4.setCell ⟨U,7,none⟩ (.int .u64 X)).alloc (.cells Z8 132):=⟨_,rfl⟩;have bK:=ar ae;have bD:(w4.setCell ⟨U,7,none⟩ (.int .u64 X)).heap.size=w4.heap.size:=by simp[World.setCell]
 have X7:Hid (bc W5 w4.heap.size (aX (List.replicate 8 0)).toArray 132):=by
  have :=bc.new (w4.setCell ⟨U,7,none⟩ (.int .u64 X)) Z8 132;rw[bD,<-ae,<-xz.out] at this;exact this
 have aB:Hid (ay [U] w4 W5):=by
  rw[ae];exact((ay.refl [U] w4).setCell (.inl (by simp)) _).alloc _
 have bb:Hid (bc W5 U (aX (t::s::(R.take 5++[X]))).toArray 132):=by
  rw[ae];exact aD.alloc _
 have cf:U<w4.heap.size:=Ge.lt;generalize (t::s::(R.take 5++[(0:Int)])).getD 7 0=y7 at *;clear Ge aD ax zH M9 aQ az bt av JI xe ae hX;go_wp2_with fail;rw[<-bK.out];have ba:Hid (Reads W5 (.slice (some ⟨ga,bj,none⟩) R.length ca) ga (aX R)):=aS.out.keep aB.out (by rw[au];omega);have aN:=ba.out.part (o:=5) (n:=R.length-5) (by omega);rw[aW (by rw[bV];omega)] at aN;have aU:(R.drop 5).length=R.length-5:=bV;obtain⟨cg,W,X3,EB,jE⟩:=qh (w:=W5.drew) (o:=0) (n:=8) (cap:=8) (bc.drew X7.out) (show Reads W5.drew _ ga (aX (R.drop 5)) from aN) (by omega) (by rw[bJ];omega);have bC:=X3 3;have aZ:(List.replicate 8 (0:Int)).take 0++R.drop 5++(List.replicate 8 (0:Int)).drop (0+(R.drop 5).length)=R.drop 5++List.replicate (13-R.length) 0:=by
  rw[aU,eW,bN,bp,jy,show 8-(R.length-5)=13-R.length by omega]
 rw[aZ] at EB;have bO:=wh w4.heap.size;have cr:(5:Int)<=(R.length:Int):=by omega
 have b7:¬ca=5:=by omega
 have cp:5<=R.length:=by omega
 clear bn bv c7 f7 bB bI;go_region_with (fail)
 have af:(R.drop 5++List.replicate (13-R.length) 0).length=8:=by rw[aC,aU,bJ];omega
 have bR:w4.heap.size<W.heap.size:=EB.lt;have Ig:Hid (∀G,ay [w.heap.size+1] W G->(loadVar 132 U).run prog G= .ok (.agg (aX (t::s::(R.take 5++[X]))).toArray) G):=λG hk=>fN (((bc.drew bb.out).keep jE (by rw[au];omega)).keep hk (by rw[au];omega)) Nh.out
 have aR:Hid (∀G,ay [w.heap.size+1] W G->(loadVar 132 w4.heap.size).run prog G= .ok (.agg (aX (R.drop 5++List.replicate (13-R.length) 0)).toArray) G):=λG hk=>fN (EB.keep hk (by rw[au];omega)) af
 have bl:bc W (w.heap.size+1) Z8 132 :=(bc.drew (br.out.keep aB.out (by rw[au];omega))).keep jE (by rw[au];omega);have ah:Hid (∀G,ay [] W G->∃J,(storeVar 132 (w.heap.size+1:Nat) (.agg (aX (t::s::(R.take 5++[X]))).toArray)).run prog G= .ok () J/\bc J (w.heap.size+1) (aX (t::s::(R.take 5++[X]))).toArray 132/\ay [w.heap.size+1] G J):=λG hk=>
  bE (P:= prog) (ty:= 132) (cs:=aX (t::s::(R.take 5++[X]))) (by rw[bA,Nh.out];exact iZ) (bl.keep hk) (by rw[<-xz.out,bP,bA,bA,Nh.out,bJ]) (fk _)
 have rX:Hid (ay [] w W):=((qB.out.trans aB.out (by intro x hx;rw[au] at hx;omega)).drew).trans jE (by intro x hx;rw[au] at hx;omega);clear EB jE X3 bC aN aZ bl ba aS X7 bb bw br;generalize bo:aX (t::s::(R.take 5++[X]))=ZO,aM:aX (R.drop 5++List.replicate (13-R.length) 0)=aK at *;have bk:aK.length=8:=by rw[<-aM,bA,af]
 obtain⟨a0,a1,a2,a3,a4,a5,a6,a7,rfl⟩:∃a0 a1 a2 a3 a4 a5 a6 a7,aK=[a0,a1,a2,a3,a4,a5,a6,a7]:=by
  match aK,bk with
  | [a,b,c,d,e,f,g,h],_=>exact⟨a,b,c,d,e,f,g,h,rfl⟩
 obtain⟨aY,Qr,bf⟩:=hh3 aM bo af;clear aM bo bk af;go_wp2_with fail;refine wp_region_any (by kernel_rfl) ?_
 (try (change wpAny _ _ _ _ _ _ _ (World.drew _)))
 refine iF (rs:=[0,1]) (by kernel_rfl) (by simp) ?_;refine eG rfl (λK z=> ?_) ?_
 rotate_left
 refine eG rfl (λK z=> ?_) ia;refine mI rfl 132 (.tmp 9) rfl _ rfl _ (aR.out _ (by first|exact(ay.refl _ _).drew|exact((ay.refl _ _).drew).alloc _|exact((ay.refl _ _).drew).trans' V.out)) ?_;refine z _ _ ?_;clear z K;refine iF (rs:=[0,2]) (by kernel_rfl) (by simp) ?_;refine eG rfl (λK z=> ?_) ?_;refine mI rfl 132 (.tmp 6) rfl _ rfl _ (Ig.out _ (by first|exact(ay.refl _ _).drew|exact((ay.refl _ _).drew).alloc _|exact((ay.refl _ _).drew).trans' V.out)) ?_;refine z _ _ ?_;clear z K
 rotate_left
 refine eG rfl (λK z=> ?_) ia
 go_simp
 refine z _ _ ?_;clear z K;refine iF (rs:=[0]) (by kernel_rfl) (by simp) ?_;refine eG rfl (λK z=> ?_) ia;refine mI rfl 132 (.tmp 6) rfl _ rfl _ (Ig.out _ (by first|exact(ay.refl _ _).drew|exact((ay.refl _ _).drew).alloc _|exact((ay.refl _ _).drew).trans' V.out)) ?_;refine z _ _ ?_;clear z K
 rotate_left
 refine mI rfl 132 (.tmp 6) rfl _ rfl _ (Ig.out _ (by first|exact(ay.refl _ _).drew|exact((ay.refl _ _).drew).alloc _|exact((ay.refl _ _).drew).trans' V.out)) ?_;refine z _ _ ?_;clear z K;refine iF (rs:=[1,3]) (by kernel_rfl) (by simp) ?_;refine eG rfl (λK z=> ?_) ?_;refine mI rfl 132 (.tmp 9) rfl _ rfl _ (aR.out _ (by first|exact(ay.refl _ _).drew|exact((ay.refl _ _).drew).alloc _|exact((ay.refl _ _).drew).trans' V.out)) ?_;refine z _ _ ?_;clear z K
 rotate_left
 refine eG rfl (λK z=> ?_) ia;obtain⟨J,hS,rZ,SD⟩:=ah.out _ ((ay.refl _ _).drew);obtain⟨HS,Qs,V⟩:=hh3 hS rZ SD;clear hS rZ SD;refine pB rfl 132 (.tmp 4) (.tmp 38) rfl _ rfl _ rfl _ HS.out ?_;refine z _ _ ?_;clear z K;refine iF (rs:=[1]) (by kernel_rfl) (by simp) ?_;refine eG rfl (λK z=> ?_) ia;refine mI rfl 132 (.tmp 9) rfl _ rfl _ (aR.out _ (by first|exact(ay.refl _ _).drew|exact((ay.refl _ _).drew).alloc _|exact((ay.refl _ _).drew).trans' V.out)) ?_;refine z _ _ ?_;clear z K
 rotate_left
 refine iF (rs:=[2,3]) (by kernel_rfl) (by simp) ?_;refine eG rfl (λK z=> ?_) ?_
 go_simp
 refine z _ _ ?_;clear z K
 rotate_left
 refine eG rfl (λK z=> ?_) ia;obtain⟨J,hS,rZ,SD⟩:=ah.out _ ((ay.refl _ _).drew);obtain⟨HS,Qs,V⟩:=hh3 hS rZ SD;clear hS rZ SD;refine pB rfl 132 (.tmp 4) (.tmp 38) rfl _ rfl _ rfl _ HS.out ?_;refine z _ _ ?_;clear z K
 rotate_left
 rotate_left
 refine iF (rs:=[2,3]) (by kernel_rfl) (by simp) ?_;refine eG rfl (λK z=> ?_) ?_
 go_simp
 refine z _ _ ?_;clear z K
 rotate_left
 refine eG rfl (λK z=> ?_) ia;obtain⟨J,hS,rZ,SD⟩:=ah.out _ ((ay.refl _ _).drew);obtain⟨HS,Qs,V⟩:=hh3 hS rZ SD;clear hS rZ SD;refine pB rfl 132 (.tmp 4) (.tmp 38) rfl _ rfl _ rfl _ HS.out ?_;refine z _ _ ?_;clear z K;all_goals
  first
   |(have h0:=J
     clear h0;refine iF (rs:=[2]) (by kernel_rfl) (by simp) ?_;refine eG rfl (λK z=> ?_) ia
     go_simp
     refine z _ _ ?_;clear z K;refine iF (rs:=[4]) (by kernel_rfl) (by simp) ?_;refine eG rfl (λK z=> ?_) ia
     go_simp
     refine z _ _ ?_;clear z K;refine wpAny_done (by kernel_rfl) ?_ _;go_wp2_with fail;have zC:bc (J.alloc (.cells #[a0,a1,a2,a3,a4,a5,a6,a7] 132)) J.heap.size #[a0,a1,a2,a3,a4,a5,a6,a7] 132 :=bc.new J #[a0,a1,a2,a3,a4,a5,a6,a7] 132;have b9:W.heap.size<=J.heap.size:=V.out.size;have aP:ay [] w (J.alloc (.cells #[a0,a1,a2,a3,a4,a5,a6,a7] 132)):=((rX.out.drew).trans V.out (by intro x hx;rw[au] at hx;omega)).alloc _;exact aH (eI results213 rfl (by have :=Qs.out;rw[<-Qr.out] at this;exact fN (this.alloc _) Nh.out) rfl) rfl ⟨.slice J.heap.size 1 1,J.heap.size,(by rw[aF,Qr.out];rfl),Gc zC bf.out aY.out,by omega,aP⟩)
   |(refine iF (rs:=[3]) (by kernel_rfl) (by simp) ?_
     refine eG rfl (λK z=> ?_) ia;obtain⟨J,hS,rZ,SD⟩:=ah.out _ (((ay.refl _ _).drew).alloc _);obtain⟨HS,Qs,V⟩:=hh3 hS rZ SD;clear hS rZ SD;refine pB rfl 132 (.tmp 4) (.tmp 38) rfl _ rfl _ rfl _ HS.out ?_;refine z _ _ ?_;clear z K;refine iF (rs:=[4]) (by kernel_rfl) (by simp) ?_;refine eG rfl (λK z=> ?_) ia
     go_simp
     refine z _ _ ?_;clear z K;refine wpAny_done (by kernel_rfl) ?_ _;go_wp2_with fail;have zC:bc J W.heap.size #[a0,a1,a2,a3,a4,a5,a6,a7] 132 :=bc.keep (bc.new W.drew #[a0,a1,a2,a3,a4,a5,a6,a7] 132) V.out (by rw[au];show ¬W.heap.size=_;omega);have aP:ay [] w J:=((rX.out.drew).alloc _).trans V.out (by intro x hx;rw[au] at hx;omega);exact aH (eI results213 rfl (by have :=Qs.out;rw[<-Qr.out] at this;exact fN this Nh.out) rfl) rfl ⟨.slice W.heap.size 1 1,W.heap.size,(by rw[aF,Qr.out];rfl),Gc zC bf.out aY.out,by omega,aP⟩)
def dN (E:List (ByteArray×Int)) (b:Nat):Nat:=((eD E b).length+2)/3
def fO (E:List (ByteArray×Int)):Nat->Nat
 |0=>0
 |b+1=>fO E b+dN E b
theorem uS (E:List (ByteArray×Int)){b c:Nat}(h:b<=c):fO E b<=fO E c:=by
 induction h with
 |refl=>exact aI _
 |step h ih=>exact cL ih (Nat.le_add_right _ _)
def AJ (l:List (ByteArray×Int)) (x:Nat):List (ByteArray×Int):=(l.drop (3*x)).take 3
theorem pC (l:List (ByteArray×Int))(x:Nat):(AJ l x).length=min 3 (l.length-3*x):=by simp[AJ]
def Bf (ws:List Int) (x:Int):List Int:=x::(ws++List.replicate (7-ws.length) 0)
theorem X8 (h:ws.length<=7)(x:Int):(Bf ws x).length=8:=by simp[Bf];omega
theorem oK (ws:List Int)(x:Int)(i:Nat):(Bf ws x).getD (i+1) 0=ws.getD i 0:=by
 show(ws++List.replicate (7-ws.length) 0).getD i 0=_;rw[aj,aj];by_cases h:i<ws.length
 ·rw[bh h]
 ·rw[aT (by omega),bB,aZ (by omega:ws.length<=i)]
  split<;>rfl
def Ya (E:List (ByteArray×Int)) (own:List Nat) (b j:Nat):List Int:=
 Bf (eU (AJ (eD E b) j)) (if j+1<dN E b then ((own.getD (fO E b+(j+1)) 0:Nat):Int) else 0)
def xQ (E:List (ByteArray×Int)) (own:List Nat):Nat->List (List Int)
 |0=>[]
 |b+1=>xQ E own b++(List.range (dN E b)).map (Ya E own b)
theorem oL (E:List (ByteArray×Int))(own:List Nat):∀b,(xQ E own b).length=fO E b
 |0=>rfl
 |b+1=>by rw[xQ,fO,aC,oL E own b,b7,fK]
theorem se (E:List (ByteArray×Int))(own:List Nat){z j:Nat}(J:j<dN E z):∀{b:Nat},z<b->(xQ E own b).getD (fO E z+j) []=Ya E own z j
 |0,h=>by omega
 |b+1,h=>by
  rw[xQ,aj];by_cases e:z=b
  ·subst e
   rw[aT (by rw[oL];omega),oL,dS];simp[J]
  ·have G:z<b:=by omega
   have U:fO E z+j<fO E b:=by
    have :=uS E (show z+1<=b from G);rw[fO] at this;omega
   rw[bh (by rw[oL];exact U),<-aj];exact se E own J G
theorem uT (E:List (ByteArray×Int)){k:Nat}:∀{b:Nat},k<fO E b->∃z j,z<b/\j<dN E z/\k=fO E z+j
 |0,h=>by rw[fO] at h;omega
 |b+1,h=>by
  by_cases G:k<fO E b
  ·obtain⟨z,j,V,U,J⟩:=uT E G
   exact⟨z,j,by omega,U,J⟩
  ·rw[fO] at h
   exact⟨b,k-fO E b,by omega,by omega,by omega⟩
def hdD (E:List (ByteArray×Int)) (own:List Nat) (b:Nat):Int:=if 0<dN E b then ((own.getD (fO E b) 0:Nat):Int) else 0
def Ae (E:List (ByteArray×Int)) (own:List Nat) (b p q:Nat):Int:=
 if q<b then hdD E own q else if q=b/\0<p then ((own.getD (fO E q) 0:Nat):Int) else 0
def rC (n:bS) (own:List Nat) (b p:Nat):List Int:=
 [oX n,n.S,Ae n.E own b p 0,Ae n.E own b p 1,Ae n.E own b p 2,Ae n.E own b p 3,0,0]
def Gf (n:bS) (own:List Nat):List Int:=rC n own 4 0
theorem xR (n:bS)(own:List Nat)(b p:Nat):(rC n own b p).length=8:=rfl
theorem Uq (n:bS)(own:List Nat):rC n own 0 0=oX n::n.S::List.replicate 6 0:=by
 unfold rC Ae;simp[List.replicate]
theorem yO (E:List (ByteArray×Int))(own:List Nat)(b q:Nat):Ae E own b (dN E b) q=Ae E own (b+1) 0 q:=by
 unfold Ae;by_cases G:q<b
 ·rw[aB G,aB]
 ·rw[aA G]
  by_cases J:q=b
  ·subst J
   rw[aB (show q<q+1 by omega),hdD];by_cases z:0<dN E q
   ·rw[aB ⟨rfl,z⟩,aB z]
   ·rw[aA (λh=>z h.2),aA z]
  ·rw[aA (λh=>J h.1),aA,aA]
theorem Ur (n:bS)(own:List Nat)(b:Nat):rC n own b (dN n.E b)=rC n own (b+1) 0:=by
 unfold rC;rw[yO,yO,yO,yO]
theorem Us (n:bS)(own:List Nat)(b p:Nat)(h:p≠0):rC n own b p=rC n own b (p+1):=by
 have :∀q,Ae n.E own b p q=Ae n.E own b (p+1) q:=λq=>by
  unfold Ae;have z:(q=b/\0<p)↔(q=b/\0<p+1):=by omega
  simp only[z]
 unfold rC;rw[this,this,this,this]
theorem Yb (n:bS)(own:List Nat)(b:Nat)(h:b<4):(rC n own b 0).set (2+b) ((own.getD (fO n.E b) 0:Nat):Int)=rC n own b 1:=by
 rcases (show b=0\/b=1\/b=2\/b=3 by omega) with rfl|rfl|rfl|rfl<;>simp[rC,Ae]
structure CB (E:List (ByteArray×Int)) (own:List Nat) (b:Nat) (pre:List Nat) (C:List Int):Prop where
 len:C.length=8*own.length
 done:∀b',b'<b->∀j,j<dN E b'->∀i,i<8->C.getD (8*(fO E b'+j)+i) 0=(Ya E own b' j).getD i 0
 part:∀j,j<pre.length->∀i,i<8->C.getD (8*(fO E b+j)+i) 0=(Bf (eU (AJ (eD E b) (pre.getD j 0))) (if j+1<pre.length then ((own.getD (fO E b+(j+1)) 0:Nat):Int) else 0)).getD i 0
 rest:∀i,8*(fO E b+pre.length)<=i->C.getD i 0=0
theorem CB.start(E:List (ByteArray×Int))(own:List Nat):CB E own 0 [] (List.replicate (8*own.length) 0):=
 ⟨by simp,λz h=>by omega,λj h=>by simp at h,λi _=>by
  rw[aj,bB];split<;>rfl⟩
theorem CB.next(h:CB E own b (List.range (dN E b)) C):CB E own (b+1) [] C:=by
 have U:(List.range (dN E b)).length=dN E b:=fK;refine⟨h.len,λJ V j z i G=> ?_,λj z=>by simp at z,λi G=> ?_⟩
 ·by_cases e:J=b
  ·subst e
   have :=h.part j (by rw[U];exact z) i G;rw[U,show(List.range (dN E J)).getD j 0=j by simp[z]] at this;exact this
  ·exact h.done J (by omega) j z i G
 ·refine h.rest i ?_
  rw[U];simpa[fO] using G
def Gg (C:List Int) (a:Nat) (ws:List Int):List Int:=C.take a++ws++C.drop (a+ws.length)
theorem Ut (h:a+ws.length<=C.length):(Gg C a ws).length=C.length:=by simp[Gg];omega
theorem uU (h:a+ws.length<=C.length)(i:Nat):(Gg C a ws).getD i 0=if a<=i/\i<a+ws.length then ws.getD (i-a) 0 else C.getD i 0:=by
 have z:(C.take a).length=a:=by rw[aJ];omega
 unfold Gg;simp only[aj];by_cases G:i<a
 ·rw[aA,aV,bh (by rw[z];exact G),kJ G]
 ·by_cases J:i<a+ws.length
  ·rw[aB ⟨by omega,J⟩,bh (by rw[aC,z];exact J),aT (by rw[z];omega),z]
  ·rw[aA,aT (by rw[aC,z];omega),aC,z,cj,show a+ws.length+(i-(a+ws.length))=i by omega]
theorem Yc (C:List Int)(k:Nat)(x:Int)(z:k<C.length)(i:Nat):(C.set k x).getD i 0=if i=k then x else C.getD i 0:=by
 simp only[aj,gT];by_cases h:k=i
 ·subst h;simp[z]
 ·rw[aA h,aA (λe=>h e.symm)]
theorem CB.step{z:List Nat}{C1:List Int}(h:CB E own b z C)(x f:Nat)(hf:f=fO E b+z.length)(ae:f<own.length)
  (h1:C1=if z.length=0 then C else C.set (8*(f-1)) ((own.getD f 0:Nat):Int)):CB E own b (z++[x]) (Gg C1 (8*f+1) (eU (AJ (eD E b) x))):=by
 have hw:(eU (AJ (eD E b) x)).length<=6:=by rw[kT,pC];omega
 have Cj:C1.length=8*own.length:=by rw[h1];split<;>simp[h.len]
 have J:∀i,C1.getD i 0=if z.length≠0/\i=8*(f-1) then ((own.getD f 0:Nat):Int) else C.getD i 0:=λi=>by
  rw[h1];by_cases h0:z.length=0
  ·rw[aB h0,aA (λe=>e.1 h0)]
  ·rw[aA h0,Yc _ _ _ (by rw[h.len];omega)]
   by_cases U:i=8*(f-1)
   ·rw[aB U,aB ⟨h0,U⟩]
   ·rw[aA U,aA (λe=>U e.2)]
 have G:8*f+1+(eU (AJ (eD E b) x)).length<=C1.length:=by rw[Cj];omega
 have V:(z++[x]).length=z.length+1:=by simp
 have aa:∀W,W<b->∀j,j<dN E W->fO E W+j<fO E b:=λW hb j hj=>by
  have :=uS E (show W+1<=b from hb);rw[fO] at this;omega
 refine⟨by rw[Ut G,Cj],λW hb j hj i U=> ?_,λj hj i U=> ?_,λi U=> ?_⟩
 ·have :=aa W hb j hj
  rw[uU G,aA,J,aA];exact h.done W hb j hj i U
 ·rw[V] at hj ⊢
  by_cases e:j=z.length
  ·subst e
   have hx:(z++[x]).getD z.length 0=x:=by simp
   rw[hx,aA,<-hf];cases i with
   |zero=>
    rw[uU G,aA,J,aA,h.rest _ (by omega)];rfl
   |succ i=>
    rw[oK,uU G];by_cases ac:i<(eU (AJ (eD E b) x)).length
    ·rw[aB,show 8*f+(i+1)-(8*f+1)=i by omega]
    ·rw[aA,J,aA,h.rest _ (by omega),aj,aZ (by omega)]
     rfl
  ·have Sq:j<z.length:=by omega
   have hx:(z++[x]).getD j 0=z.getD j 0:=by simp only[aj];rw[bh Sq]
   rw[hx,aB,uU G,aA,J];have h2:=h.part j Sq i U;cases i with
   |zero=>
    by_cases e2:j+1=z.length
    ·rw[aB ⟨by omega,by omega⟩,hf,<-e2]
     rfl
    ·rw[aA,h2,aB]
   |succ i=>
    rw[aA,h2,oK,oK]
 ·rw[V] at U
  rw[uU G,aA,J,aA];exact h.rest i (by omega)
theorem CB.breads(h:CB E own 4 [] C)(hm:fO E 4=own.length){W:World}{g cap T:Nat}(J:own.length<=cap)(G:cap<=maxLen)(hb:bc W g (aX C).toArray T):
  pz W (.slice g own.length cap) g (xQ E own 4):=by
 have V:(xQ E own 4).length=own.length:=by rw[oL,hm]
 refine⟨some ⟨g,0,none⟩,cap,by rw[V],by rw[V];exact J,G,λ_=>⟨hb.lt,0,rfl,λk hk j hj=> ?_⟩⟩;rw[V,<-hm] at hk;obtain⟨U,i,z,hi,rfl⟩:=uT E hk;rw[se E own hi z,<-h.done U z i hi j hj,hb.cell,aG,show 0+(fO E U+i)*8+j=8*(fO E U+i)+j by omega,dM];rw[h.len,<-hm];omega
end
section
variable{w:World}{v:Value}{a b g:Nat}{P:Program}{C ws:List Int}{E:List (ByteArray×Int)}{own:List Nat}
section
variable {P:Program} {ops:Array Oper} {Q:Exit->Act->World->Prop} {md:Region.Mode}
def nv (h:Array Bool):List Nat->Array Bool
 | []=>h
 |i::is=>nv (h.setIfInBounds i true) is
def SE (md:Region.Mode) (ops:Array Oper) (F L:Nat) (h:Array Bool):List Nat->Bool
 | []=>true
 |i::is=>Region.free md ops h i&&(Region.ready md ops h).contains i&&(i != F)&&(i != L)&&leads md ops ops.size i L&&SE md ops F L (h.setIfInBounds i true) is
end
end
section
open Go.RowKit
variable{w:World}{v:Value}{a b g:Nat}{P:Program}{C ws:List Int}{E:List (ByteArray×Int)}{own:List Nat}
section
variable {P:Program} {ops:Array Oper} {Q:Exit->Act->World->Prop} {md:Region.Mode} {S:World->Prop}
def abB (S:World->Prop) (K:Act->World->Prop) (Q:Exit->Act->World->Prop):Exit->Act->World->Prop
 | .normal,a,w=>S w/\K a w
 |e,a,w=>Q e a w
def gF (P:Program) (ops:Array Oper) (Q:Exit->Act->World->Prop) (S:World->Prop):List Oper->Act->World->Prop
 | [],a,w=>Q .normal a w
 |o::rest,a,w=>wpList P ops (abB S (gF P ops Q S rest) Q) [o] a w
def cT (P:Program) (ops:Array Oper) (S:World->Prop) (E:Act->Prop):List Oper->Act->Prop
 | [],a=>E a
 |o::rest,a=>∃v,YieldsIf P ops S o v a/\cT P ops S E rest (a.put o.dst v)
theorem Bg {i:Nat}{o:Oper}{K:Act->World->Prop}{a:Act}{w:World}(U:ops[i]? =some o)(h:wpList P ops (abB S K Q) [o] a w):wpOp P ops Q i (λa w=>S w/\K a w) a w:=by
 unfold Go.wpOp;simp only[U];unfold wpList at h;split
 ·rename_i hw
  rw[aB hw] at h;rcases h with h|⟨J,V⟩
  ·refine .inl ?_
   unfold Oper.wp at *;generalize (execOp a.eval o).run P w=r at *;cases r with
   |ok n w'=>
    cases n<;>simp only[Oper.upon] at h ⊢
    case value u=>exact h
    case skip=>exact h
    case defer d=>exact h
    case enter f args=>
     refine Calls.mono h λe G z=> ?_
     cases e with
     |returned u=>exact z
     |panicked c=>exact z
     |outgrown=>exact z
    case row row args=>exact Rows.mono h λu G z=>z
   |halt x w'=>
    cases x<;>simp only[Oper.upon] at h ⊢
    case panic u=>exact h
  ·exact .inr ⟨J,V⟩
 ·rename_i hw
  rw[aA hw] at h;exact h
def DY (md:Region.Mode) (ops:Array Oper) (h:Array Bool):List Nat->Bool
 | []=>true
 |i::is=>Region.free md ops h i&&(Region.ready md ops h).contains i&&DY md ops (h.setIfInBounds i true) is
def zJ (md:Region.Mode) (ops:Array Oper) (h:Array Bool):List Nat->Bool
 | []=>Region.ready md ops h == []
 |i::is=>(Region.ready md ops h == [i])&&zJ md ops (h.setIfInBounds i true) is
theorem DZ:∀(G:List Nat) (tl:List Oper) (z:Array Bool) (a:Act) (w:World),zJ md ops z G=true->tl=G.filterMap (λi=>ops[i]?)->tl.length=G.length->gF P ops Q S tl a w->
  wpAnyH P md ops Q S G.length z a w
 | [],tl,z,a,w,hb,hl,_,h=>by
  have :tl=[]:=by rw[hl];rfl
  subst this;exact wpAnyH_done (by simpa[zJ] using hb) h 0
 |i::is,tl,z,a,w,hb,hl,hlen,h=>by
  unfold zJ at hb;simp only[fF] at hb;have V:Region.ready md ops z=[i]:=by simpa using hb.1
  cases ho:ops[i]? with
  |none=>
   grind
  |some o=>
   rw[gV,ho] at hl;subst hl;refine wpAnyH_all V (by simp) λj J=> ?_
   rw[au] at J;subst J;exact wpOp_mono (λW w' U=>⟨U.1,DZ is _ _ W w' hb.2 rfl (by simpa using hlen) U.2⟩) (Bg ho h)
theorem Bh (J:Region.noSelect ops=true)(hQ:∀d v c a w,Q (.panic c) (Act.put a d v) w->Q (.panic c) a w)(G:List Nat)(tl:List Oper)(w:World)(V:S w)(U:tl=G.filterMap (λi=>ops[i]?))(W:tl.length=G.length):
  ∀(path:List Nat) (l:List Oper) (z:Array Bool) (a:Act),DY md ops z path=true->zJ md ops (nv z path) G=true->l=path.filterMap (λi=>ops[i]?)->l.length=path.length->
   cT P ops S (λa=>gF P ops Q S tl a w) l a->wpAnyH P md ops Q S (G.length+path.length) z a w
 | [],l,z,a,_,hb,hl,_,h=>by
  have :l=[]:=by rw[hl];rfl
  subst this;exact DZ G tl z a w hb U W h
 |i::is,l,z,a,ht,hb,hl,hlen,h=>by
  unfold DY at ht;simp only[fF] at ht;cases ho:ops[i]? with
  |none=>
   grind
  |some o=>
   rw[gV,ho] at hl;subst hl;obtain⟨v,hv,hr⟩:=h;rw[cA,<-Nat.add_assoc];exact wpAnyH_take ho J ht.1.1 ht.1.2 (hQ o.dst v) hv V (Bh J hQ G tl w V U W is _ _ _ ht.2 hb rfl (by simpa using hlen) hr)
theorem D3 {a:Act}{w:World}(path z:List Nat){l tl:List Oper}(J:Region.noSelect ops=true)(ht:DY .any ops (Array.replicate ops.size false) path=true)(hb:zJ .any ops (nv (Array.replicate ops.size false) path) z=true)
  (hl:l=path.filterMap (λi=>ops[i]?)) (U:l.length=path.length) (V:tl=z.filterMap (λi=>ops[i]?)) (Uu:tl.length=z.length) (G:z.length+path.length=ops.size)
  (hQ:∀d v c a w,Q (.panic c) (Act.put a d v) w->Q (.panic c) a w) (W:S w) (h:cT P ops S (λa=>gF P ops Q S tl a w) l a):wpAny P .any ops Q ops.size (Array.replicate ops.size false) a w:=by
 rw[<-G];refine wpAny_of_held _ _ _ _ (Bh J hQ z tl w W V Uu path l _ a ?_ ?_ hl U h)
 ·rw[G];exact ht
 ·rw[G];exact hb
theorem kg {id:Nat}{a:Act}{w:World}(path z:List Nat){l tl:List Oper}(hm:P.follows .mixedOrders=true)(G:Region.noSelect ops=true)(ht:DY .any ops (Array.replicate ops.size false) path=true)(hb:zJ .any ops (nv (Array.replicate ops.size false) path) z=true)
  (hl:l=path.filterMap (λi=>ops[i]?)) (J:l.length=path.length) (V:tl=z.filterMap (λi=>ops[i]?)) (Uu:tl.length=z.length) (U:z.length+path.length=ops.size)
  (hQ:∀d v c a w,Q (.panic c) (Act.put a d v) w->Q (.panic c) a w) (W:S w.drew) (h:cT P ops S (λa=>gF P ops Q S tl a w.drew) l a):(Code.region id ops true).wp P Q a w:=
 wp_region_any hm (D3 path z G ht hb hl J V Uu U hQ W h)
def Bi (ops:Array Oper):Bool:=ops.all λo=>match o.op with | .defer _=>false|_=>true
theorem Bj (h:Bi ops=true):∀(i:Nat) (o:Oper),ops[i]? =some o->∀c,o.op≠.defer c:=λi o z c e=>by
 grind [Bi]
theorem rD:∀(l:List Oper),(List.range l.length).filterMap (λi=>l[i]?)=l
 | []=>rfl
 |o::l=>by
  rw[cA,List.range_succ_eq_map,gV];simp only[ju];rw[List.filterMap_map]
  congr 1
  exact rD l
theorem sV {f g:Nat->Option Oper}:∀{l:List Nat},(∀i,i∈l->f i=g i)->l.filterMap f=l.filterMap g
 | [],_=>rfl
 |i::l,h=>by
  rw[gV,gV,h i (by simp),sV λj z=>h j (by simp[z])]
theorem xS {l tl:List Oper}(h:ops.toList=l++tl):l=(List.range l.length).filterMap (λi=>ops[i]?)/\tl=((List.range tl.length).map (l.length+·)).filterMap (λi=>ops[i]?):=by
 have z:∀i,ops[i]? =(l++tl)[i]? :=λi=>by rw[<-h,dw]
 constructor
 ·refine(rD l).symm.trans (sV λi G=> ?_)
  grind
 ·rw[List.filterMap_map]
  refine(rD tl).symm.trans (sV λi G=> ?_)
  simp_all
theorem Gh {a:Act}{w:World}{l tl:List Oper}(G:ops.toList=l++tl)(z:Region.noSelect ops=true)(W:DY .any ops (Array.replicate ops.size false) (List.range l.length)=true)(U:zJ .any ops (nv (Array.replicate ops.size false) (List.range l.length)) ((List.range tl.length).map (l.length+·))=true)
  (V:∀d v c a w,Q (.panic c) (Act.put a d v) w->Q (.panic c) a w) (J:S w) (h:cT P ops S (λa=>gF P ops Q S tl a w) l a):wpAny P .any ops Q ops.size (Array.replicate ops.size false) a w:=
 D3 (List.range l.length) ((List.range tl.length).map (l.length+·)) z W U (xS G).1 (by simp) (xS G).2 (by simp) (by grind [dK]) V J h
theorem xU {J:Nat}{a:Act}{w:World}{l tl:List Oper}(hm:P.follows .mixedOrders=true)(U:ops.toList=l++tl)(z:Region.noSelect ops=true)(ht:DY .any ops (Array.replicate ops.size false) (List.range l.length)=true)(V:zJ .any ops (nv (Array.replicate ops.size false) (List.range l.length)) ((List.range tl.length).map (l.length+·))=true)
  (W:∀d v c a w,Q (.panic c) (Act.put a d v) w->Q (.panic c) a w) (G:S w.drew) (h:cT P ops S (λa=>gF P ops Q S tl a w.drew) l a):(Code.region J ops true).wp P Q a w:=
 wp_region_any hm (Gh U z ht V W G h)
theorem uV {n:Nat}{r:Option Nat}{J:Nat}{a:Act}{w:World}{l tl:List Oper}(hm:P.follows .mixedOrders=true)(V:ops.toList=l++tl)(z:Region.noSelect ops=true)(hq:¬LetsOut Q)(U:Bi ops=true)(ht:DY .any ops (Array.replicate ops.size false) (List.range l.length)=true)(W:zJ .any ops (nv (Array.replicate ops.size false) (List.range l.length)) ((List.range tl.length).map (l.length+·))=true)
  (hQ:∀d v c a w,Q (.panic c) (Act.put a d v) w->Q (.panic c) a w) (G:S w.drew) (h:cT P ops S (λa=>gF P ops Q S tl a w.drew) l a):(Code.region J ops true).wpIn { Fence.wide with round:=r } n P Q a w:=
 xJ hm hq (Bj U) (Gh V z ht W hQ G h)
theorem cT.cons{E:Act->Prop}{o:Oper}{rest:List Oper}{a:Act}(v:Value)(h:YieldsIf P ops S o v a)(z:cT P ops S E rest (a.put o.dst v)):cT P ops S E (o::rest) a:=⟨v,h,z⟩
theorem cT.done{E:Act->Prop}{a:Act}(h:E a):cT P ops S E [] a:=h
theorem YieldsIf.val{o:Oper}{v:Value}{a:Act}(z:Region.wanted o (yielded ops a.tmps)=true)(h:∀w,S w->(execOp a.eval o).run P w= .ok (.value v) w):YieldsIf P ops S o v a:= .inl ⟨z,h⟩
theorem YieldsIf.load{o:Oper}{v:Value}{a:Act}(G:Region.wanted o (yielded ops a.tmps)=true)(ty:TypeId)(x:Operand)(V:o.op= .load ty x)(z:Addr)(U:a.eval x= .pointer (some z))(h:∀w,S w->(loadVar ty z).run P w= .ok v w):YieldsIf P ops S o v a:=
 YieldsIf.val G λw J=>by
  grind [execOp,Instr.loadAt,Instr.sureAddr,ck,fQ,cN]
end
end
end Go.Proofs.YtimcfdnbpkiniaaGreatDoor
