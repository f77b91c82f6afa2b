/- Lemmas. -/
import Derived.Test.YtepbpdipenedhaaGreatDoorR13
set_option maxHeartbeats 4000000
set_option maxRecDepth 100000
namespace Go.Proofs.YtepbpdipenedhaaGreatDoor
open Go.Proofs.Tryz
open Go.RowKit
variable{J w w':World}{G U W b gp:Nat}{B X:List Int}{ps qs:List (Int×Int)}{i r:Int}{n:bP}{e:Ending}
theorem Ed (h:eO w b gp B ps)(i:Int):
  Calls prog 129 #[.pointer (some ⟨b,0,none⟩),.int .i64 i] w λe w'=>e= .returned (.bool (decide ((0<=i/\i<32)/\dP (aA B ps) i)))/\az [] w w':=by
 have J:=au (zI i);have U:=au (jY i);by_cases z:0<=i/\i<32
 ·rw[bq z] at J
  have HR:=au (oL h (824+8*i.toNat) (by omega));have G:gF i=((824+8*i.toNat:Nat):Int):=by rw[gF,aB (by omega)];omega
  have aa:=kC;have hq:=Iq (iD (aA B ps) (824+8*i.toNat)) (bG (n:=8) (a:=(0:Int)));have hg:=tH;have V:Hid (decide (eu (aA B ps) (824+8*i.toNat)=List.replicate 8 0)=decide ((0<=i/\i<32)/\dP (aA B ps) i)):=by
   apply decide_eq_decide.2;exact⟨λh=>⟨z,h⟩,λh=>h.2⟩
  rw[G] at U;clear h z G;generalize ((824+8*i.toNat:Nat):Int)=p at *;generalize decide (eu (aA B ps) (824+8*i.toNat)=List.replicate 8 0)=q at *;generalize (aW (eu (aA B ps) (824+8*i.toNat))).toArray=Z at *;generalize (aW (List.replicate 8 0)).toArray=Z8 at *;go_enter func129,ntmps129;go_wp2_with fail;refine(J.out _).mono ?_;rintro e w' ⟨rfl,rfl⟩;go_wp2_with fail;refine(U.out _).mono ?_;rintro e w' ⟨rfl,rfl⟩;go_wp2_with fail;refine HR.out.mono ?_;rintro e w' ⟨rfl,W⟩;have HK:=au W;clear W;go_wp2_with fail;go_ret;refine⟨?_,HK.out⟩;show Ending.returned (.bool q)=_;rw[V.out]
 ·rw[aS z] at J
  have V:Hid (decide ((0<=i/\i<32)/\dP (aA B ps) i)=false):=aS λh=>z h.1
  clear h z U;go_enter func129,ntmps129;go_wp2_with fail;refine(J.out _).mono ?_;rintro e w' ⟨rfl,rfl⟩;go_wp2_with fail;go_ret;refine⟨?_,az.refl _ _⟩;rw[V.out];rfl
theorem vD.mono(z:az [] w J)(h:vD J b G B ps i n e w'):vD w b G B ps i n e w':=by
 obtain⟨r,qs,V,U,h2,h3,h4,h5,h6⟩:=h;have hz:=z.size;refine⟨r,qs,V,U,by omega,h3,(z.mono (by simp)).trans h4 λx W=> .inl W,h5,h6⟩
theorem rP.mono(z:az [] w J)(h:rP J b G B ps i n e w'):rP w b G B ps i n e w':=by
 obtain⟨r,qs,V,U,h2,h3,h4,h5,h6⟩:=h;have hz:=z.size;refine⟨r,qs,V,U,by omega,h3,(z.mono (by simp)).trans h4 λx W=> .inl W,h5,h6⟩
def abb (w:World) (b:Nat) (i:Int) (Z:Array Value):World:=(w.alloc (.cells #[.pointer (some ⟨b,0,none⟩),.int .i64 i] 152)).alloc (.cells Z 111)
theorem FV (w:World)(b:Nat)(i:Int)(Z:Array Value):az [] w (abb w b i Z)/\bh (abb w b i Z) (w.heap.size+1) Z 111 :=by
 refine⟨((az.refl _ _).alloc _).alloc _,?_⟩;have :=bh.new (w.alloc (.cells #[.pointer (some ⟨b,0,none⟩),.int .i64 i] 152)) Z 111;rwa[show(w.alloc (.cells #[.pointer (some ⟨b,0,none⟩),.int .i64 i] 152)).heap.size=w.heap.size+1 by simp] at this
theorem TR (h:eO w b W B ps)(J:In64 (aA B ps))(hT:kg w)(Gz:W<w.heap.size)(aa:ps.length<=800000)(i:Int)(n:bP)(v:Value)(g:Nat)(hB:n.B.length=13)(hE:bC w v g n.E)
  (hN:∀k,k<n.E.length->(eU n.E k).size<=9223372036854775807) (ac:n.E.length≠0->g≠b/\g≠W):
  Calls prog 144 #[rT b i,.agg (aR n v)] w (vD w b W B ps i n):=by
 obtain⟨G,V⟩:=FV w b i (aR n v);have hz:=G.size;have HC:=au ((aaX (h.keep G (by simp) (by simp)) J (hT.keep G) (by omega) aa i n v g hB (hE.keep G (by simp)) hN ac).mono λe w'=>vD.mono G);have HL:=au (ct V hB);clear h J G V hE hT hN hz;unfold rT;generalize aR n v=Z at *;generalize U:abb w b i Z=W0 at *;have z:(w.alloc (.cells #[.pointer (some ⟨b,0,none⟩),.int .i64 i] 152)).alloc (.cells Z 111)=W0:=U;have qC:=au z;have c1:W0.cell? ⟨w.heap.size,0,none⟩=some (.pointer (some ⟨b,0,none⟩)):=by rw[<-z];simp
 have c2:W0.cell? ⟨w.heap.size,1,none⟩=some (.int .i64 i):=by rw[<-z];simp
 clear U z;go_enter func144,ntmps144;go_wp2_with((with_reducible show wpList _ _ _ (⟨_,.load 111 (.tmp 3),_,_,_,_⟩::_) _ _);rw[qC.out];refine gH rfl 111 (.tmp 3) rfl _ rfl _ HL.out ?_);refine HC.out.mono ?_;rintro e w1 hp;have HP:=au hp;obtain⟨r,qs,gG,rfl,-⟩:=hp;clear HC HL qC c1 c2;go_wp2_with fail;go_ret;exact HP.out
theorem TS (h:eO w b W B ps)(J:In64 (aA B ps))(hT:kg w)(Gz:W<w.heap.size)(aa:ps.length<=800000)(i:Int)(n:bP)(v:Value)(g:Nat)(hB:n.B.length=13)(hE:bC w v g n.E)
  (hN:∀k,k<n.E.length->(eU n.E k).size<=9223372036854775807) (ac:n.E.length≠0->g≠b/\g≠W):
  Calls prog 146 #[rT b i,.agg (aR n v)] w (rP w b W B ps i n):=by
 obtain⟨G,V⟩:=FV w b i (aR n v);have hz:=G.size;have HC:=au ((Xi (h.keep G (by simp) (by simp)) J (hT.keep G) (by omega) aa i n v g hB (hE.keep G (by simp)) hN ac).mono λe w'=>rP.mono G);have HL:=au (ct V hB);clear h J G V hE hT hN hz;unfold rT;generalize aR n v=Z at *;generalize U:abb w b i Z=W0 at *;have z:(w.alloc (.cells #[.pointer (some ⟨b,0,none⟩),.int .i64 i] 152)).alloc (.cells Z 111)=W0:=U;have qC:=au z;have c1:W0.cell? ⟨w.heap.size,0,none⟩=some (.pointer (some ⟨b,0,none⟩)):=by rw[<-z];simp
 have c2:W0.cell? ⟨w.heap.size,1,none⟩=some (.int .i64 i):=by rw[<-z];simp
 clear U z;go_enter func146,ntmps146;go_wp2_with((with_reducible show wpList _ _ _ (⟨_,.load 111 (.tmp 3),_,_,_,_⟩::_) _ _);rw[qC.out];refine gH rfl 111 (.tmp 3) rfl _ rfl _ HL.out ?_);refine HC.out.mono ?_;rintro e w1 hp;have HP:=au hp;obtain⟨r,qs,gG,rfl,-⟩:=hp;clear HC HL qC c1 c2;go_wp2_with fail;go_ret;exact HP.out
theorem MF (X:List Int)(l:List Nat)(k:Nat)(h:k<l.length):cJ X (l.take (k+1))=cJ X (l.take k)++eJ (aA X (cJ X (l.take k))) (l.getD k 0) false:=by
 rw[bJ h,ME];simp[h]
theorem Ro{J:Nat}(h:eO w b J B ps)(W:In64 (aA B ps))(_:J<w.heap.size)(V:ps.length<=900000){v:Value}{g:Nat}{l:List Nat}(hR:Reads w v g (dE l))(hl:l.length<=1000)(hg:l≠[]->g≠b/\g≠J):
  Calls prog 99 #[.pointer (some ⟨b,0,none⟩),v] w (jE w b J B (ps++cJ (aA B ps) l)):=by
 have hX:(aA B ps).length=3128:=h.raw.lx;have ae:=au hX;have az:=h.raw.lt;have HS:=au h;have tu:=au W;have yI:=au V;have HR:=au hR;have HG:=au hg;obtain⟨a,cap,rfl,q1,q2,-⟩:=hR;obtain⟨n,hn⟩:∃n,l.length=n:=⟨_,rfl⟩;have HN:=au hn;rw[fI,hn] at HR q1 ⊢;rw[hn] at hl;clear h W V hg hX hn;unfold maxLen at q2;go_enter func99,ntmps99;go_wp2_with fail;go_loopg [8] n (λgh s8 wx=>∃k:Nat,k+gh=n/\s8= .int .i64 (k:Int)/\Hid (Onto w b J B (ps++cJ (aA B ps) (l.take k)) wx))
 case atStart=>exact⟨0,by omega,rfl,by show Onto _ _ _ _ _ _;rw[eV,show cJ (aA B ps) []=[] from rfl,bu];exact Onto.refl HS.out⟩
 case round=>
  obtain⟨k,hk,rfl,HQ⟩:=hrel;cases gk with
  |zero=>
   obtain rfl:k=n:=by omega
   have ag:¬(k:Int)<(k:Int):=by omega
   clear hk;go_wp2_with fail;go_end0;have :=HQ.out;rw[aV (by rw[HN.out];omega)] at this;exact this.post
  |succ gg=>
   have ah:k<n:=by omega
   have ag:(k:Int)<(n:Int):=by omega
   have dt:(0:Int)<=(k:Int):=by omega
   have z:k<l.length:=by rw[HN.out];exact ah
   have aa:l≠[]:=by intro e;rw[e] at z;simp at z
   obtain⟨kX,p1,p2,p3⟩:=HQ.out;have Fv:=HG.out aa;have ac:=HR.out.keep p3 (by simp;omega);have U:=jF (l.take k) (aA B ps) tu.out ae.out;have aj:=vG (l.take k) (aA B ps);have ar:(l.take k).length<=1000:=by rw[aJ];omega
   have ai:=au (MF (aA B ps) l k z);obtain⟨a',ax,af,r1,r2,r3⟩:=ac;cases af;obtain⟨ay,off,rfl,r4⟩:=r3 (by intro e;have :=cB List.length e;rw[fI,b8] at this;omega);have G:=(r4 k (by rw[fI];exact z)).trans (np z);generalize l.getD k 0=c at *;have WO:Hid (Calls prog 142 #[.pointer (some ⟨b,0,none⟩),.int .i64 (c:Int),.bool false] wr (jE wr b kX B ((ps++cJ (aA B ps) (l.take k))++eJ (aA (aA B ps) (cJ (aA B ps) (l.take k))) c false))):=by
    have :=Lv p2 (by rw[bD];exact U.1) (by rw[aD];have :=yI.out;omega) (c:Int) false;rw[bD,aH] at this;exact this
   have ak:=au p1;have Ad:=au p3;clear p1 p2 p3 U aj ar r1 r2 r3 r4 Fv aa;go_wp2_with fail;refine WO.out.mono ?_;rintro e w2 ⟨rfl,ho⟩;have HO:Hid (Onto w b J B (ps++cJ (aA B ps) (l.take (k+1))) w2):=by
    show Onto _ _ _ _ _ _;rw[ai.out,<-ba];exact Onto.trans ak.out Ad.out ho
   clear ho WO G;go_wp2_with fail;go_roundg gg;case measure=>omega
   case rel=>exact⟨k+1,by omega,by go_num,HO.out⟩
def TT (X:List Int) (i:Int) (n:bP) (own:List Nat) (r:Int):Prop:=
 (r=1/\¬(0<=i/\i<32)/\n=cr/\own=[])\/(r=2/\(0<=i/\i<32)/\dP X i/\n=cr/\own=[])\/
  (r=10/\(0<=i/\i<32)/\¬dP X i/\(∀z h,¬eG X i z h)/\n=cr/\own=[])\/(r=0/\eG X i n own)
def AZ (w:World) (X:List Int) (i:Int) (e:Ending) (w':World):Prop:=
 ∃n v g own h z r,e= .returned (.tuple #[.agg (aR n v),h,.int .i64 r])/\n.B.length=13/\bC w' v g n.E/\w.heap.size<=g/\lq w' h z own/\w.heap.size<=z/\az [] w w'/\TT X i n own r
theorem abc (G:az [] (w.alloc (.cells (aR cr (.slice none 0 0)) 111)) J)(h:TT X i cr [] r):
  ∃w',(storeVar 111 ⟨w.heap.size,0,none⟩ (.agg (aR cr (.slice none 0 0)))).run prog J= .ok () w'/\(loadVar 111 ⟨w.heap.size,0,none⟩).run prog w'= .ok (.agg (aR cr (.slice none 0 0))) w'/\AZ w X i (.returned (.tuple #[.agg (aR cr (.slice none 0 0)),.slice none 0 0,.int .i64 r])) w':=by
 have z:=bh.new w (aR cr (.slice none 0 0)) 111;obtain⟨w',q1,q2,q3⟩:=bB (P:= prog) (ty:= 111) (cs:=mo cr (.slice none 0 0)) iY (z.keep G (by simp)) rfl (ku rfl);exact⟨w',q1,ct q2 rfl,cr,_,w.heap.size,[],_,w.heap.size,r,rfl,rfl,bC.nil _ _,aI _,lq.nil _ _,aI _,(((az.refl [] w).alloc _).trans' G).trans q3 (by intro x U;rw[ay] at U;omega),h⟩
def Ee (w:World) (X:List Int) (i f:Int) (e:Ending) (w':World):Prop:=
 ∃n v g own z G ok,e= .returned (.tuple #[.agg (aR n v),z,.bool ok])/\n.B.length=13/\bC w' v g n.E/\w.heap.size<=g/\lq w' z G own/\w.heap.size<=G/\az [] w w'/\
  (ok=true->eG X i n own)/\(ok=false->n=cr/\own=[]/\∀h J,eG X i h J->h.F≠f)
theorem Kf (U:In64 X)(h:ky w X i e w'):Ee w X i 1 e w':=by
 obtain⟨n,v,g,own,va,ga,ok,h1,h2,h3,h4,h5,h6,h7,h8,h9⟩:=h;refine⟨n,v,g,own,va,ga,ok,h1,h2,h3,h4,h5,h6,h9,λz=> ?_,λz=> ?_⟩
 ·obtain⟨G,J,V,a4⟩:=h7 z
  rw[V,a4];exact TN U G J
 ·obtain⟨G,J,V⟩:=h8 z
  exact⟨J,V,λn' cM W hf=>G ⟨W.rng,(Ka W hf).1⟩⟩
theorem Kg (h:ry w X i e w'):Ee w X i 2 e w':=by
 obtain⟨n,v,g,own,va,ga,ok,h1,U,h3,h4,h5,V,h9,h7,W⟩:=h;refine⟨n,v,g,own,va,ga,ok,h1,U,h3,h4,h5,V,h9,λz=> ?_,λz=> ?_⟩
 ·obtain⟨G,-,J,-,-⟩:=h7 z
  exact TP U J G
 ·obtain⟨a2,J,G⟩:=W z
  exact⟨a2,J,λn' cM hs hf=>G n' cM (Kb hs hf)⟩
theorem uk{h:World}{v W:Value}{g ga:Nat}{own:List Nat}(V:az [] w h)(hB:n.B.length=13)(U:bC h v g n.E)(hO:lq h W ga own)(tv:w.heap.size<=ga):
  ∃z,(storeVar 111 ⟨h.heap.size,0,none⟩ (.agg (aR n v))).run prog (h.alloc (.cells (aR cr (.slice none 0 0)) 111))= .ok () z/\(loadVar 111 ⟨h.heap.size,0,none⟩).run prog z= .ok (.agg (aR n v)) z/\
   bC z v g n.E/\(∃G,lq z W G own/\w.heap.size<=G)/\az [] w z/\bh z h.heap.size (aR n v) 111 :=by
 have hb:=bh.new h (aR cr (.slice none 0 0)) 111;obtain⟨z,q1,q2,q3⟩:=xY (n:=n) (v:=v) hb rfl hB (uf U);have iM:az [h.heap.size] h z:=((az.refl [h.heap.size] h).alloc _).trans' q3;refine⟨z,q1,ct q2 hB,U.keep iM (λh0=> ?_),?_,(V.alloc _).trans q3 (by intro x J;rw[ay] at J;have :=V.size;omega),q2⟩
 ·exact U.apart (l:=[h.heap.size]) (λx J=>by rw[ay] at J;omega) h0
 ·exact hO.away tv iM λx J=>by rw[ay] at J;omega
theorem TU (r:List Int)(w:World):(Instr.field 111 (.agg (aR (iR r) (.slice none 0 0))) 0).run prog w= .ok (.int .i64 (iR r).F) w:=by kernel_rfl
theorem get_at(h:eO w b gp B ps)(aM:In64 (aA B ps))(i:Int):
  Calls prog 97 #[.pointer (some ⟨b,0,none⟩),.int .i64 i] w (AZ w (aA B ps) i):=by
 have dt:az [] w (w.alloc (.cells (aR cr (.slice none 0 0)) 111)):=(az.refl _ _).alloc _;have HI:=au (zI i);have HT:=au (jY i);have wC:=au h;have tu:=au aM;have pH:Hid (∀(wz:World) (r:Int),az [] (w.alloc (.cells (aR cr (.slice none 0 0)) 111)) wz->TT (aA B ps) i cr [] r->_):=λwz r hk hr=>abc (w:=w) hk hr
 have yU:=au (Ed (h.keep dt (by simp) (by simp)) i);have ub:=eA;have AL:=au (bh.new w (aR cr (.slice none 0 0)) 111);obtain⟨W0,aG⟩:∃W0,w.alloc (.cells (aR cr (.slice none 0 0)) 111)=W0:=⟨_,rfl⟩;rw[aG] at pH yU AL dt;have qC:=au aG;have fW:=au dt;clear h aM aG dt;generalize aP:aA B ps=X at *;have Mw:=au aP;clear aP;generalize ax:aR cr (.slice none 0 0)=Z0 at *;have oz:=au ax;clear ax;by_cases hi:0<=i/\i<32
 ·rw[bq hi] at HI
  by_cases hf:dP X i
  ·obtain⟨w1,aT⟩:∃w1,w1=W0:=⟨_,rfl⟩
   rw[bq (show(0<=i/\i<32)/\dP X i from ⟨hi,hf⟩)] at yU;have ai:Hid (∀wz,az [] W0 wz->_):=λwz hk=>pH.out wz 2 hk (.inr (.inl ⟨rfl,hi,hf,rfl,rfl⟩))
   clear hi hf pH AL HT aT;go_enter func97,ntmps97;go_wp2_with fail;rw[qC.out];refine(HI.out _).mono ?_;rintro e w' ⟨rfl,rfl⟩;go_wp2_with fail;refine yU.out.mono ?_;rintro e w2 ⟨rfl,af⟩;obtain⟨w3,q1,q2,q3⟩:=ai.out w2 af;have HS:=au q1;have HL:=au q2;have HP:=au q3;clear q1 q2 q3 af ai yU;go_wp2_with(with_reducible refine gS 111 HS.out ?_);exact aL (bU results97 rfl HL.out rfl rfl) rfl HP.out
  ·rw[aS (show ¬((0<=i/\i<32)/\dP X i) from λh=>hf h.2)] at yU
   have aJ:gF i=((824+8*i.toNat:Nat):Int):=by rw[gF,aB (by omega)];omega
   rw[aJ] at HT;have ma:Hid (∀z,az [] W0 z->Calls prog 141 #[.pointer (some ⟨b,0,none⟩),.int .i64 ((824+8*i.toNat:Nat):Int)] z λe w'=>e= .returned (.agg (aW (fT X i)).toArray)/\az [] z w'):=λz hk=>by
    have :=oL (wC.out.keep (fW.out.trans' hk) (by simp) (by simp)) (824+8*i.toNat) (by omega);rw[Mw.out] at this;exact this
   have wN:(fT X i).length=8:=iD _ _;have wD:∀k,0<=(fT X i).getD k 0/\(fT X i).getD k 0<18446744073709551616:=Cg.row tu.out _;have ak:=au (λz=>BV (fT X i) wN (wD 0) (wD 1) z);have hF:(iR (fT X i)).F=(fT X i).getD 0 0%256:=rfl;have bb:=TU (fT X i);have aC:Hid (∀n own,eG X i n own->(iR (fT X i)).F=n.F):=λn own h=>h.format
   have ar:=au (λz=>Dg (iR (fT X i)).F z);have HO:Hid (∀z,az [] W0 z->Calls prog 143 #[rT b i] z (Ee z X i 1)):=λz hk=>by
    have :=PJ (wC.out.keep (fW.out.trans' hk) (by simp) (by simp)) (by rw[Mw.out];exact tu.out) i;rw[Mw.out] at this;exact this.mono λe w'=>Kf tu.out
   have HN:Hid (∀z,az [] W0 z->Calls prog 145 #[rT b i] z (Ee z X i 2)):=λz hk=>by
    have :=PK (wC.out.keep (fW.out.trans' hk) (by simp) (by simp)) (by rw[Mw.out];exact tu.out) i;rw[Mw.out] at this;exact this.mono λe w'=>Kg
   have DN:Hid (Z0.size=18):=by rw[<-oz.out];rfl
   have Zp:=au hf;have VB:=au hi;clear hF wN wD aJ hi hf;generalize aY:((824+8*i.toNat:Nat):Int)=pi at *;clear aY;generalize aZ:(aW (fT X i)).toArray=R8 at *;clear aZ;generalize aQ:aR (iR (fT X i)) (.slice none 0 0)=ZT at *;clear aQ;generalize (iR (fT X i)).F=f at *;go_enter func97,ntmps97;go_wp2_with fail;rw[qC.out];refine(HI.out _).mono ?_;rintro e w' ⟨rfl,rfl⟩;go_wp2_with fail;refine yU.out.mono ?_;rintro e w2 ⟨rfl,af⟩;have fL:=au af;clear af;go_wp2_with fail;refine(HT.out _).mono ?_;rintro e w' ⟨rfl,rfl⟩;go_wp2_with fail;refine(ma.out _ fL.out).mono ?_;rintro e w3 ⟨rfl,aO⟩;have mV:=au (fL.out.trans' aO);clear aO fL;go_wp2_with fail;refine(ak.out _).mono ?_;rintro e w4 ⟨rfl,aN⟩;have pW:=au (mV.out.trans' aN);clear aN mV;go_wp2_with fail;refine(ar.out _).mono ?_;rintro e w5 ⟨j6,fa,fb,aF,aD,rfl,h1,h2⟩;have qG:=au (pW.out.trans' j6);have aK:=bh.new w5 #[.nilFunc,.nilFunc] 148;obtain⟨w6,q1,q2,q3⟩:=FT aK aF aD;have DG:=au q1;have o8:Hid (az [] W0 w6):=(qG.out.alloc _).trans q3 (by intro x hx;rw[ay] at hx;have :=qG.out.size;omega);have KZ:Hid (w6.cell? ⟨w5.heap.size,0,none⟩=some fa):=by show _=_;rw[q2.cell];rfl
   clear j6 pW aK q1 q2 q3;by_cases Zd:f=1
   ·rw[bq (show f=1\/f=2 from .inl Zd)]
    obtain⟨rfl,rfl⟩:=h1 Zd;have c6:=KZ.out;clear h1 h2 KZ aF aD;go_wp2_with(with_reducible refine gS 148 DG.out ?_);refine(HO.out w6 o8.out).mono ?_;rintro e w7 ⟨n,v,g,own,va,ga,ok,rfl,hB,hE,hg,hO,tv,zW,Mg,G8⟩;have GD:=au (o8.out.trans' zW);obtain⟨w8,q1,q2,ag,⟨aI,ac,XA⟩,uS,aH⟩:=uk GD.out hB hE hO (by have :=o8.out.size;omega);have LO:W0.heap.size<=g:=by have :=o8.out.size;omega
    rw[oz.out] at q1;have aj:=au q1;have Hc:=au q2;have Pm:=au uS;have Dv:=au Mg;have N7:=au G8;have ah:=au ag;have BS:=au ac;have Pd:=au hB;have ae:=au LO;have XB:=au XA;clear zW hE hO hB hg tv q1 q2 ag ac uS aH LO XA Mg G8 c6 DG HO HN ak ma ar HI HT yU;generalize OY:aR n v=ZN at *;have Xz:=au OY;clear OY;cases ok with
    |false=>
     obtain⟨e1,e2,e3⟩:=N7.out rfl;obtain⟨w9,J,p2,G⟩:=pH.out w8 10 Pm.out (.inr (.inr (.inl ⟨rfl,VB.out,Zp.out,λn' cM hs=>e3 n' cM hs ((aC.out n' cM hs).symm.trans Zd),rfl,rfl⟩)));have aa:=au J;have SU:=au p2;have U:=au G;clear e1 e2 e3 J p2 G pH Dv N7;go_wp2_with(first|(with_reducible refine gS 111 aj.out ?_)|(with_reducible refine gS 111 aa.out ?_));exact aL (bU results97 rfl SU.out rfl rfl) rfl U.out
    |true=>
     obtain⟨w9,J,p2,G⟩:=xY (n:=n) (v:=v) (AL.out.keep Pm.out (by simp)) DN.out Pd.out (uf ah.out);have V:=ct p2 Pd.out;have W:AZ w X i (.returned (.tuple #[.agg (aR n v),va,.int .i64 0])) w9:=by
      have ax:=fW.out.size;have aX:=AL.out.lt;refine⟨n,v,g,own,va,aI,0,rfl,Pd.out,ah.out.keep G (λh0=> ?_),?_,BS.out.keep G ?_,?_,(fW.out.trans' Pm.out).trans G (by intro x hx;rw[ay] at hx;omega),.inr (.inr (.inr ⟨rfl,Dv.out rfl⟩))⟩
      ·have :=ae.out
       rw[ay];omega
      ·have :=ae.out;omega
      ·have :=XB.out
       rw[ay];omega
      ·have :=XB.out;omega
     rw[Xz.out] at J V W;have aa:=au J;have SU:=au V;have U:=au W;clear J p2 G V W pH Dv N7;go_wp2_with(first|(with_reducible refine gS 111 aj.out ?_)|(with_reducible refine gL 111 Hc.out ?_)|(with_reducible refine gS 111 aa.out ?_));exact aL (bU results97 rfl SU.out rfl rfl) rfl U.out
   ·by_cases av:f=2
    ·rw[bq (show f=1\/f=2 from .inr av)]
     obtain⟨rfl,rfl⟩:=h2 av;have c6:=KZ.out;clear h1 h2 KZ aF aD;go_wp2_with(with_reducible refine gS 148 DG.out ?_);refine(HN.out w6 o8.out).mono ?_;rintro e w7 ⟨n,v,g,own,va,ga,ok,rfl,hB,hE,hg,hO,tv,zW,Mg,G8⟩;have GD:=au (o8.out.trans' zW);obtain⟨w8,q1,q2,ag,⟨aI,ac,XA⟩,uS,aH⟩:=uk GD.out hB hE hO (by have :=o8.out.size;omega);have LO:W0.heap.size<=g:=by have :=o8.out.size;omega
     rw[oz.out] at q1;have aj:=au q1;have Hc:=au q2;have Pm:=au uS;have Dv:=au Mg;have N7:=au G8;have ah:=au ag;have BS:=au ac;have Pd:=au hB;have ae:=au LO;have XB:=au XA;clear zW hE hO hB hg tv q1 q2 ag ac uS aH LO XA Mg G8 c6 DG HO HN ak ma ar HI HT yU;generalize OY:aR n v=ZN at *;have Xz:=au OY;clear OY;cases ok with
     |false=>
      obtain⟨e1,e2,e3⟩:=N7.out rfl;obtain⟨w9,J,p2,G⟩:=pH.out w8 10 Pm.out (.inr (.inr (.inl ⟨rfl,VB.out,Zp.out,λn' cM hs=>e3 n' cM hs ((aC.out n' cM hs).symm.trans av),rfl,rfl⟩)));have aa:=au J;have SU:=au p2;have U:=au G;clear e1 e2 e3 J p2 G pH Dv N7;go_wp2_with(first|(with_reducible refine gS 111 aj.out ?_)|(with_reducible refine gS 111 aa.out ?_));exact aL (bU results97 rfl SU.out rfl rfl) rfl U.out
     |true=>
      obtain⟨w9,J,p2,G⟩:=xY (n:=n) (v:=v) (AL.out.keep Pm.out (by simp)) DN.out Pd.out (uf ah.out);have V:=ct p2 Pd.out;have W:AZ w X i (.returned (.tuple #[.agg (aR n v),va,.int .i64 0])) w9:=by
       have ax:=fW.out.size;have aX:=AL.out.lt;refine⟨n,v,g,own,va,aI,0,rfl,Pd.out,ah.out.keep G (λh0=> ?_),?_,BS.out.keep G ?_,?_,(fW.out.trans' Pm.out).trans G (by intro x hx;rw[ay] at hx;omega),.inr (.inr (.inr ⟨rfl,Dv.out rfl⟩))⟩
       ·have :=ae.out
        rw[ay];omega
       ·have :=ae.out;omega
       ·have :=XB.out
        rw[ay];omega
       ·have :=XB.out;omega
      rw[Xz.out] at J V W;have aa:=au J;have SU:=au V;have U:=au W;clear J p2 G V W pH Dv N7;go_wp2_with(first|(with_reducible refine gS 111 aj.out ?_)|(with_reducible refine gL 111 Hc.out ?_)|(with_reducible refine gS 111 aa.out ?_));exact aL (bU results97 rfl SU.out rfl rfl) rfl U.out
    ·rw[aS (show ¬(f=1\/f=2) by omega)]
     have ai:Hid (TT X i cr [] 10):= .inr (.inr (.inl ⟨rfl,VB.out,Zp.out,λn' cM hs=>by
      have :=aC.out n' cM hs;have :=hs.right.1;omega,rfl,rfl⟩))
     obtain⟨w7,J,p2,G⟩:=pH.out w6 10 o8.out ai.out;have aV:=au J;have aU:=au p2;have ba:=au G;clear J p2 G pH HO HN ak ma ar HI HT yU ai h1 h2 Zd av aC;go_wp2_with(first|(with_reducible refine gS 148 DG.out ?_)|(with_reducible refine gS 111 aV.out ?_));exact aL (bU results97 rfl aU.out rfl rfl) rfl ba.out
 ·rw[aS hi] at HI
  obtain⟨w1,q1,q2,q3⟩:=pH.out W0 1 (az.refl _ _) (.inl ⟨rfl,hi,rfl,rfl⟩);have HS:=au q1;have HL:=au q2;have HP:=au q3;clear q1 q2 q3 hi pH yU AL HT;go_enter func97,ntmps97;go_wp2_with fail;rw[qC.out];refine(HI.out _).mono ?_;rintro e w' ⟨rfl,rfl⟩;go_wp2_with(with_reducible refine gS 111 HS.out ?_);exact aL (bU results97 rfl HL.out rfl rfl) rfl HP.out
def FW (w:World) (b z:Nat) (B:List Int) (ps:List (Int×Int)) (i:Int) (n:bP) (e:Ending) (w':World):Prop:=
 ∃r qs h,e= .returned (.int .i64 r)/\(h=z\/(w.heap.size<=h/\h<w'.heap.size))/\eO w' b h B (ps++qs)/\az [b,z] w w'/\qs.length<=600/\
  ((r=7/\(aZ (aA B ps)).length<dz n/\qs=[])\/(r=0/\dz n<=(aZ (aA B ps)).length/\qs=Hf (aA B ps) i.toNat n ((aZ (aA B ps)).take (dz n))))
theorem XC (hi:0<=i/\i<32)(V:bZ n)(hF:n.F=1)(h:vD w b U B ps i n e w'):FW w b U B ps i n e w':=by
 have W:dz n=eZ n:=aB (by omega);have h2:∀X own,Hf X i.toNat n own=oP X i.toNat n own:=λX own=>aB (by omega)
 obtain⟨r,qs,gG,a1,a2,a3,a4,a5,a6⟩:=h;refine⟨r,qs,gG,a1,a2,a3,a4,by omega,?_⟩;rw[W,h2];rcases a6 with ⟨-,c,-⟩|⟨z,-,J,G⟩|⟨z,-,J,G⟩
 ·exact absurd ⟨hi,hF,V⟩ c
 ·exact .inl ⟨z,J,G⟩
 ·exact .inr ⟨z,J,G⟩
theorem XD (hi:0<=i/\i<32)(V:bZ n)(hF:n.F=2)(h:rP w b U B ps i n e w'):FW w b U B ps i n e w':=by
 have W:dz n=eP n:=aC hF;have h2:∀X own,Hf X i.toNat n own=mb X i.toNat n own:=λX own=>aC hF
 obtain⟨r,qs,gG,a1,a2,a3,a4,a5,a6⟩:=h;refine⟨r,qs,gG,a1,a2,a3,a4,by omega,?_⟩;rw[W,h2];rcases a6 with ⟨-,c,-⟩|⟨z,-,J,G⟩|⟨z,-,J,G⟩
 ·exact absurd ⟨hi,hF,V⟩ c
 ·exact .inl ⟨z,J,G⟩
 ·exact .inr ⟨z,J,G⟩
def XE (X:List Int) (i:Int) (own:List Nat):Prop:=(dP X i/\own=[])\/∃m,eG X i m own
def nH (X:List Int) (i:Int) (n:bP) (r:Int) (qs:List (Int×Int)):Prop:=
 (r=1/\¬((0<=i/\i<32)/\bZ n)/\qs=[])\/
 (r=10/\((0<=i/\i<32)/\bZ n)/\¬dP X i/\(∀z h,¬eG X i z h)/\qs=[])\/
 (∃own,((0<=i/\i<32)/\bZ n)/\XE X i own/\((r=7/\(aZ (aA X (cJ X own))).length<dz n/\qs=[])\/(r=0/\dz n<=(aZ (aA X (cJ X own))).length/\qs=lH X i.toNat n own)))
def lV (w:World) (b z:Nat) (B:List Int) (ps:List (Int×Int)) (i:Int) (n:bP) (e:Ending) (w':World):Prop:=
 ∃r qs h,e= .returned (.int .i64 r)/\(h=z\/(w.heap.size<=h/\h<w'.heap.size))/\eO w' b h B (ps++qs)/\az [b,z] w w'/\qs.length<=700/\nH (aA B ps) i n r qs
theorem lV.nothing{z:Nat}(h:eO w b z B ps)(G:az [] w w')(J:nH (aA B ps) i n r []):lV w b z B ps i n (.returned (.int .i64 r)) w':=
 ⟨r,[],z,rfl,.inl rfl,by rw[bu];exact h.keep G (by simp) (by simp),G.mono (by simp),by simp,J⟩
theorem um (h:eO w b G B ps)(aX:In64 (aA B ps))(hT:∀z,az [b,G] w z->kg z)(Gz:G<w.heap.size)(bw:ps.length<=700000)(i:Int)(n:bP)(v:Value)(g:Nat)(hB:n.B.length=13)(hE:bC w v g n.E)
  (hN:∀k,k<n.E.length->(eU n.E k).size<=9223372036854775807) (ar:n.E.length≠0->g≠b/\g≠G):
  Calls prog 49 #[.pointer (some ⟨b,0,none⟩),.int .i64 i,.agg (aR n v)] w (lV w b G B ps i n):=by
 have dt:az [] w (w.alloc (.cells (aR n v) 111)):=(az.refl _ _).alloc _;have rI:=bh.new w (aR n v) 111;have HI:=au (zI i);have yR:=au (λz (V:az [] w z)=>nt n v g hB z (hE.keep V (by simp)) hN);have jC:Hid (∀(w':World) (r:Int),az [] w w'->nH (aA B ps) i n r []->lV w b G B ps i n (.returned (.int .i64 r)) w'):=λw' r V hr=>lV.nothing h V hr
 have AO:=au (λz (V:az [] (w.alloc (.cells (aR n v) 111)) z)=>ct (rI.keep V (by simp)) hB);obtain⟨J,aJ⟩:∃J,w.alloc (.cells (aR n v) 111)=J:=⟨_,rfl⟩;rw[aJ] at dt rI AO;have qC:=au aJ;have fW:=au dt;have bL:=au rI;have wC:=au h;have tu:=au aX;have HE:=au hE;have HB:=au hB;have aC:=au hT;have Rm:=au hN;have Tn:=au ar;have yI:=au bw;have aO:=au Gz;clear h aX aJ dt rI hE hN hT ar bw Gz;by_cases hi:0<=i/\i<32
 ·rw[bq hi] at HI
  by_cases hR:bZ n
  ·rw[bq hR] at yR
   obtain⟨X,hX⟩:∃X,aA B ps=X:=⟨_,rfl⟩;have Mw:=au hX;have bJ:Hid (X.length=3128):=by show _=_;rw[<-hX];exact wC.out.raw.lx
   have bN:b<w.heap.size:=wC.out.raw.lt;have bX:=au bN;have TJ:Hid (In64 X):=by show In64 X;rw[<-hX];exact tu.out
   have GV:=au (AO.out J (az.refl _ _));have av:=au (yR.out J fW.out);have DC:Hid (∀z,az [] J z->Calls prog 97 #[.pointer (some ⟨b,0,none⟩),.int .i64 i] z (AZ z X i)):=λz V=>by
    have :=get_at (wC.out.keep (fW.out.trans' V) (by simp) (by simp)) tu.out i;rwa[hX] at this
   have bR:Hid (∀z,az [] J z->eO z b G B ps):=λz V=>wC.out.keep (fW.out.trans' V) (by simp) (by simp)
   have KY:Hid (∀z,az [] J z->Calls prog 98 #[.pointer (some ⟨b,0,none⟩)] z λe w'=>e= .returned (.int .i64 (ps.length:Int))/\z=w'):=λz V=>
    Si (wC.out.keep (fW.out.trans' V) (by simp) (by simp))
   have aL:Hid (∀z va ga own,az [] J z->Reads z va ga (dE own)->J.heap.size<=ga->own.length<=32->Calls prog 99 #[.pointer (some ⟨b,0,none⟩),va] z (jE z b G B (ps++cJ X own))):=λz va ga own V hr hg hl=>by
    have hz:=fW.out.size;have ac:=aO.out;have :=Ro (wC.out.keep (fW.out.trans' V) (by simp) (by simp)) tu.out (by have :=V.size;omega) (by have :=yI.out;omega) hr (by omega) (λ_=>by omega);rwa[hX] at this
   have G7:Hid (∀z kX own,az [b,G] J z->eO z b kX B (ps++cJ X own)->kX<z.heap.size->(kX=G\/J.heap.size<=kX)->own.length<=32->∀f:Nat,((n.F=1->f= 144)/\(n.F=2->f= 146))->
     Calls prog f #[rT b i,.agg (aR n v)] z (FW z b kX B (ps++cJ X own) i n)):=λz kX own V hs ac ar ah f hf=>by
    have aI:az [b,G] w z:=(fW.out.mono (by simp)).trans' V;have bn:In64 (aA B (ps++cJ X own)):=by rw[bD,hX];exact(jF own X TJ.out bJ.out).1
    have aB:(ps++cJ X own).length<=800000:=by
     have W:=vG own X;have U:=yI.out;rw[aD];omega
    have bW:=fW.out.size;have bA:bC z v g n.E:=HE.out.keep aI (λh0=>by
     have :=Tn.out h0;simp only[aP,aM,bz,not_or];exact this)
    have bv:n.E.length≠0->g≠b/\g≠kX:=λh0=>by
     have W:=Tn.out h0;refine⟨W.1,λU=> ?_⟩;rcases ar with h3|h3
     ·exact W.2 (U.trans h3)
     ·have :=HE.out.apart (l:=[kX]) (λx hx=>by rw[ay] at hx;omega) h0
      rw[ay] at this;exact this U
    rcases hR.1 with hF|hF
    ·rw[hf.1 hF]
     exact(TR hs bn (aC.out z aI) ac aB i n v g HB.out bA Rm.out bv).mono λe w'=>XC hi hR hF
    ·rw[hf.2 hF]
     exact(TS hs bn (aC.out z aI) ac aB i n v g HB.out bA Rm.out bv).mono λe w'=>XD hi hR hF
   have af:Hid (∀z,az [b,G] J z->z.cell? ⟨w.heap.size,0,none⟩=some (.int .i64 n.F)/\(loadVar 111 ⟨w.heap.size,0,none⟩).run prog z= .ok (.agg (aR n v)) z):=λz V=>by
    have hb:=bL.out.keep V (by have :=aO.out;simp;omega);refine⟨?_,ct hb HB.out⟩;rw[hb.cell];exact(iX v HB.out).f0
   have aG:=au (λz=>Dg n.F z);have aN:Hid (n.F=1\/n.F=2):=hR.1;have ai:Hid ((0<=i/\i<32)/\bZ n):=⟨hi,hR⟩;have lU:Hid (∀z (pq:Nat) (r:Int) (qs:List (Int×Int)),(pq=G\/(w.heap.size<=pq/\pq<z.heap.size))->eO z b pq B (ps++qs)->az [b,G] J z->qs.length<=700->nH X i n r qs->lV w b G B ps i n (.returned (.int .i64 r)) z):=λz pq r qs W U h3 h4 h5=>
    ⟨r,qs,pq,rfl,W,U,(fW.out.mono (by simp)).trans' h3,h4,by rw[hX];exact h5⟩
   have ub:=eA;clear hi hR AO yR hX jC HE Rm Tn aC wC tu;have oz:=au fW.out.size;have bO:n.F=n.F:=rfl;clear bO;generalize bT:aR n v=Z at *;clear bT;generalize hf:n.F=f at *;clear hf;go_enter func49,ntmps49;go_wp2_with fail;rw[qC.out];refine(HI.out _).mono ?_;rintro e w' ⟨rfl,rfl⟩;go_wp2_with((with_reducible show wpList _ _ _ (⟨_,.load 111 (.tmp 5),_,_,_,_⟩::_) _ _);refine eB (by first|rfl|simp[Region.wanted,yielded]) 111 (.tmp 5) rfl _ rfl _ GV.out ?_);refine av.out.mono ?_;rintro e w2 ⟨rfl,ae⟩;have fL:=au ae;clear ae;go_wp2_with fail;refine(DC.out w2 fL.out).mono ?_;rintro e w3 ⟨m,vm,gm,own,va,ga,r,rfl,bb,bt,bS,hO,tv,bp,bk⟩;have mH:az [] J w3:=fL.out.trans' bp;obtain⟨w4,q1,q2,VE,⟨bH,Rl,bo⟩,bj,bM⟩:=uk mH bb bt hO (by have :=fL.out.size;omega);have vB:=au q1;have br:=au Rl;have bK:=au bo;have pW:=au bj;have ax:=au bk;clear bb bt bS hO tv bp bk q1 q2 VE Rl bo bj bM mH fL av GV DC;generalize aR m vm=ZM at *;generalize aR cr (.slice none 0 0)=ZZ at *;by_cases ag:r=10
   ·subst ag
    have bl:nH X i n 10 []:=by
     rcases ax.out with ⟨h,-⟩|⟨h,-⟩|⟨-,W,U,h3,-⟩|⟨h,-⟩
     ·omega
     ·omega
     ·exact .inr (.inl ⟨rfl,ai.out,U,h3,rfl⟩)
     ·omega
    have HP:Hid (lV w b G B ps i n (.returned (.int .i64 10)) w4):=lU.out w4 G 10 [] (.inl rfl) (by rw[bu];exact bR.out w4 pW.out) (pW.out.mono (by simp)) (by simp) bl;clear bl ax lU af aG G7 aL KY;go_wp2_with(with_reducible refine gS 111 vB.out ?_);go_ret;exact HP.out
   ·have ah:own.length<=32/\XE X i own:=by
     rcases ax.out with ⟨W,U,-⟩|⟨-,-,U,-,h3⟩|⟨h,-⟩|⟨-,h⟩
     ·exact absurd ai.out.1 U
     ·subst h3;exact⟨by simp,.inl ⟨U,rfl⟩⟩
     ·exact absurd h ag
     ·exact⟨by have W:=h.ownLen;have U:=ui h.right;omega,.inr ⟨m,h⟩⟩
    have bU:(r==10)=false:=by simpa using ag
    have aj:=au ah;have bf:=au (aL.out w4 va bH own pW.out br.out.reads bK.out ah.1);clear ah ax aL br ag;go_wp2_with(with_reducible refine gS 111 vB.out ?_);refine(KY.out w4 pW.out).mono ?_;rintro e w' ⟨rfl,rfl⟩;go_wp2_with fail;refine bf.out.mono ?_;rintro e w5 ⟨rfl,kX,bQ,aW,j6⟩;have qG:Hid (az [b,G] J w5):=(pW.out.mono (by simp)).trans' j6;have zz:=au aW;have aa:Hid (kX<w5.heap.size/\(kX=G\/J.heap.size<=kX)):=by
     have z4:=pW.out.size;have z5:=j6.size;have :=aO.out;have :=oz.out;exact⟨by omega,by omega⟩
    have Ob:=au (af.out w5 qG.out);have c5:=Ob.out.1;clear bQ aW j6 bf KY;go_wp2_with fail;refine(aG.out w5).mono ?_;rintro e w6 ⟨kG,fa,fb,bc,aZ,rfl,W,U⟩;have bG:∃q:Nat,fb= .func (.func q) #[] #[]/\((f=1->q= 144)/\(f=2->q= 146)):=by
     rcases aN.out with hF|hF
     ·exact⟨_,(W hF).2,λ_=>rfl,λh=>by omega⟩
     ·exact⟨_,(U hF).2,λh=>by omega,λ_=>rfl⟩
    rw[bq aN.out];obtain⟨q,rfl,hq⟩:=bG;have bI:q= 144\/q= 146 :=aN.out.imp (λh=>hq.1 h) λh=>hq.2 h
    have aV:=bh.new w6 #[.nilFunc,.nilFunc] 148;obtain⟨w7,q1,q2,q3⟩:=FT aV bc aZ;have aU:az [] w6 w7:=((az.refl [] w6).alloc _).trans q3 (by intro x hx;rw[ay] at hx;omega);have TV:Hid (az [] w5 w7):=kG.trans' aU;have aH:=au q1;have GD:Hid (az [b,G] J w7):=qG.out.trans' (TV.out.mono (by simp));have c7:w7.cell? ⟨w6.heap.size,1,none⟩=some (.func (.func q) #[] #[]):=by rw[q2.cell];rfl
    have aF:=au (af.out w7 GD.out).2;have aK:Hid (eO w7 b kX B (ps++cJ X own)):=zz.out.keep TV.out (by simp) (by simp);have Vw:=au (G7.out w7 kX own GD.out aK.out (by have :=aa.out;have :=TV.out.size;omega) aa.out.2 aj.out.1 q hq);clear hq c5 kG bc aZ W U aV q1 q2 q3 aU G7 af aG Ob vB bU;rcases bI with rfl|rfl
    all_goals (
     go_wp2_with(first|(with_reducible refine gS 148 aH.out ?_)|(with_reducible refine gL 111 aF.out ?_));refine Vw.out.mono ?_;rintro e w8 ⟨r2,bY,pq,rfl,aY,Wt,uS,bB,bg⟩;have hY:aA B (ps++cJ X own)=aA X (cJ X own):=by rw[bD,Mw.out]
     rw[hY] at bg;have ac:=vG own X;have aT:=aj.out.1;have aQ:pq=G\/(w.heap.size<=pq/\pq<w8.heap.size):=by
      have W:=aa.out;have U:=TV.out.size;have h3:=uS.size;have h4:=oz.out;have h5:=GD.out.size;omega
     have ak:az [b,G] J w8:=GD.out.trans uS (by
      intro x hx;have W:=aa.out.2;simp only[aP,aM,bz] at hx ⊢;omega)
     rcases bg with ⟨rfl,o9,rfl⟩|⟨rfl,o9,rfl⟩
     ·have bF:((ps++cJ X own)++[]).take (CN (ps.length:Int) ((ps++cJ X own)++[]).length)=ps:=by
       have bV:ps.length<=((ps++cJ X own)++[]).length:=by simp
       have :CN (ps.length:Int) ((ps++cJ X own)++[]).length=ps.length:=by have :=Ie (ps.length:Int) ((ps++cJ X own)++[]).length;omega
       rw[this,bu,List.take_left]
      have D8:Hid (Calls prog 101 #[.pointer (some ⟨b,0,none⟩),.int .i64 (ps.length:Int)] w8 (Lj w8 b pq B ps)):=by
       have :=Sg Wt (ps.length:Int);rwa[bF] at this
      have HP:Hid (∀w9,eO w9 b pq B ps->az [b] w8 w9->lV w b G B ps i n (.returned (.int .i64 7)) w9):=λw9 W U=>
       lU.out w9 pq 7 [] (by have :=U.size;omega) (by rw[bu];exact W) (ak.trans U (by intro x hx;rw[ay] at hx;left;simp[hx])) (by simp) (.inr (.inr ⟨own,ai.out,aj.out.2,.inl ⟨rfl,o9,rfl⟩⟩))
      clear hY ac aT aQ ak o9 bF Wt uS aY bB Vw lU aF aK aH c7 GD TV zz qG aa;go_wp2_with fail;refine D8.out.mono ?_;rintro e w9 ⟨rfl,bE,DJ⟩;have A0:=au (HP.out w9 bE DJ);clear bE DJ HP D8;go_wp2_with fail;go_ret;exact A0.out
     ·have HP:Hid (lV w b G B ps i n (.returned (.int .i64 0)) w8):=
       lU.out w8 pq 0 (lH X i.toNat n own) aQ (by unfold lH;rw[<-ba];exact Wt) ak (by unfold lH;rw[aD];omega) (.inr (.inr ⟨own,ai.out,aj.out.2,.inr ⟨rfl,o9,rfl⟩⟩))
      clear hY ac aT aQ ak o9 Wt uS aY bB Vw lU aF aK aH c7 GD TV zz qG aa;go_wp2_with fail;go_ret;exact HP.out)
  ·rw[aS hR] at yR
   have HX:Hid (nH (aA B ps) i n 1 []):= .inl ⟨rfl,λh=>hR h.2,rfl⟩;have GV:=au (AO.out J (az.refl _ _));have av:=au (yR.out J fW.out);clear hi hR AO yR HB;generalize aR n v=Z at *;go_enter func49,ntmps49;go_wp2_with fail;rw[qC.out];refine(HI.out _).mono ?_;rintro e w' ⟨rfl,rfl⟩;go_wp2_with((with_reducible show wpList _ _ _ (⟨_,.load 111 (.tmp 5),_,_,_,_⟩::_) _ _);refine eB (by first|rfl|simp[Region.wanted,yielded]) 111 (.tmp 5) rfl _ rfl _ GV.out ?_);refine av.out.mono ?_;rintro e w2 ⟨rfl,ae⟩;have HP:=au (jC.out w2 1 (fW.out.trans' ae) HX.out);clear ae;go_wp2_with fail;go_ret;exact HP.out
 ·rw[aS hi] at HI
  have HP:=au (jC.out J 1 fW.out (.inl ⟨rfl,λh=>hi h.1,rfl⟩));clear hi jC yR AO HB;generalize aR n v=Z at *;go_enter func49,ntmps49;go_wp2_with fail;rw[qC.out];refine(HI.out _).mono ?_;rintro e w' ⟨rfl,rfl⟩;go_wp2_with fail;go_ret;exact HP.out
def fx (B:List Int) (k:Nat):List Nat:=((B.take k).filter λx=>x != 0).map Int.toNat
def dn (n:bP):List Nat:=fx n.B 13
theorem Kh (B:List Int)(k:Nat)(z:k<B.length):fx B (k+1)=fx B k++(if B.getD k 0=0 then [] else [(B.getD k 0).toNat]):=by
 unfold fx;rw[bJ z,ft,eX]
 congr 1
 have :B.getD k 0=B[k]:=by simp[z]
 rw[this];by_cases h:B[k]=0
 ·simp[h]
 ·simp[h]
theorem zJ (B:List Int)(k:Nat):(fx B k).length<=k:=by
 unfold fx;rw[bS];exact cD (fQ _ _) (by rw[aJ];omega)
theorem Rp{ws:World}(V:az [] ws w){va:Value}{own:List Nat}(hO:w.ownsRow ws.heap.size 3 1 va own.length (dE own))(n:bP)(v:Value)(hB:n.B.length=13)(h0:∀k,0<=n.B.getD k 0)(hl:own.length<=1000):
  Calls prog 163 #[va,.agg (aR n v)] w λe w'=>∃u,e= .returned u/\w'.ownsRow ws.heap.size 3 1 u (own++dn n).length (dE (own++dn n))/\az [] ws w':=by
 obtain⟨i0,hi,ae,ag,ah⟩:=cP Tryz.info_int;have aj:=V.size;have aa:=bh.new w (aR n v) 111;have pX:Hid ((loadVar 109 ⟨w.heap.size,4,none⟩).run prog (w.alloc (.cells (aR n v) 111))= .ok (.agg (zs n.B).toArray) (w.alloc (.cells (aR n v) 111))):=fc aa hB (iX v hB).f4;have HZ:Hid (∀k,k<13->(zs n.B).toArray[k]? =some (.int .i64 (n.B.getD k 0))):=λk V=>by rw[aF,fR (by omega)]
 have W:Hid ((w.alloc (.cells (aR n v) 111)).ownsRow ws.heap.size 3 1 va (own++fx n.B 0).length (dE (own++fx n.B 0))/\az [] ws (w.alloc (.cells (aR n v) 111))):=by
  have :own++fx n.B 0=own:=by simp[fx]
  rw[this];exact⟨hO.alloc _,V.alloc _⟩
 have HB:=au hB;have H0:=au h0;have Zq:Hid (fx n.B 13=dn n):=rfl;clear hO aa V hB h0;generalize aR n v=Z at *;generalize (zs n.B).toArray=ZB at *;go_enter func163,ntmps163;go_wp2_with(with_reducible refine gL 109 pX.out ?_);go_loopg [0,9] 13 (λgh s0 s9 wx=>∃k:Nat,k+gh=13/\s9= .int .i64 (k:Int)/\Hid (wx.ownsRow ws.heap.size 3 1 s0 (own++fx n.B k).length (dE (own++fx n.B k))/\az [] ws wx))
 case atStart=>exact⟨0,by omega,rfl,W.out⟩
 case round=>
  clear W pX;obtain⟨k,V,rfl,J⟩:=hrel;cases gk with
  |zero=>
   obtain rfl:k=13:=by omega
   have HE:=au J.out;rw[Zq.out] at HE;clear V J;go_wp2_with fail;go_ret;exact⟨_,rfl,HE.out⟩
  |succ gg=>
   have mC:k<13:=by omega
   have av:(k:Int)<13:=by omega
   have dt:(0:Int)<=(k:Int):=by omega
   have Bx:=xO mC (HZ.out k mC);have ax:=H0.out k;have HS:=au (Kh n.B k (by rw[HB.out];exact mC));have ai:=zJ n.B k;generalize n.B.getD k 0=x at *;by_cases U:x=0
   ·have e0:(x != 0)=false:=by rw[U];rfl
    have HN:Hid (wr.ownsRow ws.heap.size 3 1 u0 (own++fx n.B (k+1)).length (dE (own++fx n.B (k+1)))/\az [] ws wr):=by
     show _/\_;rw[HS.out,aC U,bu];exact J.out
    clear J HS U;go_wp2_with fail;go_roundg gg;case measure=>omega
    case rel=>exact⟨k+1,by omega,by go_num,HN.out⟩
   ·have e0:(x != 0)=true:=bne_iff_ne.2 U
    have z:=au J.out.1;have iZ:=au J.out.2;have ar:=J.out.2.size;have ak:(own++fx n.B k).length<=2000:=by rw[aD];omega
    have mI:Hid (own++fx n.B (k+1)=(own++fx n.B k)++[x.toNat]):=by
     show _=_;rw[HS.out,aB U,ba]
    have HI:Hid (dE ((own++fx n.B k)++[x.toNat])=dE (own++fx n.B k)++[.int .i64 x]):=by
     show _=_;have af:((x.toNat:Nat):Int)=x:=by omega
     rw[sG];show _++[Value.int .i64 ((x.toNat:Nat):Int)]=_;rw[af]
    have EJ:Hid (((own++fx n.B k)++[x.toNat]).length=(own++fx n.B k).length+1):=aD;clear J HS ai;generalize own++fx n.B k=L at *;generalize hq:L.length=q at *;go_wp2_with(at_builtin;refine dO _ rfl _ _ 141 rfl ws.heap.size 3 i0 (.int .i64 0) 1 8 underlying141 hi ae ag ah rfl (by decide) u0 q _ rfl (z.out.alloc _) ⟨wr.heap.size,0,none⟩ 1 1 [.int .i64 x] rfl rfl ?c1 ?c2 (by unfold maxLen;omega) (by omega) (by simp;omega) ?_);case c1=>exact jP _ [_] _ _ rfl
    case c2=>simp[Value.oneCell']
    intro v' w1 h G ac;have HN:Hid (w1.ownsRow ws.heap.size 3 1 v' (own++fx n.B (k+1)).length (dE (own++fx n.B (k+1)))/\az [] ws w1):=by
     show _/\_;rw[mI.out,EJ.out,HI.out];exact⟨h,(iZ.out.alloc _).grown G (cZ z.out)⟩
    clear h G ac z iZ mI HI EJ U hq;go_wp2_with fail;go_roundg gg;case measure=>omega
    case rel=>exact⟨k+1,by omega,by go_num,HN.out⟩
def vH (X:List Int) (i:Nat) (n:bP) (own:List Nat):List (Int×Int):=cJ X (own++dn n)++jD (824+8*i) (List.replicate 8 0) 8
def MG (X:List Int) (i r:Int) (qs:List (Int×Int)):Prop:=
 (r=1/\¬(0<=i/\i<32)/\qs=[])\/(r=2/\(0<=i/\i<32)/\dP X i/\qs=[])\/(r=10/\(0<=i/\i<32)/\¬dP X i/\(∀z h,¬eG X i z h)/\qs=[])\/
  (r=0/\∃n own,eG X i n own/\qs=vH X i.toNat n own)
def FX (w:World) (b z:Nat) (B:List Int) (ps:List (Int×Int)) (i:Int) (e:Ending) (w':World):Prop:=
 ∃r qs h,e= .returned (.int .i64 r)/\(h=z\/(w.heap.size<=h/\h<w'.heap.size))/\eO w' b h B (ps++qs)/\az [b,z] w w'/\qs.length<=700/\MG (aA B ps) i r qs
def FY (w:World) (X:List Int) (i:Int) (e:Ending) (w':World):Prop:=
 ∃v g l,e= .returned v/\Reads w' v g (dE l)/\az [] w w'/\((∃n own,eG X i n own/\l=own++dn n)\/((∀n own,¬eG X i n own)/\l=[]))/\(l≠[]->w.heap.size<=g)
theorem abg:(aW (List.replicate 8 0)).toArray= #[.int .u64 0,.int .u64 0,.int .u64 0,.int .u64 0,.int .u64 0,.int .u64 0,.int .u64 0,.int .u64 0]:=rfl
theorem abh (h:eO w b W B ps)(ac:In64 (aA B ps))(Gz:W<w.heap.size)(ax:ps.length<=700000)(i:Int):
  Calls prog 179 #[.pointer (some ⟨b,0,none⟩),.int .i64 i] w (FX w b W B ps i):=by
 have HX:Hid ((aA B ps).length=3128):=h.raw.lx;have hb:=h.raw.lt;have wC:=au h;have tu:=au ac;have DC:=au (get_at h ac i);have yI:=au ax;have ae:=au (jY i);have ub:=eA;clear h ac ax;go_enter func179,ntmps179;go_wp2_with fail;refine DC.out.mono ?_;rintro e w1 ⟨n,v,g,own,va,ga,r,rfl,hB,hE,hg,hO,tv,ag,hr⟩;obtain⟨w2,q1,q2,K0,⟨aT,aj,XF⟩,ai,aO⟩:=uk ag hB hE hO tv;have ov:=au q1;have qN:=au q2;have N7:=au aj;have aJ:=au XF;have fL:=au ai;have HR:=au hr;have HB:=au hB;clear hB hE hg hO tv ag hr q1 q2 K0 aj XF ai aO DC;have jC:Hid (MG (aA B ps) i r []->FX w b W B ps i (.returned (.int .i64 r)) w2):=λh=>
  ⟨r,[],W,rfl,.inl rfl,by rw[bu];exact wC.out.keep fL.out (by simp) (by simp),fL.out.mono (by simp),by simp,h⟩
 by_cases Ki:r=0
 ·subst Ki
  have z:eG (aA B ps) i n own:=by
   rcases HR.out with ⟨h,-⟩|⟨h,-⟩|⟨h,-⟩|⟨-,h⟩
   ·omega
   ·omega
   ·omega
   ·exact h
  have aK:own.length<=32:=by have h1:=z.ownLen;have V:=ui z.right;omega
  have aS:(dn n).length<=13:=zJ _ _;have hi:=z.rng;have af:gF i=((824+8*i.toNat:Nat):Int):=by rw[gF,aB (by omega)];omega
  rw[af] at ae;have av:∀k,0<=n.B.getD k 0:=λk=>(tX z.right HB.out k).1
  have U:w2.ownsRow w.heap.size 3 1 va own.length (dE own):=by
   obtain⟨⟨h0,h5⟩,V⟩:=N7.out;rcases h5 with h5|⟨g',cap,aQ,e1,e2,e3⟩
   ·exact⟨h0,.inl h5⟩
   ·exact⟨h0,.inr ⟨g',cap,aQ,e1,by have :=aJ.out;omega,e3⟩⟩
  have HW:=au (Rp fL.out U n v HB.out av (by omega));have aG:=au z;have HI:=au hi;have G:Hid ((own++dn n).length<=45):=by show _<=_;rw[aD];omega
  clear HR jC z aK aS af av U hi;generalize OY:aR n v=ZN at *;clear OY;generalize aR cr (.slice none 0 0)=ZZ at *;go_wp2_with(first|(with_reducible refine gS 111 ov.out ?_)|(with_reducible refine gL 111 qN.out ?_));refine HW.out.mono ?_;rintro e w3 ⟨u,rfl,hu,J⟩;obtain⟨gu,aC,Zr⟩:=lq.of_row hu;have mV:=au J;have ay:=au (Ro (wC.out.keep J (by simp) (by simp)) tu.out (by have :=J.size;omega) (by have :=yI.out;omega) aC.reads (by have :=G.out;omega) (λ_=>by omega));clear hu J aC Zr HW;go_wp2_with fail;refine ay.out.mono ?_;rintro e w4 ⟨rfl,aa,aH,ar,ak⟩;have aF:=vG (own++dn n) (aA B ps);have E0:=au (rf ar (by have :=yI.out;have :=G.out;rw[aD];omega) (824+8*i.toNat) (by have :=HI.out;omega) (List.replicate 8 0) (by simp));rw[abg] at E0;have pW:Hid (az [b,W] w w4):=(mV.out.mono (by simp)).trans' ak;have aL:Hid (aa=W\/(w.heap.size<=aa/\aa<w4.heap.size)):=by
   have :=mV.out.size;show _\/_;omega
  have Q5:=au aF;clear aH ar ak aF ay;generalize ((824+8*i.toNat:Nat):Int)=pi at *;go_wp2_with fail;refine(ae.out _).mono ?_;rintro e w' ⟨rfl,rfl⟩;go_wp2_with fail;refine E0.out.mono ?_;rintro e w5 ⟨rfl,aN,aI,ah,j6⟩;have HP:Hid (FX w b W B ps i (.returned (.int .i64 0)) w5):=by
   have h1:=aL.out;have V:=pW.out.size;have h3:=j6.size;refine⟨0,vH (aA B ps) i.toNat n own,aN,rfl,by omega,by unfold vH;rw[<-ba];exact ah,pW.out.trans j6 (by intro x hx;simp only[aP,aM,bz] at hx ⊢;omega),?_,.inr (.inr (.inr ⟨rfl,n,own,aG.out,rfl⟩))⟩;have h4:=Q5.out;have h5:=G.out;unfold vH;rw[aD,nW];omega
  clear aI ah j6 E0;go_wp2_with fail;go_ret;exact HP.out
 ·have hd:MG (aA B ps) i r []:=by
   rcases HR.out with ⟨h1,V,-⟩|⟨h1,V,h3,-⟩|⟨h1,V,h3,h4,-⟩|⟨h,-⟩
   ·exact .inl ⟨h1,V,rfl⟩
   ·exact .inr (.inl ⟨h1,V,h3,rfl⟩)
   ·exact .inr (.inr (.inl ⟨h1,V,h3,h4,rfl⟩))
   ·exact absurd h Ki
  have HP:=au (jC.out hd);have e0:(r != 0)=true:=bne_iff_ne.2 Ki;clear hd jC HR ae Ki;generalize aR n v=ZN at *;generalize aR cr (.slice none 0 0)=ZZ at *;go_wp2_with(with_reducible refine gS 111 ov.out ?_);go_ret;exact HP.out
theorem abi (h:eO w b gp B ps)(aa:In64 (aA B ps))(i:Int):
  Calls prog 132 #[.pointer (some ⟨b,0,none⟩),.int .i64 i] w (FY w (aA B ps) i):=by
 have DC:=au (get_at h aa i);have ub:=eA;clear h aa;go_enter func132,ntmps132;go_wp2_with fail;refine DC.out.mono ?_;rintro e w1 ⟨n,v,g,own,va,ga,r,rfl,hB,hE,hg,hO,tv,V,hr⟩;obtain⟨w2,q1,q2,K0,⟨ak,ac,XF⟩,ae,aj⟩:=uk V hB hE hO tv;have ov:=au q1;have qN:=au q2;have N7:=au ac;have ah:=au XF;have fL:=au ae;have HR:=au hr;have HB:=au hB;clear hB hE hg hO tv V hr q1 q2 K0 ac XF ae aj DC;by_cases Ki:r=0
 ·subst Ki
  have z:eG (aA B ps) i n own:=by
   rcases HR.out with ⟨h,-⟩|⟨h,-⟩|⟨h,-⟩|⟨-,h⟩
   ·omega
   ·omega
   ·omega
   ·exact h
  have ai:own.length<=32:=by have h1:=z.ownLen;have h2:=ui z.right;omega
  have J:∀k,0<=n.B.getD k 0:=λk=>(tX z.right HB.out k).1
  have G:w2.ownsRow w.heap.size 3 1 va own.length (dE own):=by
   obtain⟨⟨h0,h5⟩,h2⟩:=N7.out;rcases h5 with h5|⟨g',cap,ag,e1,e2,e3⟩
   ·exact⟨h0,.inl h5⟩
   ·exact⟨h0,.inr ⟨g',cap,ag,e1,by have :=ah.out;omega,e3⟩⟩
  have HW:=au (Rp fL.out G n v HB.out J (by omega));have af:=au z;clear HR z ai J G;generalize OY:aR n v=ZN at *;clear OY;generalize aR cr (.slice none 0 0)=ZZ at *;go_wp2_with(first|(with_reducible refine gS 111 ov.out ?_)|(with_reducible refine gL 111 qN.out ?_));refine HW.out.mono ?_;rintro e w3 ⟨u,rfl,hu,W⟩;obtain⟨gu,U,Zr⟩:=lq.of_row hu;have HP:Hid (FY w (aA B ps) i (.returned u) w3):=⟨u,gu,_,rfl,U.reads,W,.inl ⟨n,own,af.out,rfl⟩,λ_=>Zr⟩;clear hu W U Zr HW;go_wp2_with fail;go_ret;exact HP.out
 ·have HP:Hid (FY w (aA B ps) i (.returned (.slice none 0 0)) w2):=by
   refine⟨_,0,[],rfl,FL _ _,fL.out,.inr ⟨λn' cM hs=> ?_,rfl⟩,λh=>absurd rfl h⟩;rcases HR.out with ⟨h1,h2,-⟩|⟨h1,h2,h3,-⟩|⟨h1,h2,h3,h4,-⟩|⟨h,-⟩
   ·exact h2 hs.rng
   ·exact hs.notFree h3
   ·exact h4 _ _ hs
   ·exact Ki h
  have e0:(r != 0)=true:=bne_iff_ne.2 Ki;clear HR Ki;generalize aR n v=ZN at *;generalize aR cr (.slice none 0 0)=ZZ at *;go_wp2_with(with_reducible refine gS 111 ov.out ?_);go_ret;exact HP.out
theorem nH.free(h:nH X i n r qs)(hi:0<=i/\i<32)(W:dP X i):
  (r=1/\¬bZ n/\qs=[])\/(r=7/\bZ n/\(aZ X).length<dz n/\qs=[])\/(r=0/\bZ n/\dz n<=(aZ X).length/\qs=lH X i.toNat n []):=by
 rcases h with ⟨J,G,z⟩|⟨-,-,G,-⟩|⟨own,J,G,z⟩
 ·exact .inl ⟨J,λhR=>G ⟨hi,hR⟩,z⟩
 ·exact absurd W G
 ·have ho:own=[]:=by
   rcases G with ⟨-,h⟩|⟨m,h⟩
   ·exact h
   ·exact absurd W h.notFree
  subst ho;rcases z with ⟨z,U,V⟩|⟨z,U,V⟩
  ·exact .inr (.inl ⟨z,J.2,U,V⟩)
  ·exact .inr (.inr ⟨z,J.2,U,V⟩)
theorem nH.over{m:bP}{G:List Nat}(h:nH X i n r qs)(V:eG X i m G):
  (r=1/\¬bZ n/\qs=[])\/(r=7/\bZ n/\(aZ (aA X (cJ X G))).length<dz n/\qs=[])\/(r=0/\bZ n/\dz n<=(aZ (aA X (cJ X G))).length/\qs=lH X i.toNat n G):=by
 rcases h with ⟨U,J,z⟩|⟨-,-,-,J,-⟩|⟨own,U,J,z⟩
 ·exact .inl ⟨U,λhR=>J ⟨V.rng,hR⟩,z⟩
 ·exact absurd V (J _ _)
 ·have ho:own=G:=by
   rcases J with ⟨h,-⟩|⟨m',h⟩
   ·exact absurd h V.notFree
   ·exact(V.uniq h).2
  subst ho;rcases z with ⟨z,W,h5⟩|⟨z,W,h5⟩
  ·exact .inr (.inl ⟨z,U.2,W,h5⟩)
  ·exact .inr (.inr ⟨z,U.2,W,h5⟩)
def abj (X:List Int) (n:bP) (i r:Int) (qs:List (Int×Int)):Prop:=
 (r=7/\i=0/\(∀k:Nat,k<32->¬dP X (k:Int))/\qs=[])\/
 ∃j:Nat,j<32/\dP X (j:Int)/\(∀k:Nat,k<j->¬dP X (k:Int))/\((r=1/\i=0/\¬bZ n/\qs=[])\/(r=7/\i=0/\bZ n/\(aZ X).length<dz n/\qs=[])\/(r=0/\i=(j:Int)/\bZ n/\dz n<=(aZ X).length/\qs=lH X j n []))
def Kj (w:World) (b z:Nat) (B:List Int) (ps:List (Int×Int)) (n:bP) (e:Ending) (w':World):Prop:=
 ∃i r qs h,e= .returned (.tuple #[.int .i64 i,.int .i64 r])/\(h=z\/(w.heap.size<=h/\h<w'.heap.size))/\eO w' b h B (ps++qs)/\az [b,z] w w'/\qs.length<=700/\abj (aA B ps) n i r qs
theorem TW{J:Nat}(h:eO w b J B ps)(ar:In64 (aA B ps))(hT:∀z,az [b,J] w z->kg z)(Gz:J<w.heap.size)(ah:ps.length<=700000)(n:bP)(v:Value)(g:Nat)(hB:n.B.length=13)(hE:bC w v g n.E)
  (hN:∀k,k<n.E.length->(eU n.E k).size<=9223372036854775807) (ai:n.E.length≠0->g≠b/\g≠J):
  Calls prog 147 #[.pointer (some ⟨b,0,none⟩),.agg (aR n v)] w (Kj w b J B ps n):=by
 have dt:az [] w (w.alloc (.cells (aR n v) 111)):=(az.refl _ _).alloc _;have aa:=bh.new w (aR n v) 111;obtain⟨X,hX⟩:∃X,aA B ps=X:=⟨_,rfl⟩;obtain⟨W0,ae⟩:∃W0,w.alloc (.cells (aR n v) 111)=W0:=⟨_,rfl⟩;rw[ae] at dt aa;have p9:Hid (∀z,az [] W0 z->(loadVar 111 ⟨w.heap.size,0,none⟩).run prog z= .ok (.agg (aR n v)) z):=λz V=>ct (aa.keep V (by simp)) hB
 have yU:Hid (∀z (i:Int),az [] W0 z->Calls prog 129 #[.pointer (some ⟨b,0,none⟩),.int .i64 i] z λe w'=>e= .returned (.bool (decide ((0<=i/\i<32)/\dP X i)))/\az [] z w'):=λz i V=>by
  have :=Ed (h.keep (dt.trans' V) (by simp) (by simp)) i;rwa[hX] at this
 have Cl:Hid (∀z (i:Int),az [] W0 z->Calls prog 49 #[.pointer (some ⟨b,0,none⟩),.int .i64 i,.agg (aR n v)] z (λe w'=>∃r qs G,e= .returned (.int .i64 r)/\(G=J\/(w.heap.size<=G/\G<w'.heap.size))/\eO w' b G B (ps++qs)/\az [b,J] w w'/\qs.length<=700/\nH X i n r qs)):=λz i V=>by
  have wM:=dt.trans' V;have :=um (h.keep wM (by simp) (by simp)) ar (λwy hy=>hT wy ((wM.mono (by simp)).trans' hy)) (by have :=wM.size;omega) ah i n v g hB (hE.keep wM (by simp)) hN ai;refine this.mono ?_;rintro e w' ⟨r,qs,G,U,W,h3,h4,h5,h6⟩;rw[hX] at h6;exact⟨r,qs,G,U,by have :=wM.size;omega,h3,(wM.mono (by simp)).trans' h4,h5,h6⟩
 have jC:Hid (∀z,az [] W0 z->(∀k:Nat,k<32->¬dP X (k:Int))->Kj w b J B ps n (.returned (.tuple #[.int .i64 0,.int .i64 7])) z):=λz V hf=>
  ⟨0,7,[],J,rfl,.inl rfl,by rw[bu];exact h.keep (dt.trans' V) (by simp) (by simp),(dt.trans' V).mono (by simp),by simp,.inl ⟨rfl,rfl,by rw[hX];exact hf,rfl⟩⟩
 have ac:Hid (∀z i r qs G,(G=J\/(w.heap.size<=G/\G<z.heap.size))->eO z b G B (ps++qs)->az [b,J] w z->qs.length<=700->abj X n i r qs->Kj w b J B ps n (.returned (.tuple #[.int .i64 i,.int .i64 r])) z):=λz i r qs G U W h3 h4 h5=>
  ⟨i,r,qs,G,rfl,U,W,h3,h4,by rw[hX];exact h5⟩
 have qC:=au ae;clear h ar hT Gz ah hE hN ai hX ae dt aa hB;generalize aR n v=Z at *;go_enter func147,ntmps147;go_wp2_with fail;rw[qC.out];go_loopg [8] 32 (λgh s8 z=>∃k:Nat,k+gh=32/\s8= .int .i64 (k:Int)/\Hid (az [] W0 z/\∀j:Nat,j<k->¬dP X (j:Int)))
 case atStart=>exact⟨0,by omega,rfl,az.refl _ _,λj hj=>by omega⟩
 case round=>
  obtain⟨k,V,rfl,HP⟩:=hrel;cases gk with
  |zero=>
   obtain rfl:k=32:=by omega
   have HE:=au (jC.out wr HP.out.1 HP.out.2);clear V jC ac Cl yU p9;go_wp2_with fail;go_ret2;exact HE.out
  |succ gg=>
   have ak:(k:Int)<32:=by omega
   have uo:k<32:=by omega
   go_wp2_with fail;refine(yU.out wr (k:Int) HP.out.1).mono ?_;rintro e w2 ⟨rfl,ax⟩;have fL:Hid (az [] W0 w2):=HP.out.1.trans' ax;clear ax;by_cases hf:dP X (k:Int)
   ·rw[bq (show(0<=(k:Int)/\(k:Int)<32)/\dP X (k:Int) from ⟨⟨by omega,ak⟩,hf⟩)]
    have qN:=au (p9.out w2 fL.out);have HF:=au hf;clear hf;go_wp2_with(with_reducible refine gL 111 qN.out ?_);refine(Cl.out w2 (k:Int) fL.out).mono ?_;rintro e w3 ⟨r,qs,G,rfl,ag,av,aj,Rc,af⟩;have hr:=af.free ⟨by omega,ak⟩ HF.out;rw[aH] at hr;have HY:=au (λi hr=>ac.out w3 i r qs G ag av aj Rc hr);clear ag av aj Rc af jC ac Cl yU p9 qN fL V;rcases hr with ⟨rfl,U,W⟩|⟨rfl,U,W,h3⟩|⟨rfl,U,W,h3⟩
    ·have HE:=au (HY.out 0 (.inr ⟨k,uo,HF.out,HP.out.2,.inl ⟨rfl,rfl,U,W⟩⟩))
     clear U W HY uo;go_wp2_with fail;go_ret2;exact HE.out
    ·have HE:=au (HY.out 0 (.inr ⟨k,uo,HF.out,HP.out.2,.inr (.inl ⟨rfl,rfl,U,W,h3⟩)⟩))
     clear U W h3 HY uo;go_wp2_with fail;go_ret2;exact HE.out
    ·have HE:=au (HY.out (k:Int) (.inr ⟨k,uo,HF.out,HP.out.2,.inr (.inr ⟨rfl,rfl,U,W,h3⟩)⟩))
     clear U W h3 HY uo;go_wp2_with fail;go_ret2;exact HE.out
   ·rw[aS (show ¬((0<=(k:Int)/\(k:Int)<32)/\dP X (k:Int)) from λh=>hf h.2)]
    have O0:Hid (az [] W0 w2/\∀j:Nat,j<k+1->¬dP X (j:Int)):=⟨fL.out,λj hj=>by
     rcases Nat.lt_succ_iff_lt_or_eq.1 hj with h|h
     ·exact HP.out.2 j h
     ·rw[h];exact hf⟩
    clear hf;go_wp2_with fail;go_roundg gg;case measure=>omega
    case rel=>exact⟨k+1,by omega,by go_num,O0.out⟩
end Go.Proofs.YtepbpdipenedhaaGreatDoor
namespace Go.Proofs.YtepbpdipenedhaaGreatDoor
open Go.Proofs.Tryz
open Go.RowKit
open Go.RowKit
variable{J w w':World}{G U W b gp:Nat}{B X:List Int}{ps qs:List (Int×Int)}{i r:Int}{n:bP}{e:Ending}
end Go.Proofs.YtepbpdipenedhaaGreatDoor
