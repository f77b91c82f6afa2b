/- Lemmas. -/
import Derived.Test.YtcecbdeamjigiaaGreatDoorH04
import Derived.Deep.RegionHeld
set_option maxHeartbeats 8000000
set_option maxRecDepth 100000
namespace Go.Proofs.YtcecbdeamjigiaaGreatDoor
open Go.RowKit
variable{s t:Int}{l:List Int}{w w':World}{v:Value}{T g j n y:Nat}{E:List (ByteArray×Int)}{S:Nat->Value}{F:Nat->List (ByteArray×Int)}
def lN (n:bM):Int:=n.F+256*n.K+65536*n.L
structure uG (n:bM):Prop where
 f:0<=n.F/\n.F<256
 k:0<=n.K/\n.K<256
 l:0<=n.L/\n.L<65536
 s:0<=n.S/\n.S<9223372036854775808
def fE (n:bM) (l:List Int) (h:Int):List Int:=lN n::n.S::(l.take 5++[h])
theorem YT (f k m:Nat)(h:f<256)(z:k<256)(y:m<65536):bits .or .u64 (f:Int) ((k:Int)*256)=((f+k*256:Nat):Int)/\bits .or .u64 ((f+k*256:Nat):Int) ((m:Int)*65536)=((f+k*256+m*65536:Nat):Int):=by
 constructor
 ·rw[show(k:Int)*256=((k*256:Nat):Int) by omega,u64_or_nat _ _ (by omega) (by omega),Nat.or_comm,nat_join 8 _ _ (by exact Nat.mul_mod_left _ _) h,Nat.add_comm]
 ·rw[show(m:Int)*65536=((m*65536:Nat):Int) by omega,u64_or_nat _ _ (by omega) (by omega),Nat.or_comm,nat_join 16 _ _ (by exact Nat.mul_mod_left _ _) (show f+k*256<65536 by omega),Nat.add_comm]
def kO (t s:Int) (l:List Int) (k:Nat):List Int:=t::s::(cU 0 l k++[0])
theorem rf (y:l.length=5){k:Nat}(h:k<=5):(kO t s l k).length=8:=by simp[kO,iU,y,h]
theorem Ig (y:l.length=5){k:Nat}(h:k<5):(kO t s l k).set (2+k) (l.getD k 0)=kO t s l (k+1):=by
 rw[kO,show 2+k=k+1+1 by omega,ai,ai,List.set_append_left _ _ (by rw[iU _ _ _ (by omega)];omega),iN 0 l k (by omega) (l.getD k 0) (by simp[show k<l.length by omega])];rfl
theorem Ih (h:l.length=5)(x:Int):(kO t s l 5).set 7 x=t::s::(l++[x]):=by
 rw[kO,show cU 0 l 5=l by rw[<-h];exact jl 0 l,ai,ai,cZ _ _ (by omega),h];rfl
def qc (n:bM):List Int:=lN n::n.S::List.replicate 6 0
theorem yf (n:bM):(qc n).length=8:=by simp[qc]
theorem AA (n:bM)(v:Value)(hB:n.B.length=13)(ht:uG n)(w:World):
  Calls Tryz.prog 208 #[.agg (aU n v)] w λe w'=>e= .returned (.agg (aR (qc n)).toArray)/\ay [] w w':=by
 have z:=jo v hB;generalize aU n v=Z at *;have p8:=jd;have G:bm (w.alloc (.cells Z 110)) w.heap.size Z 110 :=bm.new _ _ _;have c0:∀y h,(((w.alloc (.cells Z 110)).alloc y).alloc h).cell? ⟨w.heap.size,0,none⟩=some (.int .i64 n.F):=λy h=>by rw[((G.alloc y).alloc h).cell];exact z.f0
 have c1:∀y h,(((w.alloc (.cells Z 110)).alloc y).alloc h).cell? ⟨w.heap.size,1,none⟩=some (.int .i64 n.K):=λy h=>by rw[((G.alloc y).alloc h).cell];exact z.f1
 have c2:∀y h,(((w.alloc (.cells Z 110)).alloc y).alloc h).cell? ⟨w.heap.size,2,none⟩=some (.int .i64 n.L):=λy h=>by rw[((G.alloc y).alloc h).cell];exact z.f2
 have c3:∀y h,(((w.alloc (.cells Z 110)).alloc y).alloc h).cell? ⟨w.heap.size,3,none⟩=some (.int .i64 n.S):=λy h=>by rw[((G.alloc y).alloc h).cell];exact z.f3
 obtain⟨tf,tk,tl,ts⟩:=ht;obtain⟨f,hf⟩:∃f:Nat,n.F=(f:Int):=⟨n.F.toNat,by omega⟩;obtain⟨k,hk⟩:∃k:Nat,n.K=(k:Int):=⟨n.K.toNat,by omega⟩;obtain⟨m,hm⟩:∃m:Nat,n.L=(m:Int):=⟨n.L.toNat,by omega⟩;obtain⟨s,hs⟩:∃s:Nat,n.S=(s:Int):=⟨n.S.toNat,by omega⟩;rw[hf] at c0 tf;rw[hk] at c1 tk;rw[hm] at c2 tl;rw[hs] at c3 ts;obtain⟨q1,q2⟩:=YT f k m (by omega) (by omega) (by omega);have U:Hid (((f+k*256+m*65536:Nat):Int)=lN n):=by
  show _=_;rw[lN,hf,hk,hm];omega
 generalize f+k*256+m*65536=t at *;generalize f+k*256=t1 at *;have j1:Hid (qc n=(t:Int)::(s:Int)::List.replicate 6 0):=by
  show _=_;rw[qc,<-U.out,hs]
 clear hf hk hm hs U z hB;rw[j1.out];have BG:((t:Int)::(s:Int)::List.replicate 6 0).length=8:=by simp
 have pk:bm (((w.alloc (.cells Z 110)).alloc (.cells (aR (List.replicate 8 0)).toArray 188)).alloc (.cells (((aR (List.replicate 8 0)).set 0 (.int .u64 (t:Int))).set 1 (.int .u64 (s:Int))).toArray 188)) (w.heap.size+1+1) (aR ((t:Int)::(s:Int)::List.replicate 6 0)).toArray 188 :=by
  have :=bm.new ((w.alloc (.cells Z 110)).alloc (.cells (aR (List.replicate 8 0)).toArray 188)) (((aR (List.replicate 8 0)).set 0 (.int .u64 (t:Int))).set 1 (.int .u64 (s:Int))).toArray 188;have e:((w.alloc (.cells Z 110)).alloc (.cells (aR (List.replicate 8 0)).toArray 188)).heap.size=w.heap.size+1+1:=by simp
  rw[e] at this;exact this
 have J:bm (((w.alloc (.cells Z 110)).alloc (.cells (aR (List.replicate 8 0)).toArray 188)).alloc (.cells (((aR (List.replicate 8 0)).set 0 (.int .u64 (t:Int))).set 1 (.int .u64 (s:Int))).toArray 188)) (w.heap.size+1) (aR (List.replicate 8 0)).toArray 188 :=by
  have :=(bm.new (w.alloc (.cells Z 110)) (aR (List.replicate 8 0)).toArray 188).alloc (.cells (((aR (List.replicate 8 0)).set 0 (.int .u64 (t:Int))).set 1 (.int .u64 (s:Int))).toArray 188);have e:(w.alloc (.cells Z 110)).heap.size=w.heap.size+1:=by simp
  rw[e] at this;exact this
 have HL:=ar (ea pk BG);obtain⟨w2,hS,V,W⟩:=br (P:= Tryz.prog) (ty:= 188) (cs:=aR ((t:Int)::(s:Int)::List.replicate 6 0)) (by rw[bc,BG];exact gH) J (by simp[bc]) (eu _);have HS:=ar hS;have pw:=ar (ea V BG);have gI:Hid (ay [] w w2):=((((ay.refl _ _).alloc _).alloc _).alloc _).trans W (by simp);clear pk J hS V W G;go_enter Tryz.func208,Tryz.ntmps208;go_wp2_with(first|(with_reducible refine gL 188 HL.out ?_)|(with_reducible refine gS 188 HS.out ?_));exact aK (dP Tryz.results208 rfl pw.out) rfl ⟨rfl,gI.out⟩
theorem zq (n:bM)(v:Value)(hB:n.B.length=13)(ht:uG n)(l:List Int)(hl:l.length=13)(hn:YS l)(h:Int)(h0:0<=h/\h<9223372036854775808)(w:World):
  Calls Tryz.prog 190 #[.agg (aU n v),.agg (zs l).toArray,.int .i64 h] w λe w'=>e= .returned (.agg (aR (fE n l h)).toArray)/\ay [] w w':=by
 have HH:=ar (AA n v hB ht);have p8:=jd;have vv:=ar (cH (((bm.new w (aU n v) 110).alloc (.cells (zs l).toArray 108)).alloc (.cells (aR (List.replicate 8 0)).toArray 188)) hB);have af:bm (((w.alloc (.cells (aU n v) 110)).alloc (.cells (zs l).toArray 108)).alloc (.cells (aR (List.replicate 8 0)).toArray 188)) (w.heap.size+1) (zs l).toArray 108 :=by
  have :=(bm.new (w.alloc (.cells (aU n v) 110)) (zs l).toArray 108).alloc (.cells (aR (List.replicate 8 0)).toArray 188);have e:(w.alloc (.cells (aU n v) 110)).heap.size=w.heap.size+1:=by simp
  rw[e] at this;exact this
 have ai:bm (((w.alloc (.cells (aU n v) 110)).alloc (.cells (zs l).toArray 108)).alloc (.cells (aR (List.replicate 8 0)).toArray 188)) (w.heap.size+1+1) (aR (List.replicate 8 0)).toArray 188 :=by
  have :=bm.new ((w.alloc (.cells (aU n v) 110)).alloc (.cells (zs l).toArray 108)) (aR (List.replicate 8 0)).toArray 188;have e:((w.alloc (.cells (aU n v) 110)).alloc (.cells (zs l).toArray 108)).heap.size=w.heap.size+1+1:=by simp
  rw[e] at this;exact this
 have fS:Hid (ay [] w (((w.alloc (.cells (aU n v) 110)).alloc (.cells (zs l).toArray 108)).alloc (.cells (aR (List.replicate 8 0)).toArray 188))):=(((ay.refl _ _).alloc _).alloc _).alloc _;have nY:=ar af;have qb:=ar ai;clear af ai;have U:(l.take 5).length=5:=by simp[hl]
 obtain⟨t,hT⟩:∃t,t=lN n:=⟨_,rfl⟩;obtain⟨s,V⟩:∃s,s=n.S:=⟨_,rfl⟩;have YU:Hid (qc n=kO t s (l.take 5) 0):=by
  show _=_;rw[qc,kO,iM,U,hT,V];rfl
 have j1:Hid (fE n l h=t::s::(l.take 5++[h])):=by
  show _=_;rw[fE,hT,V]
 have J6:Hid (∀i,i<5->(0<=(l.take 5).getD i 0/\(l.take 5).getD i 0<9223372036854775808)/\l.getD i 0=(l.take 5).getD i 0):=λi hi=>by
  have e:(l.take 5).getD i 0=l.getD i 0:=by simp[hi]
  rw[e];exact⟨hn i,rfl⟩
 have RN:Hid (∀i,i<13->(zs l).toArray[i]? =some (.int .i64 (l.getD i 0))):=λi hi=>by rw[aC,eR (by omega)]
 have aA:=kr h0.1 h0.2;clear hn hB ht hT V;rw[j1.out];generalize aU n v=Z at *;generalize (zs l).toArray=ZL at *;go_enter Tryz.func190,Tryz.ntmps190;go_wp2_with(with_reducible refine gL 110 vv.out ?_);refine(HH.out _).mono ?_;rintro e w1 ⟨rfl,dc⟩;rw[YU.out];obtain⟨w2,aq,GM,ap⟩:=br (P:= Tryz.prog) (ty:= 188) (cs:=aR (kO t s (l.take 5) 0)) (by rw[bc,rf U (by omega)];exact gH) (bm.new w1 (aR (List.replicate 8 0)).toArray 188) (by simp[bc,rf U]) (eu _);have az:w.heap.size+1+1<w1.heap.size:=bC qb.out.lt dc.size;have oF:ay [] (((w.alloc (.cells Z 110)).alloc (.cells ZL 108)).alloc (.cells (aR (List.replicate 8 0)).toArray 188)) w2:=(dc.alloc (.cells (aR (List.replicate 8 0)).toArray 188)).trans ap (by intro x hx;rw[au] at hx;have :=dc.size;omega);have ae:=ar (nY.out.keep oF (by simp));have ac:=ar (qb.out.keep oF (by simp));have pM:=ar (fS.out.trans' oF);have av:=ar aq;have KN:=ar GM;clear aq GM ap oF dc vv HH nY qb fS;generalize hg:w1.heap.size=g at *;go_wp2_with(with_reducible refine gS 188 av.out ?_);go_loopg [11] 5 (λgh NY wx=>∃i:Nat,i+gh=5/\NY= .int .i64 (i:Int)/\Hid (bm wx g (aR (kO t s (l.take 5) i)).toArray 188/\bm wx (w.heap.size+1+1) (aR (List.replicate 8 0)).toArray 188/\bm wx (w.heap.size+1) ZL 108/\ay [] w wx))
 case atStart=>exact⟨0,by omega,rfl,KN.out,ac.out,ae.out,pM.out⟩
 case round=>
  clear p8 KN ac ae pM;obtain⟨i,hi,rfl,HP⟩:=hrel;obtain⟨z,J,G,eI⟩:=HP.out;cases gk with
  |zero=>
   obtain rfl:i=5:=by omega
   have W:wr.cell? ⟨g,7,none⟩=some (.int .u64 ((kO t s (l.take 5) 5).getD 7 0)):=by
    rw[z.cell,aC,cC (by rw[rf U (by omega)];omega)]
   have YV:wr.frozen? ⟨g,7,none⟩=false:=z.frozen 7;have tV:=z.set 7 (.int .u64 h);rw[ag,jw,Ih U] at tV;have BG:(t::s::(l.take 5++[h])).length=8:=by simp[U]
   have HL:=ar (ea tV BG);obtain⟨w4,hS,ah,aa⟩:=br (P:= Tryz.prog) (ty:= 188) (cs:=aR (t::s::(l.take 5++[h]))) (by rw[bc,BG];exact gH) (J.other (a:=⟨g,7,none⟩) (by show w.heap.size+1+1≠g;omega) (.int .u64 h)) (by simp[bc,BG]) (eu _);have HS:=ar hS;have pw:=ar (ea ah BG);have gI:=ar ((eI.setCell (p:=⟨g,7,none⟩) (.inr (by show w.heap.size<=g;omega)) (.int .u64 h)).trans aa (by intro x hx;rw[au] at hx;omega));clear hS ah aa HP hi tV z J G eI;generalize (kO t s (l.take 5) 5).getD 7 0=y at *;go_wp2_with(first|(with_reducible refine gL 188 HL.out ?_)|(with_reducible refine gS 188 HS.out ?_));exact aK (dP Tryz.results190 rfl pw.out) rfl ⟨rfl,gI.out⟩
  |succ gg=>
   have ak:i<5:=by omega
   have aw:(i:Int)<5:=by omega
   have ax:(0:Int)<=(i:Int):=by omega
   obtain⟨Vr,Ac⟩:=J6.out i ak;have MD:wr.cell? ⟨w.heap.size+1,i,none⟩=some (.int .i64 ((l.take 5).getD i 0)):=by
    rw[G.cell,RN.out i (by omega),Ac]
   have hw:=kr Vr.1 Vr.2;have W:wr.cell? ⟨g,2+i,none⟩=some (.int .u64 ((kO t s (l.take 5) i).getD (2+i) 0)):=by
    rw[z.cell,aC,cC (by rw[rf U (by omega)];omega)]
   have YV:wr.frozen? ⟨g,2+i,none⟩=false:=z.frozen _;have HR:Hid (bm (wr.setCell ⟨g,2+i,none⟩ (.int .u64 ((l.take 5).getD i 0))) g (aR (kO t s (l.take 5) (i+1))).toArray 188/\bm (wr.setCell ⟨g,2+i,none⟩ (.int .u64 ((l.take 5).getD i 0))) (w.heap.size+1+1) (aR (List.replicate 8 0)).toArray 188/\bm (wr.setCell ⟨g,2+i,none⟩ (.int .u64 ((l.take 5).getD i 0))) (w.heap.size+1) ZL 108/\ay [] w (wr.setCell ⟨g,2+i,none⟩ (.int .u64 ((l.take 5).getD i 0)))):=by
    refine⟨?_,J.other (by show w.heap.size+1+1≠g;omega) _,G.other (by show w.heap.size+1≠g;omega) _,eI.setCell (.inr (by show w.heap.size<=g;omega)) _⟩;have :=z.set (2+i) (.int .u64 ((l.take 5).getD i 0));rw[ag,jw,Ig U ak] at this;exact this
   clear HP z J G eI Ac;generalize (l.take 5).getD i 0=x at *;generalize (kO t s (l.take 5) i).getD (2+i) 0=y at *;go_wp2_with fail;go_roundg gg;case measure=>omega
   case rel=>exact⟨i+1,by omega,by go_num,HR.out⟩
def dR (E:List (ByteArray×Int)):List Int:=E.flatMap λp=>[((iY (bl p.1):Nat):Int),p.2]
theorem iZ (E:List (ByteArray×Int)):(dR E).length=E.length*2:=by
 induction E with
 |nil=>rfl
 |cons p E ih=>simp[dR] at ih ⊢;omega
theorem Dm (E F:List (ByteArray×Int)):dR (E++F)=dR E++dR F:=by simp[dR]
theorem rh (E:List (ByteArray×Int)):∀k,k<E.length->(dR E).getD (k*2) 0=((iY (bl (eh E k)):Nat):Int)/\(dR E).getD (k*2+1) 0=gT E k:=by
 induction E with
 |nil=>intro k h;simp at h
 |cons p E ih=>
  intro k h;have y:dR (p::E)=((iY (bl p.1):Nat):Int)::p.2::dR E:=rfl;cases k with
  |zero=>rw[y];exact⟨rfl,rfl⟩
  |succ k=>
   have :=ih k (by simpa using h);rw[y,show(k+1)*2=k*2+1+1 by omega,Hp,Hq];exact this
theorem BH (E:List (ByteArray×Int))(n:Nat)(h:n<E.length):E.take (n+1)=E.take n++[(eh E n,gT E n)]:=by
 rw[bt h];have :E.getD n (ByteArray.empty,0)=E[n]:=by simp[h]
 rw[eh,gT,this]
theorem yg (E:List (ByteArray×Int))(j:Nat)(h:j<E.length):dR (E.take (j+1))=dR (E.take j)++[((iY (bl (eh E j)):Nat):Int),gT E j]:=by
 rw[BH E j h,Dm];rfl
structure rR (E:List (ByteArray×Int)):Prop where
 len:E.length<=10000
 size:∀k,k<E.length->(eh E k).size<=9223372036854775807
 ino:∀k,k<E.length->0<=gT E k/\gT E k<9223372036854775808
theorem uH (hE:bz w v g E)(W:rR E):
  Calls Tryz.prog 209 #[v] w (gC w (dR E)):=by
 obtain⟨a,cap,rfl,nz,nB,uv⟩:=hE.open;unfold maxLen at nB;obtain⟨i0,hi,af,ac,aa⟩:=cJ Tryz.info_u64;have ah:=W.len;have rO:=sM (2*E.length) (by omega) (2*(E.length:Int)) (by omega) 0 (.inl rfl) w;rw[show((0:Nat):Int)=0 from rfl] at rO;have XB:Hid ((w.alloc (.cells (madeCells #[.int .u64 0] (2*E.length)) 55)).ownsRow w.heap.size 55 1 (.slice (some ⟨w.heap.size,0,none⟩) 0 (2*E.length)) 0 (aR (dR (E.take 0)))):=
  ⟨rfl,.inr ⟨w.heap.size,2*E.length,madeCells #[.int .u64 0] (2*E.length),rfl,aG _,bm.new _ _ _,by omega,by unfold maxLen;omega,by simp[madeCells],by simp[dR,aR]⟩⟩
 have fS:Hid (ay [] w (w.alloc (.cells (madeCells #[.int .u64 0] (2*E.length)) 55))):=(ay.refl _ _).alloc _;have HW:Hid (∀j,j<E.length->∀G,Calls Tryz.prog 218 #[.string (eh E j)] G λe w'=>e= .returned (.tuple #[.int .u64 (iY (bl (eh E j)):Nat),.bool (fN (bl (eh E j)))])/\ay [] G w'):=λj J G=>
  FE _ (W.size _ J) G
 have Ay:Hid (∀j,j<E.length->0<=gT E j/\gT E j<9223372036854775808):=λj J=>W.ino _ J
 have YW:Hid (∀j,j<E.length->aR (dR (E.take (j+1)))=aR (dR (E.take j))++[.int .u64 ((iY (bl (eh E j)):Nat):Int),.int .u64 (gT E j)]):=λj J=>by
  rw[yg E j J,lr];rfl
 have Ad:Hid (E.take E.length=E):=fz;have XC:Hid ((dR E).length=E.length*2):=iZ E;clear hE W;generalize hn:E.length=n at *;clear hn;generalize (madeCells #[.int .u64 0] (2*n))=MC at *;go_enter Tryz.func209,Tryz.ntmps209;go_wp2_with fail;clear rO;go_loopg [3,14] n (λgh s3 s14 G=>∃j:Nat,j+gh=n/\s14= .int .i64 (j:Int)/\Hid (G.ownsRow w.heap.size 55 1 s3 (2*j) (aR (dR (E.take j)))/\ay [] w G))
 case atStart=>exact⟨0,by omega,rfl,XB.out,fS.out⟩
 case round=>
  clear XB fS;obtain⟨j,J,rfl,U⟩:=hrel;cases gk with
  |zero=>
   obtain rfl:j=n:=by omega
   have HM:Hid (gC w (dR E) (.returned u3) wr):=by
    obtain⟨z,hk⟩:=U.out;rw[Ad.out] at z;obtain⟨gg,XD,hg⟩:=eE.of_row z;by_cases h0:2*j=0
    ·exact⟨u3,w.heap.size,rfl,XD.reads.anyG (by
      have :(dR E).length=0:=by rw[XC.out];omega
      rw[bg this];rfl) _,aG _,hk⟩
    ·exact⟨u3,gg,rfl,XD.reads,(hg h0).1,hk⟩
   clear U J;go_wp2_with fail;go_ret;exact HM.out
  |succ gk=>
   have Z:j<n:=by omega
   have ai:(j:Int)<(n:Int):=by omega
   have zi:(0:Int)<=(j:Int):=by omega
   obtain⟨se,off,rfl,e0,e1⟩:=uv.out j Z;have V:=ar U.out.1;have gI:=ar U.out.2;have eI:=U.out.2;have c0:=(aL (w:=w) (a:=⟨g,off+j*2,none⟩) (eI.block g se (by simp))).trans e0;have c1:=(aL (w:=w) (a:=⟨g,off+j*2+1,none⟩) (eI.block g se (by simp))).trans e1;have ag:=ar (HW.out j Z);obtain⟨n0,n1⟩:=Ay.out j Z;have hw:=kr n0 n1;have J8:=ar (YW.out j Z);have ak:=eI.size;clear e0 e1 U eI;generalize eh E j=nm at *;generalize gT E j=ino at *;obtain⟨a3,ae,rfl,q1,q2⟩:=gD V.out;generalize hT:aR (dR (E.take j))=T at *;have HT:=ar hT;clear hT;go_wp2_with fail;refine(ag.out _).mono ?_;rintro e w1 ⟨rfl,dc⟩;have J9:=(bm.new wr #[.string nm,.int .i64 ino] 88).keep dc (by simp);have z6:=ar (cO (cO V.out ((ay.refl [] wr).alloc (.cells #[.string nm,.int .i64 ino] 88)) (by simp)) dc (by simp));have d1:w1.cell? ⟨wr.heap.size,1,none⟩=some (.int .i64 ino):=by rw[J9.cell];rfl
   have iH:=ar ((gI.out.alloc (.cells #[.string nm,.int .i64 ino] 88)).trans' dc);have aj:w.heap.size<=w1.heap.size:=iH.out.size;clear dc J9;generalize iY (bl nm)=wv at *;have vZ:2*j<=20000:=by omega
   go_wp2_with(at_builtin;refine dE _ rfl _ _ 69 rfl w.heap.size 55 i0 (.int .u64 0) 1 8 Tryz.underlying69 hi af ac aa rfl (by decide) (.slice a3 (2*j) ae) (2*j) _ rfl (z6.out.alloc _) ⟨w1.heap.size,0,none⟩ 2 2 [.int .u64 (wv:Int),.int .u64 ino] rfl rfl ?c1 ?c2 (by unfold maxLen;omega) (by omega) (by simp;omega) ?_);case c1=>exact iP _ [_,_] _ _ rfl
   case c2=>simp[Value.oneCell']
   intro v' w2 h y _;have MF:=ar h;have fj:=ar ((iH.out.alloc _).grown y (cE z6.out));clear h y;go_wp2_with fail;go_roundg gk;case measure=>omega
   case rel=>
    refine⟨j+1,by omega,by go_num,?_,fj.out⟩;have :=MF.out;rw[show 2*(j+1)=2*j+2 by omega,J8.out];exact this
structure Vs (W:Nat) (w1 w2:World):Prop where
 st:(storeVar 196 ⟨w1.heap.size,0,none⟩ (.agg (mi (jH W)).toArray)).run Tryz.prog (w1.alloc (.cells (mi (List.replicate 8 0)).toArray 196))= .ok () w2
 c7:w2.cell? ⟨w1.heap.size,7,none⟩=some (.int .u8 (nO W 7:Nat))
 conv:nO W 7<=7->(convert 31 9 (.slice (some ⟨w1.heap.size,0,none⟩) (nO W 7) 8)).run Tryz.prog w2= .ok (.string (sg ((jH W).take (nO W 7)))) w2
 keeps:ay [] w1 w2
theorem Vt (W:Nat)(h:World):∃y,Vs W h y:=by
 obtain⟨y,Z,z,hk⟩:=sY (l:=List.replicate 8 0) (by simp) (kh W) (bm.new h (mi (List.replicate 8 0)).toArray 196);have J:∀j,j<8->y.cell? ⟨h.heap.size,j,none⟩=some (.int .u8 (nO W j:Nat)):=λj G=>by
  rw[z.cell,<-sJ W j G];simpa using wN (l:=jH W) (j:=j) (by rw[kh];omega)
 refine⟨y,Z,J 7 (by omega),λh7=> ?_,((ay.refl [] h).alloc _).trans hk (by simp)⟩;have U:(((jH W).take (nO W 7)).map UInt8.ofNat).length=nO W 7:=by simp[kh];omega
 have :=run_convert_bytes_back (P:= Tryz.prog) y 31 9 5 ⟨h.heap.size,0,none⟩ 8 (((jH W).take (nO W 7)).map UInt8.ofNat) Tryz.underlying31 Tryz.underlying5 Tryz.underlying9 λj G=>by
  rw[U] at G;have V:(⟨h.heap.size,0,none⟩:Addr).add j=⟨h.heap.size,j,none⟩:=by unfold Addr.add;split<;>simp_all
  rw[V,J j (by omega)];have z:=xN W j;simp[jH,Nat.mod_eq_of_lt z]
 rw[U] at this;exact this
theorem Ii (b n:Nat)(y:n<=7)(w:World):(Instr.sliceAt 196 (.pointer (some ⟨b,0,none⟩)) none (some (.int .i64 (n:Int))) none).run Tryz.prog w= .ok (.slice (some ⟨b,0,none⟩) n 8) w:=by
 have h:n=0\/n=1\/n=2\/n=3\/n=4\/n=5\/n=6\/n=7:=by omega
 rcases h with rfl|rfl|rfl|rfl|rfl|rfl|rfl|rfl<;>(show Sem.run _ _ _=_;kernel_rfl)
theorem Vu (W:Nat)(w:World):
  Calls Tryz.prog 217 #[.int .u64 (W:Int)] w λe w'=>e= .returned (.tuple #[.string (sg ((iL W).getD [])),.bool (iL W).isSome])/\ay [] w w':=by
 have HB:=ar (Bt W w);have aa:=xN W 7;go_enter Tryz.func217,Tryz.ntmps217;go_wp2_with fail;refine HB.out.mono ?_;rintro e w1 ⟨rfl,dc⟩;obtain⟨w2,hm⟩:=Vt W w1;have c7:=hm.c7;have V:=ar hm;have HK:=ar (dc.trans hm.keeps (by simp));clear hm dc HB;by_cases h7:nO W 7<=7
 ·have ac:=V.out.conv h7
  have Z:∀c∈(jH W).take (nO W 7),c<256:=Mp (Mo W) _;have z:=FE (sg ((jH W).take (nO W 7))) (by rw[Ep];simp[kh];omega) w2;rw[My Z] at z;unfold iY at z;have G:Hid (iL W=if fN ((jH W).take (nO W 7))=true/\nH ((jH W).take (nO W 7))=W then some ((jH W).take (nO W 7)) else none):=by
   show iL W=_;unfold iL;simp only[h7,true_and]
  generalize (jH W).take (nO W 7)=l at *;clear Z;generalize nO W 7=n at *;have z:=ar z;have BI:=λwz=>Ii w1.heap.size n h7 wz
  have ae:decide (7<(n:Int))=false:=by simp;omega
  cases hg:fN l
  ·rw[hg,aA (by simp)] at z
   rw[hg,aA (by simp)] at G;clear hg;go_wp2_with(first|(with_reducible refine gS 196 V.out.st ?_)|(go_at_call 218;refine z.out.mono ?_;rintro e w3 ⟨rfl,y⟩;have U:=ar y;clear y));go_ret2;exact⟨by rw[G.out];rfl,HK.out.trans U.out (by simp)⟩
  ·rw[hg,aB rfl] at z
   rw[hg] at G;clear hg;by_cases J:nH l=W
   ·rw[aB ⟨rfl,J⟩] at G
    rw[J] at z;clear J;go_wp2_with(first|(with_reducible refine gS 196 V.out.st ?_)|(go_at_call 218;refine z.out.mono ?_;rintro e w3 ⟨rfl,y⟩;have U:=ar y;clear y));go_ret2;exact⟨by rw[G.out];rfl,HK.out.trans U.out (by simp)⟩
   ·rw[aA (λh=>J h.2)] at G
    have e1:((nH l:Int) != (W:Int))=true:=by simp;omega
    clear J;go_wp2_with(first|(with_reducible refine gS 196 V.out.st ?_)|(go_at_call 218;refine z.out.mono ?_;rintro e w3 ⟨rfl,y⟩;have U:=ar y;clear y));go_ret2;exact⟨by rw[G.out];rfl,HK.out.trans U.out (by simp)⟩
 ·have G:Hid (iL W=none):=by
   show iL W=none;unfold iL;rw[aA (λh=>h7 h.1)]
  generalize nO W 7=n at *;go_wp2_with(first|(with_reducible refine gS 196 V.out.st ?_));go_ret2;exact⟨by rw[G.out];rfl,HK.out⟩
def jq (L:List Int) (n:Nat):List (ByteArray×Int):=(List.range n).map λk=>(sg ((iL (L.getD (k*2) 0).toNat).getD []),L.getD (k*2+1) 0)
def mM (L:List Int) (n:Nat):Prop:=∀k,k<n->(iL (L.getD (k*2) 0).toNat).isSome=true/\L.getD (k*2+1) 0<32
theorem gU (L:List Int)(n:Nat):(jq L n).length=n:=by simp[jq]
theorem yh (L:List Int)(n e:Nat)(h:e<n):eh (jq L n) e=sg ((iL (L.getD (e*2) 0).toNat).getD [])/\gT (jq L n) e=L.getD (e*2+1) 0:=by
 have :(jq L n).getD e (ByteArray.empty,0)=(sg ((iL (L.getD (e*2) 0).toNat).getD []),L.getD (e*2+1) 0):=by
  rw[jq,aj,bD,b7 h];rfl
 rw[eh,gT,this];exact⟨rfl,rfl⟩
theorem uI (L:List Int)(n e:Nat)(h:e<n):(jq L n)[e]'(by rw[gU];exact h)=(sg ((iL (L.getD (e*2) 0).toNat).getD []),L.getD (e*2+1) 0):=by simp[jq]
theorem Tryz.info_entry:(Tryz.prog.info? 88).map (λi=>(i.zero,i.size,i.bytes))=some (some (.agg #[.string ⟨#[]⟩,.int .i64 0]),2,24):=by kernel_rfl
theorem NZ (n:Nat)(V:n<=100000)(m:Int)(J:m=(n:Int))(w:World):(Instr.makeSlice 32 (.int .i64 m) (.int .i64 m)).run Tryz.prog w=
  .ok (.slice (some ⟨w.heap.size,0,none⟩) n n) (w.alloc (.cells (madeCells #[.string ⟨#[]⟩,.int .i64 0] (n*2)) 88)):=by
 subst J;obtain⟨U,G,z,y,h⟩:=cJ Tryz.info_entry;have :=run_make (P:= Tryz.prog) w 32 88 U _ Tryz.underlying32 G z .i64 .i64 (n:Int) (n:Int) (by omega) (by omega) (by rw[h];omega) (by omega);rw[y,aH] at this;exact this
theorem zr (n:Nat):(madeCells #[Value.string ⟨#[]⟩,Value.int .i64 0] (n*2)).toList=dK (List.replicate n (ByteArray.empty,0)):=by
 apply b8;intro j;simp only[madeCells,Array.toList_map,Array.toList_range,bD];by_cases z:j<n*2
 ·rw[b7 z]
  have y:=mo (List.replicate n (ByteArray.empty,(0:Int))) (j/2) (by simp;omega);have G:eh (List.replicate n (ByteArray.empty,(0:Int))) (j/2)=ByteArray.empty:=by
   simp[eh,aY];split<;>rfl
  have J:gT (List.replicate n (ByteArray.empty,(0:Int))) (j/2)=0:=by
   simp[gT,aY];split<;>rfl
  rw[G,J] at y;rcases (show j%2=0\/j%2=1 by omega) with h|h
  ·rw[show j/2*2=j by omega] at y
   rw[y.1];simp[h];rfl
  ·rw[show j/2*2+1=j by omega] at y
   rw[y.2];simp[h]
 ·rw[aO (by simpa using z),aO (by rw[iE,bh];omega)];rfl
theorem N0 (w:World)(n:Nat)(y:n<=100000):eE (w.alloc (.cells (madeCells #[.string ⟨#[]⟩,.int .i64 0] (n*2)) 88)) (.slice (some ⟨w.heap.size,0,none⟩) n n) w.heap.size 88 2 n (dK (List.replicate n (ByteArray.empty,0))):=by
 have h:(madeCells #[Value.string ⟨#[]⟩,Value.int .i64 0] (n*2)).size=n*2:=by rw[<-df,zr,iE,bh]
 refine⟨by rw[iE,bh],_,n,rfl,aG _,by unfold maxLen;omega,λ_=>⟨rfl,_,bm.new _ _ _,h,?_⟩⟩;rw[zr,aQ (by rw[iE,bh];omega)]
theorem KO (l:List (ByteArray×Int))(a:ByteArray)(x:Int):∀k,((dK l).set (k*2) (.string a)).set (k*2+1) (.int .i64 x)=dK (l.set k (a,x)):=by
 induction l with
 |nil=>intro k;rfl
 |cons p l ih=>
  intro k;have h:∀(p:ByteArray×Int) l,dK (p::l)= .string p.1:: .int .i64 p.2::dK l:=λ_ _=>rfl
  cases k with
  |zero=>rfl
  |succ k=>rw[h,ai,h,<-ih k,show(k+1)*2=k*2+1+1 by omega];rfl
theorem eE.ent{l:List (ByteArray×Int)}(h:eE w v g T 2 n (dK l))(k:Nat)(a:ByteArray)(x:Int):
  eE ((w.setCell ⟨g,k*2,none⟩ (.string a)).setCell ⟨g,k*2+1,none⟩ (.int .i64 x)) v g T 2 n (dK (l.set k (a,x))):=by
 have :=(h.set (k*2) (.string a)).set (k*2+1) (.int .i64 x);rw[KO] at this;exact this
def lC (w:World) (L:List Int) (n:Nat) (e:Ending) (w':World):Prop:=
 (∃g,e= .returned (.tuple #[.slice (some ⟨g,0,none⟩) n n,.bool true])/\eE w' (.slice (some ⟨g,0,none⟩) n n) g 88 2 n (dK (jq L n))/\w.heap.size<=g/\mM L n/\ay [] w w')\/
 (e= .returned (.tuple #[.slice none 0 0,.bool false])/\¬mM L n/\ay [] w w')
theorem rS{L:List Int}(h:Reads w v g (aR L))(hL:L.length<=1000)(n:Nat)(hn:n=L.length/2)(eT:∀k,0<=L.getD k 0/\L.getD k 0<18446744073709551616):
  Calls Tryz.prog 207 #[v] w (lC w L n):=by
 obtain⟨a,cap,rfl,h1,h2,HC⟩:=fM h;have H:=ar h;have hq:((L.length:Int)).tdiv 2=(n:Int):=by rw[hn,Int.ofNat_tdiv];rfl
 have rO:=NZ n (by omega) (n:Int) rfl w;have ac:Hid (eE (w.alloc (.cells (madeCells #[.string ⟨#[]⟩,.int .i64 0] (n*2)) 88)) (.slice (some ⟨w.heap.size,0,none⟩) n n) w.heap.size 88 2 n (dK (cU (ByteArray.empty,0) (jq L n) 0))):=by
  have :=N0 w n (by omega);rw[iM,gU];exact this
 have fS:Hid (ay [] w (w.alloc (.cells (madeCells #[.string ⟨#[]⟩,.int .i64 0] (n*2)) 88))):=(ay.refl _ _).alloc _;have pw:Hid (2*n<=L.length):=by show _<=_;omega
 have aj:n<=500:=by omega
 have sf:=ar eT;generalize hm:L.length=m at *;clear h eT hn hL hm;generalize madeCells #[Value.string ⟨#[]⟩,Value.int .i64 0] (n*2)=MC at *;go_enter Tryz.func207,Tryz.ntmps207;go_wp2_with fail;clear rO;go_loopg [15] n (λgh s15 Z=>∃k:Nat,k+gh=n/\s15= .int .i64 (k:Int)/\Hid (eE Z (.slice (some ⟨w.heap.size,0,none⟩) n n) w.heap.size 88 2 n (dK (cU (ByteArray.empty,0) (jq L n) k))/\(∀j,j<k->(iL (L.getD (j*2) 0).toNat).isSome=true/\L.getD (j*2+1) 0<32)/\ay [] w Z))
 case atStart=>exact⟨0,by omega,rfl,ac.out,λj hj=>by omega,fS.out⟩
 case round=>
  clear ac fS;obtain⟨k,hk,rfl,V⟩:=hrel;cases gk with
  |zero=>
   obtain rfl:k=n:=by omega
   have HM:Hid (lC w L k (.returned (.tuple #[.slice (some ⟨w.heap.size,0,none⟩) k k,.bool true])) wr):=by
    obtain⟨ho,hj,eI⟩:=V.out;have e:=jl (ByteArray.empty,(0:Int)) (jq L k);rw[gU] at e;rw[e] at ho;exact .inl ⟨_,rfl,ho,aG _,hj,eI⟩
   clear V hk;go_wp2_with fail;go_ret2;exact HM.out
  |succ gk=>
   have xG:k<n:=by omega
   have ag:(k:Int)<(n:Int):=by omega
   have ez:(0:Int)<=(k:Int):=by omega
   obtain⟨ho,kD,eI⟩:=V.out;have pY:=ar kD;have gI:=ar eI;have af:=ar ho;obtain⟨se,off,rfl,c0⟩:=HC.out (2*k) (by have :=pw.out;omega);obtain⟨-,RO,RH,c1⟩:=HC.out (2*k+1) (by have :=pw.out;omega);cases RH;have d0:=(aL (w:=w) (a:=⟨g,off+2*k,none⟩) (eI.block g se (by simp))).trans c0;have J:Hid (∀Z,ay [] wr Z->Z.cell? ⟨g,off+(2*k+1),none⟩=some (.int .u64 (L.getD (k*2+1) 0))):=λZ ae=>by
    have :=(aL (w:=w) (a:=⟨g,off+(2*k+1),none⟩) ((eI.trans' ae).block g se (by simp))).trans c1;rw[this,Nat.mul_comm 2 k]
   have hW:=sf.out (2*k);have hI:=sf.out (k*2+1);obtain⟨W,G⟩:∃W:Nat,L.getD (2*k) 0=(W:Int):=⟨(L.getD (2*k) 0).toNat,by omega⟩;rw[G] at d0;have HW:Hid ((L.getD (k*2) 0).toNat=W):=by show _=_;rw[Nat.mul_comm k 2,G];omega
   have U:=ar (Vu W wr);have GN:2*(k:Int)+1<(m:Int):=by have :=pw.out;omega
   have ae:2*(k:Int)<(m:Int):=by have :=pw.out;omega
   have wQ:=ar (uI L n k xG);rw[HW.out] at wQ;have ak:=hI.2;have ai:=hI.1;clear c0 c1 hW hI V ho kD eI G;generalize aa:L.getD (k*2+1) 0=ino at *;have N1:=ar aa;clear aa;generalize gW:(iL W).isSome=Dn at *;have RP:=ar gW;clear gW;generalize sg ((iL W).getD [])=nm at *;have jr:Hid (¬(Dn=true/\ino<32)->¬mM L n):=λh hh=>by
    have :=hh k xG;rw[HW.out,RP.out,N1.out] at this;exact h this
   cases Dn
   ·have HN:Hid (¬mM L n):=jr.out (by simp)
    go_wp2_with fail;refine U.out.mono ?_;rintro e w6 ⟨rfl,y⟩;have d1:=J.out w6 y;have nR:=ar (gI.out.trans' y);clear y;go_wp2_with fail;go_ret2;exact .inr ⟨rfl,HN.out,nR.out⟩
   ·by_cases jt:32<=ino
    ·have HN:Hid (¬mM L n):=jr.out λh=>by have :=h.2;omega
     go_wp2_with fail;refine U.out.mono ?_;rintro e w6 ⟨rfl,y⟩;have d1:=J.out w6 y;have nR:=ar (gI.out.trans' y);clear y;go_wp2_with fail;go_ret2;exact .inr ⟨rfl,HN.out,nR.out⟩
    ·have ah:wrap64 ino=ino:=by unfold wrap64;omega
     have z:(cU (ByteArray.empty,(0:Int)) (jq L n) k).length=n:=by rw[iU _ _ _ (by rw[gU];omega),gU]
     go_wp2_with fail;refine U.out.mono ?_;rintro e w6 ⟨rfl,y⟩;have d1:=J.out w6 y;have mX:=ar (gI.out.trans' y);have YX:=af.out.keepIf y (λ_=>by simp);obtain⟨-,-,hc,hf⟩:=YX.cell (by omega);have e0:=(hc (k*2) (by omega)).trans (mo (cU (ByteArray.empty,0) (jq L n) k) k (by rw[z];exact xG)).1;have e1:=(hc (k*2+1) (by omega)).trans (mo (cU (ByteArray.empty,0) (jq L n) k) k (by rw[z];exact xG)).2;have f0:=hf (k*2);have f1:=hf (k*2+1);have HE:=ar (iN (ByteArray.empty,(0:Int)) (jq L n) k (by rw[gU];exact xG) (nm,ino) wQ.out);have V:=ar (YX.ent k nm ino);have FP:Hid (∀j,j<k+1->(iL (L.getD (j*2) 0).toNat).isSome=true/\L.getD (j*2+1) 0<32):=λj hj=>by
      by_cases e:j=k
      ·subst e
       rw[HW.out,RP.out,N1.out];exact⟨rfl,by omega⟩
      ·exact pY.out j (by omega)
     clear y YX hc hf z jr;generalize eh (cU (ByteArray.empty,(0:Int)) (jq L n) k) k=o1 at *;generalize gT (cU (ByteArray.empty,(0:Int)) (jq L n) k) k=o2 at *;go_wp2_with fail;go_roundg gk;case measure=>omega
     case rel=>
      refine⟨k+1,by omega,by go_num,?_,FP.out,(mX.out.setCell (.inr (aG _)) _).setCell (.inr (aG _)) _⟩;rw[<-HE.out];exact V.out
def KP (l:List Nat):List Value:=l.map λn:Nat=>Value.int .u64 (n:Int)
theorem Ij (l:List Nat):(KP l).length=l.length:=by simp[KP]
theorem RQ{l:List Nat}(h:j<l.length):(KP l)[j]? =some (.int .u64 (l.getD j 0:Nat)):=by simp[KP,h]
theorem rT{β:Type}(f:β->Nat->β)(l:List Nat)(h:β)(k:Nat)(y:k<l.length):(l.take (k+1)).foldl f h=f ((l.take k).foldl f h) (l.getD k 0):=by
 rw[bt y,List.foldl_append];simp[y]
theorem Vv{h c:Nat}(y:h<4294967296)(z:c<256):bits .xor .u32 (h:Int) (c:Int)*16777619%4294967296=((Xm h c:Nat):Int):=by
 rw[u32_xor_nat h c y (by omega),Xm];rfl
theorem RR{gb:Nat}{xs:List Nat}(h:Reads w v gb (KP xs)):
  Calls Tryz.prog 122 #[v] w λe w'=>e= .returned (.int .u32 (G1 xs:Nat))/\ay [] w w':=by
 obtain⟨a,cap,rfl,h1,h2,h3⟩:=h;rw[Ij] at *;unfold maxLen at h2;have H3:Hid (∀k,k<xs.length->gb<w.heap.size/\∃off,a=some ⟨gb,off,none⟩/\w.cell? ⟨gb,off+k,none⟩=some (.int .u64 (xs.getD k 0:Nat))):=λk U=>by
  obtain⟨hg,off,ho,G⟩:=h3 (by intro e;have :=ck List.length e;rw[Ij,cp] at this;omega);exact⟨hg,off,ho,(G k U).trans (RQ U)⟩
 clear h3;go_enter Tryz.func122,Tryz.ntmps122;go_wp2_with fail;go_loopg [3,10] xs.length (λg s3 Va wx=>∃k:Nat,k+g=xs.length/\Va= .int .i64 (k:Int)/\s3= .int .u32 (((xs.take k).foldl Nu 2166136261:Nat):Int)/\Hid (ay [] w wx))
 case atStart=>exact⟨0,by omega,rfl,rfl,ay.refl _ _⟩
 case round=>
  obtain⟨k,U,rfl,rfl,HK⟩:=hrel;cases gk with
  |zero=>
   obtain rfl:k=xs.length:=by omega
   have J:¬(xs.length:Int)<(xs.length:Int):=by omega
   rw[aQ (aG _)];go_wp2_with fail;go_ret;exact⟨rfl,HK.out⟩
  |succ g=>
   have J:(k:Int)<(xs.length:Int):=by omega
   obtain⟨hg,off,rfl,G⟩:=H3.out k (by omega);have W:wr.cell? ⟨gb,off+k,none⟩=some (.int .u64 (xs.getD k 0:Nat)):=by
    rw[aL (w:=w) (HK.out.block gb hg (by simp))];exact G
   have hh:=uE (xs.take k) 2166136261 (by decide);have HT:=ar (rT Nu xs 2166136261 k (by omega));generalize (xs.take k).foldl Nu 2166136261=h at *;generalize xs.getD k 0=x at *;have HB:=ar (Bt x wr);clear G;go_wp2_with(go_at_call 145;refine HB.out.mono ?_;rintro e w2 ⟨rfl,z⟩;have fj:=ar (HK.out.trans z (by simp));clear z);obtain⟨wo,rfl⟩:∃wo:World,wo=wr:=⟨_,rfl⟩;clear W;go_loopg [3,16] 8 (λZ s3 s16 wx=>∃y:Nat,y+Z=8/\s16= .int .i64 (y:Int)/\s3= .int .u32 ((((jH x).take y).foldl Xm h:Nat):Int)/\wx=w2)
   case atStart=>exact⟨0,by omega,rfl,rfl,rfl⟩
   case round=>
    obtain⟨y,z,rfl,rfl,rfl⟩:=hrel;cases gk with
    |zero=>
     obtain rfl:y=8:=by omega
     rw[aQ (by rw[kh];omega)];go_wp2_with fail;go_roundg g;case measure=>omega
     case rel=>exact⟨k+1,by omega,by go_num,by rw[HT.out];rfl,fj.out⟩
    |succ Z=>
     have N2:(y:Int)<8:=by omega
     have zW:=zm (jH x) (kh x) y (by omega);have ac:=ar (rT Xm (jH x) h y (by rw[kh];omega));have V:=wq ((jH x).take y) h hh;have aa:(jH x).getD y 0<256:=by rw[sJ x y (by omega)];exact xN _ _
     generalize ((jH x).take y).foldl Xm h=h' at *;generalize (jH x).getD y 0=c at *;have HF:=ar (Vv V aa);go_wp2_with fail;go_roundg Z;case measure=>omega
     case rel=>
      refine⟨y+1,by omega,by go_num,?_,rfl⟩;rw[ac.out,HF.out]
def nS (l:List Nat):Nat:=if fN l=true then G1 [nH l]%4 else 0
theorem N3 (s:ByteArray)(Z:s.size<=9223372036854775807)(w:World):Calls Tryz.prog 227 #[.string s] w λe w'=>e= .returned (.int .i64 (nS (bl s):Nat))/\ay [] w w':=by
 have h:=FE s Z w;unfold iY at h;unfold nS;have h:=ar h;cases hg:fN (bl s)
 ·rw[hg,aA (by simp)] at h
  rw[aA (by simp)];clear hg;go_enter Tryz.func227,Tryz.ntmps227;go_wp2_with(go_at_call 218;refine h.out.mono ?_;rintro e z ⟨rfl,G⟩;have U:=ar G;clear G);go_ret;exact⟨rfl,U.out⟩
 ·rw[hg,aB rfl] at h
  rw[aB rfl];clear hg;generalize nH (bl s)=W at *;have hq:=Fm [W];have J:=λ(z:World)=>RR (w:=z.alloc (.cells #[.int .u64 (W:Int)] 55)) (v:= .slice (some ⟨z.heap.size,0,none⟩) 1 1) (gb:=z.heap.size) (xs:=[W])
   (eE.reads (T:= 55) (n:=1) ⟨rfl,_,1,rfl,aG _,by unfold maxLen;omega,λ_=>⟨rfl,_,bm.new _ _ _,rfl,rfl⟩⟩)
  have J:=ar J;generalize G1 [W]=q at *;go_enter Tryz.func227,Tryz.ntmps227;go_wp2_with(first|(go_at_call 218;refine h.out.mono ?_;rintro e z ⟨rfl,G⟩;have U:=ar G;clear G)|(go_at_call 122;refine(J.out _).mono ?_;rintro e w2 ⟨rfl,y⟩;have V:=ar y;clear y));go_ret;exact⟨rfl,(U.out.alloc _).trans V.out (by simp)⟩
def FQ (p:ByteArray×Int):Nat:=nS (bl p.1)
theorem KQ (p:ByteArray×Int):FQ p<4:=by
 unfold FQ nS;split
 ·exact fJ _ (by decide)
 ·decide
def dA (E:List (ByteArray×Int)) (b:Nat):List (ByteArray×Int):=E.filter λp=>FQ p==b
theorem N4 (E:List (ByteArray×Int))(p:ByteArray×Int)(b:Nat):dA (E++[p]) b=if b=FQ p then dA E b++[p] else dA E b:=by
 unfold dA;rw[dV];by_cases h:b=FQ p
 ·subst h;simp
 ·have :(FQ p==b)=false:=by simp;omega
  simp[this,h]
theorem iI (E:List (ByteArray×Int))(b:Nat):(dA E b).length<=E.length:=eN _ _
structure Ae (w:World) (base:Nat) (S:Nat->Value) (F:Nat->List (ByteArray×Int)):Prop where
 row:∀b,b<4->w.ownsRow base 88 2 (S b) (F b).length (dK (F b))
 ne:∀b c,b<4->c<4->b≠c->∀g,(S b).ownBlock=some g->(S c).ownBlock≠some g
def lD (S:Nat->Value):Array Value:= #[S 0,S 1,S 2,S 3]
theorem Et (S:Nat->Value){q:Nat}(h:q<4):(lD S)[q]? =some (S q):=by
 rcases (show q=0\/q=1\/q=2\/q=3 by omega) with rfl|rfl|rfl|rfl<;>rfl
theorem N5 (S:Nat->Value){q:Nat}(h:q<4)(v:Value):(lD S).setIfInBounds q v=lD λb=>if b=q then v else S b:=by
 rcases (show q=0\/q=1\/q=2\/q=3 by omega) with rfl|rfl|rfl|rfl<;>rfl
theorem Ae.keep(h:Ae w y S F){l:List Nat}(G:ay l w w')(J:∀x,x∈l->x<y):Ae w' y S F:=
 ⟨λb z=>cO (h.row b z) G λg V U=>by have :=cE (h.row b z) g V;have :=J g U;omega,h.ne⟩
theorem Ae.nil(w:World)(h:Nat):Ae w h (λ_=> .slice none 0 0) λ_=>[]:=
 ⟨λ_ _=>⟨rfl,.inl ⟨rfl,rfl⟩⟩,λ_ _ _ _ _ g y=>by cases y⟩
theorem vx{W:Nat}{xs:List Value}(h:w.ownsRow y T W v n xs):∀k,v.ownBlock=some k->k<w.heap.size:=by
 intro k z;obtain⟨-,J⟩:=h;rcases J with ⟨G,-⟩|⟨Z,cap,V,G,-,U,-⟩
 ·rw[G] at z;cases z
 ·rw[G] at z
  cases z;exact(Array.getElem?_eq_some_iff.1 U).1
theorem Ae.grow(h:Ae w y S F){q:Nat}(hq:q<4){v:Value}{p:ByteArray×Int}{g:Nat}
  (W:w'.ownsRow y 88 2 v ((F q).length+1) (dK (F q++[p]))) (G:w.grownBy w' (S q).ownBlock) (hv:v.ownBlock=some g) (aa:(S q).ownBlock=some g\/g=w.heap.size):
  Ae w' y (λb=>if b=q then v else S b) λb=>if b=q then F b++[p] else F b:=by
 refine⟨λb z=> ?_,λb c z hc ac x Z=> ?_⟩
 ·show w'.ownsRow y _ 2 (if b=q then v else S b) (if b=q then F b++[p] else F b).length (dK (if b=q then F b++[p] else F b))
  by_cases e:b=q
  ·subst e
   rw[aB rfl,aB rfl,aF];exact W
  ·rw[aA e,aA e]
   obtain⟨h0,h1⟩:=h.row b z;refine⟨h0,?_⟩;rcases h1 with ⟨e1,J⟩|⟨g2,cap,ae,e1,J,hh,e3⟩
   ·exact .inl ⟨e1,J⟩
   ·refine .inr ⟨g2,cap,ae,e1,J,?_,e3⟩
    rw[<-hh];refine G.block g2 (Array.getElem?_eq_some_iff.1 hh).1 λe4=> ?_
    exact h.ne b q z hq e g2 (by rw[e1];rfl) e4.symm
 ·have V:∀b,b<4->b≠q->(S b).ownBlock≠some g:=λb z af Z=>by
   rcases aa with h1|h1
   ·exact h.ne b q z hq af g Z h1
   ·have :=vx (h.row b z) g Z
    omega
  show(if c=q then v else S c).ownBlock≠some x;have U:(if b=q then v else S b).ownBlock=some x:=Z;by_cases e:b=q
  ·rw[aB e,hv] at U
   cases U;rw[aA (by omega)];exact V c hc (by omega)
  ·rw[aA e] at U
   by_cases J:c=q
   ·rw[aB J,hv]
    intro h3;cases h3;exact V b z e U
   ·rw[aA J]
    exact h.ne b c z hc ac x U
theorem N6 (w:World):(zeroValue 258).run Tryz.prog w= .ok (.agg (lD λ_=> .slice none 0 0)) w:=by kernel_rfl
theorem Eu:(Tryz.prog.info? 258).map (·.size)=some 4:=by kernel_rfl
theorem Ev (h:bm w g (lD S) T):(loadVar 258 ⟨g,0,none⟩).run Tryz.prog w= .ok (.agg (lD S)) w:=
 bT g 0 [S 0,S 1,S 2,S 3] Tryz.underlying258 rfl Eu λj y=>by
  rw[h.cell,aX];unfold lD;rw[aC]
theorem Ik{J wa G:World}{Z4:Array Value}{q m z U:Nat}{p:ByteArray×Int}(y:ay [] J wa)(ag:wa.heap.size=J.heap.size+1)
  (hf:Ae J (w.heap.size+2) S (dA (E.take j))) (V:bm J (w.heap.size+1) (lD S) 258) (W:bm J w.heap.size Z4 258) (eI:ay [] w J) (hq:q<4)
  (hm:(dA (E.take j) q).length=m) (Z:G.ownsRow (w.heap.size+2) 88 2 (.slice (some ⟨z,0,none⟩) (m+1) U) (m+1) (dK (dA (E.take j) q)++[.string p.1,.int .i64 p.2]))
  (h:wa.grownBy G (S q).ownBlock) (ae:(S q).ownBlock=some z\/z=J.heap.size+1) (ac:∀b,dA (E.take (j+1)) b=if b=q then dA (E.take j) b++[p] else dA (E.take j) b):
  ∃S',bm (G.setCell ⟨w.heap.size+1,q,none⟩ (.slice (some ⟨z,0,none⟩) (m+1) U)) (w.heap.size+1) (lD S') 258/\bm (G.setCell ⟨w.heap.size+1,q,none⟩ (.slice (some ⟨z,0,none⟩) (m+1) U)) w.heap.size Z4 258/\
   Ae (G.setCell ⟨w.heap.size+1,q,none⟩ (.slice (some ⟨z,0,none⟩) (m+1) U)) (w.heap.size+2) S' (dA (E.take (j+1)))/\ay [] w (G.setCell ⟨w.heap.size+1,q,none⟩ (.slice (some ⟨z,0,none⟩) (m+1) U)):=by
 have af:=hf.keep y (by simp);have sR:∀k,(S q).ownBlock=some k->w.heap.size+2<=k:=cE (hf.row q hq);have BJ:=(h.block (w.heap.size+1) (V.keep y (by simp)).lt (λe=>by have :=sR _ e.symm;omega)).trans (V.keep y (by simp));have aa:=(h.block w.heap.size (W.keep y (by simp)).lt (λe=>by have :=sR _ e.symm;omega)).trans (W.keep y (by simp));have hF:=af.grow (p:=p) (v:= .slice (some ⟨z,0,none⟩) (m+1) U) (g:=z) hq (by rw[hm,kU];exact Z) h rfl (by rw[ag];exact ae);have hS:(λb=>if b=q then dA (E.take j) b++[p] else dA (E.take j) b)=dA (E.take (j+1)):=by
  funext b
  exact(ac b).symm
 rw[hS] at hF;refine⟨_,?_,bm.other aa (by simp) _,hF.keep ((ay.refl [w.heap.size+1] G).setCell (p:=⟨w.heap.size+1,q,none⟩) (.inl (by simp)) _) (by intro x hx;rw[au] at hx;omega),?_⟩
 ·have :=bm.set BJ q (.slice (some ⟨z,0,none⟩) (m+1) U)
  rw[N5 S hq] at this;exact this
 ·exact((eI.trans' y).grown h (λk hk=>by have :=sR k hk;omega)).setCell (.inr (by show w.heap.size<=w.heap.size+1;omega)) _
def ri (w:World) (E:List (ByteArray×Int)) (e:Ending) (w':World):Prop:=
 ∃S:Nat->Value,e= .returned (.agg (lD S))/\ay [] w w'/\∀b,b<4->∃g,bz w' (S b) g (dA E b)/\w.heap.size<=g
theorem Ew (hE:bz w v g E)(aN:E.length<=10000)(ak:∀k,k<E.length->(eh E k).size<=9223372036854775807):
  Calls Tryz.prog 213 #[v] w (ri w E):=by
 obtain⟨a,cap,rfl,nz,nB,uv⟩:=hE.open;unfold maxLen at nB;obtain⟨i0,hi,aH,aB,aF⟩:=cJ Tryz.info_entry;have p8:=N6;obtain⟨z,aa⟩:∃z,z=lD λ_=> .slice none 0 0:=⟨_,rfl⟩
 rw[<-aa] at p8;have ai:=ar aa;clear aa;have qb:Hid (bm ((w.alloc (.cells z 258)).alloc (.cells z 258)) (w.heap.size+1) z 258):=by
  have :=bm.new (w.alloc (.cells z 258)) z 258;have e:(w.alloc (.cells z 258)).heap.size=w.heap.size+1:=by simp
  rw[e] at this;exact this
 have nY:Hid (bm ((w.alloc (.cells z 258)).alloc (.cells z 258)) w.heap.size z 258):=(bm.new w _ _).alloc _;have fS:Hid (ay [] w ((w.alloc (.cells z 258)).alloc (.cells z 258))):=((ay.refl _ _).alloc _).alloc _;have HW:Hid (∀j,j<E.length->∀wx,Calls Tryz.prog 227 #[.string (eh E j)] wx λe w'=>e= .returned (.int .i64 (nS (bl (eh E j)):Nat))/\ay [] wx w'):=λj hj wx=>N3 _ (ak j hj) wx
 have YW:Hid (∀j,j<E.length->E.take (j+1)=E.take j++[(eh E j,gT E j)]):=λj hj=>BH E j hj
 have yj:Hid (∀j b,(dA (E.take j) b).length<=E.length):=λj b=>cu (iI _ _) (by rw[aI];omega)
 have Ad:Hid (E.take E.length=E):=fz;clear hE ak;generalize hn:E.length=n at *;clear hn;go_enter Tryz.func213,Tryz.ntmps213;go_wp2_with fail;clear p8;go_loopg [9] n (λgh s9 wx=>∃(j:Nat) (S:Nat->Value),j+gh=n/\s9= .int .i64 (j:Int)/\Hid (bm wx (w.heap.size+1) (lD S) 258/\bm wx w.heap.size z 258/\Ae wx (w.heap.size+2) S (dA (E.take j))/\ay [] w wx))
 case atStart=>
  refine⟨0,λ_=> .slice none 0 0,by omega,rfl,?_,nY.out,?_,fS.out⟩
  ·rw[<-ai.out];exact qb.out
  ·have :dA (E.take 0)=λ_=>[]:=by funext b;rfl
   rw[this];exact Ae.nil _ _
 case round=>
  clear nY qb fS;obtain⟨j,S,hj,rfl,HP⟩:=hrel;cases gk with
  |zero=>
   obtain rfl:j=n:=by omega
   obtain⟨J,U,Z,eI⟩:=HP.out;have HL:=ar (Ev J);have aw:z.size=4:=by rw[ai.out];rfl
   obtain⟨w2,hS,ah,ac⟩:=br (P:= Tryz.prog) (ty:= 258) (cs:=[S 0,S 1,S 2,S 3]) Eu U (by rw[aw];rfl) (λu hu=>by
    simp only[aS,aV,bL] at hu;rcases hu with rfl|rfl|rfl|rfl
    ·obtain⟨a,c,h,-⟩:=gD (Z.row 0 (by omega));rw[h];rfl
    ·obtain⟨a,c,h,-⟩:=gD (Z.row 1 (by omega));rw[h];rfl
    ·obtain⟨a,c,h,-⟩:=gD (Z.row 2 (by omega));rw[h];rfl
    ·obtain⟨a,c,h,-⟩:=gD (Z.row 3 (by omega));rw[h];rfl)
   have HS:Hid ((storeVar 258 ⟨w.heap.size,0,none⟩ (.agg (lD S))).run Tryz.prog wr= .ok () w2):=hS;have pw:Hid ((loadVar 258 ⟨w.heap.size,0,none⟩).run Tryz.prog w2= .ok (.agg (lD S)) w2):=Ev (S:=S) ah;have HM:Hid (ri w E (.returned (.agg (lD S))) w2):=by
    refine⟨S,rfl,eI.trans ac (by simp),λb hb=> ?_⟩;have hr:=cO (Z.row b hb) ac (λg hg hm=>by
     have :=cE (Z.row b hb) g hg;rw[au] at hm;omega)
    rw[Ad.out] at hr;obtain⟨g,ho,hg⟩:=eE.of_row hr;by_cases h0:(dA E b).length=0
    ·exact⟨w.heap.size,(ho.ereads rfl).anyG h0 _,aG _⟩
    ·exact⟨g,ho.ereads rfl,by have :=(hg h0).1;omega⟩
   clear HP hj J U Z eI hS ah ac;go_wp2_with(first|(with_reducible refine gL 258 HL.out ?_)|(with_reducible refine gS 258 HS.out ?_));exact aK (dP Tryz.results213 rfl pw.out) rfl HM.out
  |succ gk=>
   have XE:j<n:=by omega
   have aO:(j:Int)<(n:Int):=by omega
   have zi:(0:Int)<=(j:Int):=by omega
   obtain⟨se,off,rfl,e0,e1⟩:=uv.out j XE;obtain⟨J,U,Z,eI⟩:=HP.out;have qb:=ar J;have nY:=ar U;have HF:=ar Z;have gI:=ar eI;have c0:=(aL (w:=w) (a:=⟨g,off+j*2,none⟩) (eI.block g se (by simp))).trans e0;have c1:=(aL (w:=w) (a:=⟨g,off+j*2+1,none⟩) (eI.block g se (by simp))).trans e1;have aA:=ar (HW.out j XE);have J8:Hid (∀b,dA (E.take (j+1)) b=if b=FQ (eh E j,gT E j) then dA (E.take j) b++[(eh E j,gT E j)] else dA (E.take j) b):=λb=>by rw[YW.out j XE,N4]
   have Vw:nS (bl (eh E j))<4:=KQ (eh E j,gT E j);have ap:FQ (eh E j,gT E j)=nS (bl (eh E j)):=rfl;have tV:w.heap.size+1<wr.heap.size:=J.lt;rw[ap] at J8;clear e0 e1 HP J U Z eI ap;generalize eh E j=nm at *;generalize gT E j=ino at *;generalize nS (bl nm)=q at *;go_wp2_with fail;refine(aA.out _).mono ?_;rintro e G ⟨rfl,dc⟩;have J9:=(bm.new wr #[.string nm,.int .i64 ino] 88).keep dc (by simp);have Dp:Hid (ay [] wr G):=((ay.refl [] wr).alloc (.cells #[.string nm,.int .i64 ino] 88)).trans' dc;have ag:=ar (HF.out.keep Dp.out (by simp));have Vx:=ar (qb.out.keep Dp.out (by simp));have aD:=ar (nY.out.keep Dp.out (by simp));have Xq:w.heap.size+2<=G.heap.size:=by have :=Dp.out.size;omega
   have d0:∀o,(G.alloc o).drew.cell? ⟨wr.heap.size,0,none⟩=some (.string nm):=λo=>by rw[(J9.alloc o).drew.cell];rfl
   have d1:∀o,(G.alloc o).drew.cell? ⟨wr.heap.size,1,none⟩=some (.int .i64 ino):=λo=>by rw[(J9.alloc o).drew.cell];rfl
   have aQ:G.cell? ⟨wr.heap.size,0,none⟩=some (.string nm):=by rw[J9.cell];rfl
   have aT:G.cell? ⟨wr.heap.size,1,none⟩=some (.int .i64 ino):=by rw[J9.cell];rfl
   have W:=ag.out.row q Vw;obtain⟨aq,cq,aC,q1,q2⟩:=gD W;have aP:G.cell? ⟨w.heap.size+1,q,none⟩=some (S q):=by rw[Vx.out.cell,Et S Vw]
   have aJ:∀o,(G.alloc o).drew.cell? ⟨w.heap.size+1,q,none⟩=some (S q):=λo=>by rw[(Vx.out.alloc o).drew.cell,Et S Vw]
   have az:∀o,(G.alloc o).drew.frozen? ⟨w.heap.size+1,q,none⟩=false:=λo=>(Vx.out.alloc o).drew.frozen _
   have Vp:(0:Int)<=(q:Int):=by omega
   have aU:(q:Int)<4:=by omega
   have aR:=yj.out j q;have j1:=ar W;have ax:=ar (gI.out.trans' Dp.out);clear W dc J9;generalize av:S q=sq at *;subst aC;have ae:=ar av;clear av;generalize hm:(dA (E.take j) q).length=m at *;have HM:=ar hm;clear hm;unfold maxLen at q2;have aj:(Value.slice aq m cq).ownBlock≠some (w.heap.size+1):=λe=>by have :=cE j1.out _ e;omega
   go_wp2_with fail
   go_region_law ((refine step_append_lies _ (by rfl) _ _ _ (by rfl) (w.heap.size+2) 88 i0 _ 2 24 Tryz.underlying32 hi aH aB aF rfl (by omega) (.slice aq m cq) m _ (by rfl) ((j1.out.alloc _).drew) ⟨G.heap.size,0,none⟩ 1 1 [.string nm,.int .i64 ino] (by rfl) (by rfl) (iP G [_,_] _ _ rfl) (by simp[Value.oneCell']) (by omega) (by unfold maxLen;omega) (by omega) (by simp;omega) (G.heap.size+1) (by simp) ?_;intro Bh wI w2 V y af N2;have aM:=(y.cell_far ⟨w.heap.size+1,q,none⟩ (by simp;omega) (dx aj)).trans (aJ _);have Uw:=(y.frozen_far ⟨w.heap.size+1,q,none⟩ (by simp;omega) (dx aj)).trans (az _)))
   all_goals
    have HN:=ar (Ik (wa:=(G.alloc (.cells #[.string nm,.int .i64 ino] 88)).drew) (p:=(nm,ino)) (((ay.refl [] G).alloc _).drew) (by simp) ag.out Vx.out aD.out ax.out Vw HM.out V (by rw[ae.out];exact y) (by rw[ae.out];exact af) J8.out);clear V y af N2 aM Uw;go_wp2_with fail;go_roundg gk;case measure=>omega
    case rel=>
     obtain⟨S',h1,h2,h3,h4⟩:=HN.out;exact⟨j+1,S',by omega,by go_num,h1,h2,h3,h4⟩
def abc (n:bM):Prop:=n.E.length<=24/\n.S=n.E.length/\n.B=List.replicate 13 0
theorem Il (n:bM)(v:Value)(g:Nat)(hB:n.B.length=13)(w:World)(hE:bz w v g n.E)(hN:∀k,k<n.E.length->(eh n.E k).size<=9223372036854775807):
  Calls Tryz.prog 136 #[.agg (aU n v)] w λe w'=>e= .returned (.bool (decide (lM n)))/\ay [] w w':=by
 obtain⟨a,cap,rfl,nz,nB,uv⟩:=hE.open;have HN:=ar hN;unfold maxLen at nB;obtain⟨Z,hZ⟩:∃Z,Z=aU n (.slice a n.E.length cap):=⟨_,rfl⟩;have z:Mv Z n (.slice a n.E.length cap):=by rw[hZ];exact jo _ hB
 rw[<-hZ];have G:=bm.new w Z 110;have c3:(w.alloc (.cells Z 110)).cell? ⟨w.heap.size,3,none⟩=some (.int .i64 n.S):=by rw[G.cell];exact z.f3
 have W:(w.alloc (.cells Z 110)).cell? ⟨w.heap.size,17,none⟩=some (.slice a n.E.length cap):=by rw[G.cell];exact z.f5
 have HK:Hid (ay [] w (w.alloc (.cells Z 110))):=(ay.refl [] w).alloc _;have nu:=ar G;have HL:=ar (eD (off:=4) G hB z.f4);have FR:Hid (∀V:World,bm V w.heap.size Z 110->V.cell? ⟨w.heap.size,17,none⟩=some (.slice a n.E.length cap)):=λV hb=>by rw[hb.cell];exact z.f5
 have Dl:=ar (λV=>KC (a:=n.B) (b:=List.replicate 13 0) hB rfl V);have YR:=yb;have p8:=lV;have YY:Hid (lM n↔abc n/\∀k,k<n.E.length->z7 n.E k):=⟨λh=>⟨⟨h.1,h.2.1,h.2.2.1⟩,h.2.2.2⟩,λh=>⟨h.1.1,h.1.2.1,h.1.2.2,h.2⟩⟩;clear G z hZ hB hE hN;by_cases ai:24<n.E.length
 ·have y:Hid (decide (lM n)=false):=aT λh=>by have :=h.1;omega
  clear YY HN uv;generalize n.E.length=m at *;have Ka:(24:Int)<(m:Int):=by omega
  go_enter Tryz.func136,Tryz.ntmps136;go_wp2_with fail;go_ret;exact⟨by rw[y.out];rfl,HK.out⟩
 ·by_cases hS:n.S=n.E.length
  ·obtain⟨t,ht⟩:∃t,decide (n.B=List.replicate 13 0)=t:=⟨_,rfl⟩
   rw[ht] at Dl;have ag:=Dl.out;rw[hS] at c3;have Ka:¬(24:Int)<((n.E.length:Nat):Int):=by omega
   cases t
   ·have y:Hid (decide (lM n)=false):=aT λh=>of_decide_eq_false ht h.2.2.1
    clear YY HN uv ht Dl FR;generalize (zs (List.replicate 13 0)).toArray=Z0 at *;generalize (zs n.B).toArray=ZB at *;generalize n.E.length=m at *;have av:((m:Int) != (m:Int))=false:=by simp
    go_enter Tryz.func136,Tryz.ntmps136;go_wp2_with((with_reducible show wpList _ _ _ (⟨_,.load 108 (.tmp 18),_,_,_,_⟩::_) _ _);refine dC (by simp[Region.wanted,yielded]) 108 (.tmp 18) rfl _ rfl _ HL.out ?_);go_ret;exact⟨by rw[y.out];rfl,HK.out⟩
   ·have HA:Hid (abc n):=⟨by omega,hS,of_decide_eq_true ht⟩
    clear ht Dl;generalize (zs (List.replicate 13 0)).toArray=Z0 at *;generalize (zs n.B).toArray=ZB at *;generalize hm:n.E.length=m at *;go_enter Tryz.func136,Tryz.ntmps136;go_wp2_with((with_reducible show wpList _ _ _ (⟨_,.load 108 (.tmp 18),_,_,_,_⟩::_) _ _);refine dC (by simp[Region.wanted,yielded]) 108 (.tmp 18) rfl _ rfl _ HL.out ?_);clear p8 ag HL c3 W;go_loopg [26] m (λgh s26 V=>∃k:Nat,k+gh=m/\s26= .int .i64 (k:Int)/\Hid ((∀i,i<k->z7 n.E i)/\ay [] (w.alloc (.cells Z 110)) V))
    case atStart=>exact⟨0,by omega,rfl,by simp,ay.refl _ _⟩
    case round=>
     obtain⟨k,hk,rfl,HR⟩:=hrel;cases gk with
     |zero=>
      obtain rfl:k=m:=by omega
      have HT:Hid (decide (lM n)=true):=bj (YY.out.2 ⟨HA.out,HR.out.1⟩);have gI:=ar (HK.out.trans' HR.out.2);clear HR hk YY FR hm;go_wp2_with fail;go_ret;exact⟨by rw[HT.out];rfl,gI.out⟩
     |succ gg=>
      have GN:k<m:=by omega
      have aj:(k:Int)<(m:Int):=by omega
      have ez:(0:Int)<=(k:Int):=by omega
      obtain⟨hg,off,rfl,e0,e1⟩:=uv.out k GN;have C5:=HK.out.trans' HR.out.2;have c0:wr.cell? ⟨g,off+k*2,none⟩=some (.string (eh n.E k)):=(aL (w:=w) (a:=⟨g,off+k*2,none⟩) (C5.block g hg (by simp))).trans e0;have c1:wr.cell? ⟨g,off+k*2+1,none⟩=some (.int .i64 (gT n.E k)):=(aL (w:=w) (a:=⟨g,off+k*2+1,none⟩) (C5.block g hg (by simp))).trans e1;have HG:=ar (λV=>FD (eh n.E k) (HN.out k GN) V);have J:Hid (z7 n.E k↔fN (bl (eh n.E k))=true/\(0<=gT n.E k/\gT n.E k<=31)/\(0<k->RD (eh n.E k) (eh n.E (k-1))=false)):=Iff.rfl;have U:Hid (¬z7 n.E k->decide (lM n)=false):=λh=>aT λhd=>h ((YY.out.1 hd).2 k GN)
      have pM:=ar C5;have pY:=ar HR.out.1;have ae:=ar HR.out.2;have W:=FR.out wr (nu.out.keep HR.out.2 (by simp));have YZ:Hid (∀q,k=q+1->wr.cell? ⟨g,off+q*2,none⟩=some (.string (eh n.E q))):=λq hq=>by
       obtain⟨-,RO,RH,f0,-⟩:=uv.out q (by omega);cases RH;exact(aL (w:=w) (a:=⟨g,off+q*2,none⟩) (C5.block g hg (by simp))).trans f0
      clear C5 e0 e1 uv YY HR FR;generalize UX:eh n.E k=nm at *;generalize gT n.E k=ino at *;cases hgd:fN (bl nm)
      ·have y:Hid (decide (lM n)=false):=U.out λh=>by have :=(J.out.1 h).1;rw[hgd] at this;cases this
       rw[hgd] at HG;clear J U hgd hk YZ hm;go_wp2_with fail;refine(HG.out _).mono ?_;rintro e w' ⟨rfl,rfl⟩;go_wp2_with fail;go_ret;exact⟨by rw[y.out];rfl,pM.out.alloc _⟩
      ·rw[hgd] at HG
       by_cases aw:ino<0
       ·have y:Hid (decide (lM n)=false):=U.out λh=>by have :=(J.out.1 h).2.1.1;omega
        clear J U hgd hk YZ hm;go_wp2_with fail;refine(HG.out _).mono ?_;rintro e w' ⟨rfl,rfl⟩;go_wp2_with fail;go_ret;exact⟨by rw[y.out];rfl,pM.out.alloc _⟩
       ·by_cases au:32<=ino
        ·have y:Hid (decide (lM n)=false):=U.out λh=>by have :=(J.out.1 h).2.1.2;omega
         clear J U hgd hk YZ hm;go_wp2_with fail;refine(HG.out _).mono ?_;rintro e w' ⟨rfl,rfl⟩;go_wp2_with fail;go_ret;exact⟨by rw[y.out];rfl,pM.out.alloc _⟩
        ·by_cases ac:k=0
         ·have aa:Hid (∀i,i<k+1->z7 n.E i):=λi hi=>by
           obtain rfl:i=k:=by omega
           exact J.out.2 ⟨hgd,⟨by omega,by omega⟩,λh=>absurd h (by omega)⟩
          have xG:¬(0:Int)<(k:Int):=by omega
          have ah:decide (0<k)=false:=aT (by omega);clear J U hgd YZ hm pY ac;go_wp2_with fail;refine(HG.out _).mono ?_;rintro e w' ⟨rfl,rfl⟩;go_wp2_with fail
          go_quiet (fail)
          go_wp2_with fail;go_roundg gg;case measure=>omega
          case rel=>exact⟨k+1,by omega,by go_num,aa.out,(ae.out.alloc _).drewN _⟩
         ·obtain⟨q,hq⟩:∃q,k=q+1:=⟨k-1,by omega⟩
          have Y0:=YZ.out q hq;have ax:∀o,(wr.alloc o).cell? ⟨g,off+q*2,none⟩=some (.string (eh n.E q)):=λo=>by
           rw[World.cell?_alloc_some _ _ _ (by rw[Y0];rfl)];exact Y0
          have aq:∀o,(wr.alloc o).cell? ⟨w.heap.size,17,none⟩=some (.slice (some ⟨g,off,none⟩) m cap):=λo=>by
           rw[World.cell?_alloc_some _ _ _ (by rw[W];rfl)];exact W
          clear Y0;have eI:(0:Int)<(k:Int):=by omega
          have ah:decide (0<k)=true:=bj (by omega);have ak:(k:Int)-1=(q:Int):=by omega
          have ap:(q:Int)<(m:Int):=by omega
          have Vp:(0:Int)<=(q:Int):=by omega
          have vZ:∀b,RD nm (eh n.E q)=b->(Op.bytesLess nm.toList (eh n.E q).toList||(nm.toList==(eh n.E q).toList))=b:=λb h=>h
          have Vy:Hid (z7 n.E k↔RD nm (eh n.E q)=false):=by
           show _↔_;rw[J.out,show k-1=q by omega];exact⟨λh=>h.2.2 (by omega),λh=>⟨hgd,⟨by omega,by omega⟩,λ_=>h⟩⟩
          generalize eh n.E q=pm at *;cases hle:RD nm pm
          ·have aa:Hid (∀i,i<k+1->z7 n.E i):=λi hi=>by
            by_cases e:i=k
            ·subst e;exact Vy.out.2 hle
            ·exact pY.out i (by omega)
           have af:=vZ _ hle;clear J Vy U hgd YZ hm pY ac vZ hle hq;go_wp2_with fail;refine(HG.out _).mono ?_;rintro e w' ⟨rfl,rfl⟩;go_wp2_with fail
           go_quiet (fail)
           go_wp2_with fail;go_roundg gg;case measure=>omega
           case rel=>exact⟨k+1,by omega,by go_num,aa.out,(ae.out.alloc _).drewN _⟩
          ·have y:Hid (decide (lM n)=false):=U.out λh=>by
            have :=Vy.out.1 h;rw[hle] at this;cases this
           have af:=vZ _ hle;clear J Vy U hgd YZ hm pY ac vZ hle hq hk;go_wp2_with fail;refine(HG.out _).mono ?_;rintro e w' ⟨rfl,rfl⟩;go_wp2_with fail
           go_quiet (fail)
           go_wp2_with fail;go_ret;exact⟨by rw[y.out];rfl,(pM.out.alloc _).drewN _⟩
  ·have y:Hid (decide (lM n)=false):=aT λh=>hS h.2.1
   have e2:(n.S != ((n.E.length:Nat):Int))=true:=bne_iff_ne.2 hS;have Ka:¬(24:Int)<((n.E.length:Nat):Int):=by omega
   clear YY HN uv;generalize n.S=s at *;generalize n.E.length=m at *;go_enter Tryz.func136,Tryz.ntmps136;go_wp2_with fail;go_ret;exact⟨by rw[y.out];rfl,HK.out⟩
theorem kV (n:bM)(v:Value)(g:Nat)(hB:n.B.length=13)(w:World)(hE:bz w v g n.E)(hN:∀k,k<n.E.length->(eh n.E k).size<=9223372036854775807):
  Calls Tryz.prog 94 #[.agg (aU n v)] w λe w'=>e= .returned (.bool (decide (bP n)))/\ay [] w w':=by
 have ac:Hid (∀z,Calls Tryz.prog 135 #[.agg (aU n v)] z λe w'=>e= .returned (.bool (decide (mW n)))/\ay [] z w'):=λz=>by
  obtain⟨a,cap,hv,-⟩:=hE;subst hv;exact FO n a cap hB z
 have aa:Hid (∀z,ay [] w z->Calls Tryz.prog 136 #[.agg (aU n v)] z λe w'=>e= .returned (.bool (decide (lM n)))/\ay [] z w'):=λz hk=>
  Il n v g hB z (hE.keep hk (by simp)) hN
 obtain⟨Z,W⟩:∃Z,Z=aU n v:=⟨_,rfl⟩;have J:Mv Z n v:=by rw[W];exact jo _ hB
 rw[<-W] at ac aa ⊢;have y:=bm.new w Z 110;have c0:(w.alloc (.cells Z 110)).cell? ⟨w.heap.size,0,none⟩=some (.int .i64 n.F):=by rw[y.cell];exact J.f0
 have c1:(w.alloc (.cells Z 110)).cell? ⟨w.heap.size,1,none⟩=some (.int .i64 n.K):=by rw[y.cell];exact J.f1
 have c2:(w.alloc (.cells Z 110)).cell? ⟨w.heap.size,2,none⟩=some (.int .i64 n.L):=by rw[y.cell];exact J.f2
 have V:Hid (ay [] w (w.alloc (.cells Z 110))):=(ay.refl [] w).alloc _;have HL:Hid ((loadVar 110 ⟨w.heap.size,0,none⟩).run Tryz.prog (w.alloc (.cells Z 110))= .ok (.agg Z) (w.alloc (.cells Z 110))):=by
  have :=cH (n:=n) (v:=v) (by rw[<-W];exact y) hB;rw[<-W] at this;exact this
 clear y J W hE hN hB;by_cases hF:n.F=1\/n.F=2
 ·rcases hF with hF|hF
  all_goals
   rw[hF] at c0;by_cases ae:n.L<0
   ·have U:Hid (decide (bP n)=false):=aT λh=>by have :=h.2.1.1;omega
    generalize n.L=l at *;go_enter Tryz.func94,Tryz.ntmps94;go_wp2_with fail;go_ret;exact⟨by rw[U.out];rfl,V.out⟩
   ·by_cases af:65535<n.L
    ·have U:Hid (decide (bP n)=false):=aT λh=>by have :=h.2.1.2;omega
     generalize n.L=l at *;go_enter Tryz.func94,Tryz.ntmps94;go_wp2_with fail;go_ret;exact⟨by rw[U.out];rfl,V.out⟩
    ·by_cases MH:n.K=1
     ·have HQ:Hid (decide (bP n)=decide (mW n)):=decide_eq_decide.2 ⟨λh=>by
       rcases h.2.2 with h|h
       ·exact h.2
       ·omega,λh=>⟨by omega,⟨by omega,by omega⟩,.inl ⟨MH,h⟩⟩⟩
      rw[MH] at c1;generalize decide (mW n)=q at *;generalize n.L=l at *;go_enter Tryz.func94,Tryz.ntmps94;go_wp2_with(with_reducible refine gL 110 HL.out ?_);refine(ac.out _).mono ?_;rintro e w1 ⟨rfl,dc⟩;have iH:=ar (V.out.trans' dc);clear dc;go_wp2_with fail;go_ret;exact⟨by rw[HQ.out];rfl,iH.out⟩
     ·by_cases G:n.K=2
      ·have HQ:Hid (decide (bP n)=decide (lM n)):=decide_eq_decide.2 ⟨λh=>by
        rcases h.2.2 with h|h
        ·omega
        ·exact h.2,λh=>⟨by omega,⟨by omega,by omega⟩,.inr ⟨G,h⟩⟩⟩
       rw[G] at c1;generalize decide (lM n)=q at *;generalize n.L=l at *;go_enter Tryz.func94,Tryz.ntmps94;go_wp2_with(with_reducible refine gL 110 HL.out ?_);refine(aa.out _ V.out).mono ?_;rintro e w1 ⟨rfl,dc⟩;have iH:=ar (V.out.trans' dc);clear dc;go_wp2_with fail;go_ret;exact⟨by rw[HQ.out];rfl,iH.out⟩
      ·have U:Hid (decide (bP n)=false):=aT λh=>by
        rcases h.2.2 with h|h
        ·exact MH h.1
        ·exact G h.1
       have k1:(n.K==1)=false:=cg.2 MH;have k2:(n.K==2)=false:=cg.2 G;generalize n.L=l at *;generalize n.K=kk at *;go_enter Tryz.func94,Tryz.ntmps94;go_wp2_with fail;go_ret;exact⟨by rw[U.out];rfl,V.out⟩
 ·have U:Hid (decide (bP n)=false):=aT λh=>hF h.1
  have f1:(n.F != 1)=true:=bne_iff_ne.2 λh=>hF (.inl h)
  have f2:(n.F != 2)=true:=bne_iff_ne.2 λh=>hF (.inr h)
  clear hF;generalize n.F=f at *;go_enter Tryz.func94,Tryz.ntmps94;go_wp2_with fail;go_ret;exact⟨by rw[U.out];rfl,V.out⟩
end Go.Proofs.YtcecbdeamjigiaaGreatDoor
