/- Lemmas. -/
import Derived.Test.YtepbpdipenedhaaGreatDoorM04
import Derived.Deep.RegionHeld
set_option maxHeartbeats 8000000
set_option maxRecDepth 100000
namespace Go.Proofs.YtepbpdipenedhaaGreatDoor
open Go.Proofs.Tryz
open Go.RowKit
variable{s t:Int}{l:List Int}{w w':World}{v:Value}{T g h j n z:Nat}{E:List (ByteArray×Int)}{S:Nat->Value}{F:Nat->List (ByteArray×Int)}
def po (n:bT):Int:=n.F+256*n.K+65536*n.L
structure zO (n:bT):Prop where
 f:0<=n.F/\n.F<256
 k:0<=n.K/\n.K<256
 l:0<=n.L/\n.L<65536
 s:0<=n.S/\n.S<9223372036854775808
def iq (n:bT) (l:List Int) (h:Int):List Int:=po n::n.S::(l.take 5++[h])
theorem adx (f k m:Nat)(h:f<256)(z:k<256)(G:m<65536):bits .or .u64 (f:Int) ((k:Int)*256)=((f+k*256:Nat):Int)/\bits .or .u64 ((f+k*256:Nat):Int) ((m:Int)*65536)=((f+k*256+m*65536:Nat):Int):=by
 constructor
 ·rw[show(k:Int)*256=((k*256:Nat):Int) by omega,u64_or_nat _ _ (by omega) (by omega),Nat.or_comm,nat_join 8 _ _ (by exact Nat.mul_mod_left _ _) h,Nat.add_comm]
 ·rw[show(m:Int)*65536=((m*65536:Nat):Int) by omega,u64_or_nat _ _ (by omega) (by omega),Nat.or_comm,nat_join 16 _ _ (by exact Nat.mul_mod_left _ _) (show f+k*256<65536 by omega),Nat.add_comm]
def oa (t s:Int) (l:List Int) (k:Nat):List Int:=t::s::(dS 0 l k++[0])
theorem wD (z:l.length=5){k:Nat}(h:k<=5):(oa t s l k).length=8:=by simp[oa,lR,z,h]
theorem M5 (z:l.length=5){k:Nat}(h:k<5):(oa t s l k).set (2+k) (l.getD k 0)=oa t s l (k+1):=by
 rw[oa,show 2+k=k+1+1 by omega,ai,ai,List.set_append_left _ _ (by rw[lR _ _ _ (by omega)];omega),lK 0 l k (by omega) (l.getD k 0) (by simp[show k<l.length by omega])];rfl
theorem M6 (h:l.length=5)(x:Int):(oa t s l 5).set 7 x=t::s::(l++[x]):=by
 rw[oa,show dS 0 l 5=l by rw[<-h];exact mz 0 l,ai,ai,dH _ _ (by omega),h];rfl
def uZ (n:bT):List Int:=po n::n.S::List.replicate 6 0
theorem CA (n:bT):(uZ n).length=8:=by simp[uZ]
theorem EZ (n:bT)(v:Value)(hB:n.B.length=13)(ht:zO n)(w:World):
  Calls prog 211 #[aM n v] w λe w'=>e=(aY (uZ n)).toArray/\ay [] w w':=by
 have G:=gG v hB;generalize aM n v=Z at *;have ae:=lj;have J:bh (w.alloc (.cells Z 111)) w.heap.size Z 111 :=bh.new _ _ _;have c0:∀z h,(((w.alloc (.cells Z 111)).alloc z).alloc h).cell? w.heap.size=some (.int .i64 n.F):=λz h=>by rw[((J.alloc z).alloc h).cell];exact G.f0
 have c1:∀z h,(((w.alloc (.cells Z 111)).alloc z).alloc h).cell? ⟨w.heap.size,1,none⟩=some (.int .i64 n.K):=λz h=>by rw[((J.alloc z).alloc h).cell];exact G.f1
 have c2:∀z h,(((w.alloc (.cells Z 111)).alloc z).alloc h).cell? ⟨w.heap.size,2,none⟩=some (.int .i64 n.L):=λz h=>by rw[((J.alloc z).alloc h).cell];exact G.f2
 have c3:∀z h,(((w.alloc (.cells Z 111)).alloc z).alloc h).cell? ⟨w.heap.size,3,none⟩=some (.int .i64 n.S):=λz h=>by rw[((J.alloc z).alloc h).cell];exact G.f3
 obtain⟨tf,tk,tl,ts⟩:=ht;obtain⟨f,hf⟩:∃f:Nat,n.F=(f:Int):=⟨n.F.toNat,by omega⟩;obtain⟨k,hk⟩:∃k:Nat,n.K=(k:Int):=⟨n.K.toNat,by omega⟩;obtain⟨m,hm⟩:∃m:Nat,n.L=(m:Int):=⟨n.L.toNat,by omega⟩;obtain⟨s,hs⟩:∃s:Nat,n.S=(s:Int):=⟨n.S.toNat,by omega⟩;rw[hf] at c0 tf;rw[hk] at c1 tk;rw[hm] at c2 tl;rw[hs] at c3 ts;obtain⟨q1,q2⟩:=adx f k m (by omega) (by omega) (by omega);have aa:Hid (((f+k*256+m*65536:Nat):Int)=po n):=by
  show _=_;rw[po,hf,hk,hm];omega
 generalize f+k*256+m*65536=t at *;generalize f+k*256=t1 at *;have nu:Hid (uZ n=(t:Int)::(s:Int)::List.replicate 6 0):=by
  show _=_;rw[uZ,<-aa.out,hs]
 clear hf hk hm hs aa G hB;rw[nu.out];have F8:((t:Int)::(s:Int)::List.replicate 6 0).length=8:=by simp
 have U:bh (((w.alloc (.cells Z 111)).alloc (.cells (aY (List.replicate 8 0)).toArray 195)).alloc (.cells (((aY (List.replicate 8 0)).set 0 (.int .u64 (t:Int))).set 1 (.int .u64 (s:Int))).toArray 195)) (w.heap.size+1+1) (aY ((t:Int)::(s:Int)::List.replicate 6 0)).toArray 195 :=by
  have :=bh.new ((w.alloc (.cells Z 111)).alloc (.cells (aY (List.replicate 8 0)).toArray 195)) (((aY (List.replicate 8 0)).set 0 (.int .u64 (t:Int))).set 1 (.int .u64 (s:Int))).toArray 195;have e:((w.alloc (.cells Z 111)).alloc (.cells (aY (List.replicate 8 0)).toArray 195)).heap.size=w.heap.size+1+1:=by simp
  rw[e] at this;exact this
 have V:bh (((w.alloc (.cells Z 111)).alloc (.cells (aY (List.replicate 8 0)).toArray 195)).alloc (.cells (((aY (List.replicate 8 0)).set 0 (.int .u64 (t:Int))).set 1 (.int .u64 (s:Int))).toArray 195)) (w.heap.size+1) (aY (List.replicate 8 0)).toArray 195 :=by
  have :=(bh.new (w.alloc (.cells Z 111)) (aY (List.replicate 8 0)).toArray 195).alloc (.cells (((aY (List.replicate 8 0)).set 0 (.int .u64 (t:Int))).set 1 (.int .u64 (s:Int))).toArray 195);have e:(w.alloc (.cells Z 111)).heap.size=w.heap.size+1:=by simp
  rw[e] at this;exact this
 have HL:=ar (fM U F8);obtain⟨w2,hS,ac,W⟩:=bH (P:= prog) (ty:= 195) (cs:=aY ((t:Int)::(s:Int)::List.replicate 6 0)) (by rw[bB,F8];exact jc) V (by simp[bB]) (fh _);obtain⟨HS,rN⟩:=hh2 hS (fM ac F8);have jA:Hid (ay [] w w2):=((((ay.refl _ _).alloc _).alloc _).alloc _).trans W (by simp);clear U V hS ac W J;go_in;go_wp2_with(with_reducible first|refine gL 195 HL.out ?_|refine gS 195 HS.out ?_);exact aI (bA results211 rfl rN.out) rfl ⟨rfl,jA.out⟩
theorem DU (n:bT)(v:Value)(hB:n.B.length=13)(ht:zO n)(l:List Int)(hl:l.length=13)(hn:adw l)(h:Int)(h0:0<=h/\h<9223372036854775808)(w:World):
  Calls prog 193 #[aM n v,(zs l).toArray,h] w λe w'=>e=(aY (iq n l h)).toArray/\ay [] w w':=by
 have HH:=ar (EZ n v hB ht);have aG:=lj;have uY:=ar (b9 (((bh.new w (aM n v) 111).alloc (.cells (zs l).toArray 109)).alloc (.cells (aY (List.replicate 8 0)).toArray 195)) hB);have ak:bh (((w.alloc (.cells (aM n v) 111)).alloc (.cells (zs l).toArray 109)).alloc (.cells (aY (List.replicate 8 0)).toArray 195)) (w.heap.size+1) (zs l).toArray 109 :=by
  have :=(bh.new (w.alloc (.cells (aM n v) 111)) (zs l).toArray 109).alloc (.cells (aY (List.replicate 8 0)).toArray 195);have e:(w.alloc (.cells (aM n v) 111)).heap.size=w.heap.size+1:=by simp
  rw[e] at this;exact this
 have ax:bh (((w.alloc (.cells (aM n v) 111)).alloc (.cells (zs l).toArray 109)).alloc (.cells (aY (List.replicate 8 0)).toArray 195)) (w.heap.size+1+1) (aY (List.replicate 8 0)).toArray 195 :=by
  have :=bh.new ((w.alloc (.cells (aM n v) 111)).alloc (.cells (zs l).toArray 109)) (aY (List.replicate 8 0)).toArray 195;have e:((w.alloc (.cells (aM n v) 111)).alloc (.cells (zs l).toArray 109)).heap.size=w.heap.size+1+1:=by simp
  rw[e] at this;exact this
 have fI:Hid (ay [] w (((w.alloc (.cells (aM n v) 111)).alloc (.cells (zs l).toArray 109)).alloc (.cells (aY (List.replicate 8 0)).toArray 195))):=(((ay.refl _ _).alloc _).alloc _).alloc _;obtain⟨oQ,qI⟩:=hh2 ak ax;clear ak ax;have V:(l.take 5).length=5:=by simp[hl]
 obtain⟨t,hT⟩:∃t,t=po n:=⟨_,rfl⟩;obtain⟨s,W⟩:∃s,s=n.S:=⟨_,rfl⟩;have M7:Hid (uZ n=oa t s (l.take 5) 0):=by
  show _=_;rw[uZ,oa,lJ,V,hT,W];rfl
 have nu:Hid (iq n l h=t::s::(l.take 5++[h])):=by
  show _=_;rw[iq,hT,W]
 have Si:Hid (∀i,i<5->(0<=(l.take 5).getD i 0/\(l.take 5).getD i 0<9223372036854775808)/\l.getD i 0=(l.take 5).getD i 0):=λi hi=>by
  have e:(l.take 5).getD i 0=l.getD i 0:=by simp[hi]
  rw[e];exact⟨hn i,rfl⟩
 have Sw:Hid (∀i,i<13->(zs l).toArray[i]? =some (.int .i64 (l.getD i 0))):=λi hi=>by rw[aF,gK (by omega)]
 have aJ:=nD h0.1 h0.2;clear hn hB ht hT W;rw[nu.out];generalize aM n v=Z,(zs l).toArray=ZL at *;go_in;go_wp2_with(with_reducible refine gL 111 uY.out ?_);refine Rr (HH.out _) λw1 G=> ?_;rw[M7.out];obtain⟨w2,ai,Mh,av⟩:=bH (P:= prog) (ty:= 195) (cs:=aY (oa t s (l.take 5) 0)) (by rw[bB,wD V (by omega)];exact jc) (bh.new w1 (aY (List.replicate 8 0)).toArray 195) (by simp[bB,wD V]) (fh _);have aL:w.heap.size+1+1<w1.heap.size:=bS qI.out.lt G.size;have eV:ay [] (((w.alloc (.cells Z 111)).alloc (.cells ZL 109)).alloc (.cells (aY (List.replicate 8 0)).toArray 195)) w2:=(G.alloc (.cells (aY (List.replicate 8 0)).toArray 195)).trans av (by intro x hx;rw[au] at hx;have :=G.size;omega);obtain⟨ah,az,nL,aH,Qj⟩:=hh5 (oQ.out.keep eV (by simp)) (qI.out.keep eV (by simp)) (fI.out.trans' eV) ai Mh;clear ai Mh av eV G uY HH oQ qI fI;generalize hg:w1.heap.size=g at *;go_wp2_with(with_reducible refine gS 195 aH.out ?_);go_loopg [11] 5 (λgh M8 wx=>∃i:Nat,i+gh=5/\M8= .int .i64 (i:Int)/\Hid (bh wx g (aY (oa t s (l.take 5) i)).toArray 195/\bh wx (w.heap.size+1+1) (aY (List.replicate 8 0)).toArray 195/\bh wx (w.heap.size+1) ZL 109/\ay [] w wx))
 case atStart=>exact⟨0,by omega,rfl,Qj.out,az.out,ah.out,nL.out⟩
 case round=>
  clear aG Qj az ah nL;obtain⟨i,hi,rfl,HP⟩:=hrel;obtain⟨z,J,U,fW⟩:=HP.out;cases gk with
  |zero=>
   obtain rfl:i=5:=by omega
   have aa:wr.cell? ⟨g,7,none⟩=some (.int .u64 ((oa t s (l.take 5) 5).getD 7 0)):=by
    rw[z.cell,aF,dO (by rw[wD V (by omega)];omega)]
   have aD:wr.frozen? ⟨g,7,none⟩=false:=z.frozen 7;have ac:=z.set 7 (.int .u64 h);rw[ag,mI,M6 V] at ac;have F8:(t::s::(l.take 5++[h])).length=8:=by simp[V]
   have HL:=ar (fM ac F8);obtain⟨w4,hS,aC,aB⟩:=bH (P:= prog) (ty:= 195) (cs:=aY (t::s::(l.take 5++[h]))) (by rw[bB,F8];exact jc) (J.other (a:=⟨g,7,none⟩) (by show w.heap.size+1+1≠g;omega) (.int .u64 h)) (by simp[bB,F8]) (fh _);obtain⟨HS,rN,jA⟩:=hh3 hS (fM aC F8) ((fW.setCell (p:=⟨g,7,none⟩) (.inr (by show w.heap.size<=g;omega)) (.int .u64 h)).trans aB (by intro x hx;rw[au] at hx;omega));clear hS aC aB HP hi ac z J U fW;generalize (oa t s (l.take 5) 5).getD 7 0=y at *;go_wp2_with(with_reducible first|refine gL 195 HL.out ?_|refine gS 195 HS.out ?_);exact aI (bA results193 rfl rN.out) rfl ⟨rfl,jA.out⟩
  |succ gg=>
   have ae:i<5:=by omega
   have aK:(i:Int)<5:=by omega
   have aN:(0:Int)<=(i:Int):=by omega
   obtain⟨af,aA⟩:=Si.out i ae;have aO:wr.cell? ⟨w.heap.size+1,i,none⟩=some (.int .i64 ((l.take 5).getD i 0)):=by
    rw[U.cell,Sw.out i (by omega),aA]
   have hw:=nD af.1 af.2;have aa:wr.cell? ⟨g,2+i,none⟩=some (.int .u64 ((oa t s (l.take 5) i).getD (2+i) 0)):=by
    rw[z.cell,aF,dO (by rw[wD V (by omega)];omega)]
   have aD:wr.frozen? ⟨g,2+i,none⟩=false:=z.frozen _;have HR:Hid (bh (wr.setCell ⟨g,2+i,none⟩ (.int .u64 ((l.take 5).getD i 0))) g (aY (oa t s (l.take 5) (i+1))).toArray 195/\bh (wr.setCell ⟨g,2+i,none⟩ (.int .u64 ((l.take 5).getD i 0))) (w.heap.size+1+1) (aY (List.replicate 8 0)).toArray 195/\bh (wr.setCell ⟨g,2+i,none⟩ (.int .u64 ((l.take 5).getD i 0))) (w.heap.size+1) ZL 109/\ay [] w (wr.setCell ⟨g,2+i,none⟩ (.int .u64 ((l.take 5).getD i 0)))):=by
    refine⟨?_,J.other (by show w.heap.size+1+1≠g;omega) _,U.other (by show w.heap.size+1≠g;omega) _,fW.setCell (.inr (by show w.heap.size<=g;omega)) _⟩;have :=z.set (2+i) (.int .u64 ((l.take 5).getD i 0));rw[ag,mI,M5 V ae] at this;exact this
   clear HP z J U fW aA;generalize (l.take 5).getD i 0=x,(oa t s (l.take 5) i).getD (2+i) 0=y at *;go_wp2_with fail;go_roundg gg;case measure=>omega
   case rel=>exact⟨i+1,by omega,by go_num,HR.out⟩
def eQ (E:List (ByteArray×Int)):List Int:=E.flatMap λp=>[((kZ (bl p.1):Nat):Int),p.2]
theorem lf (E:List (ByteArray×Int)):(eQ E).length=E.length*2:=by
 induction E with
 |nil=>rfl
 |cons p E ih=>simp[eQ] at ih ⊢;omega
theorem IP (E F:List (ByteArray×Int)):eQ (E++F)=eQ E++eQ F:=by simp[eQ]
theorem wE (E:List (ByteArray×Int)):∀k,k<E.length->(eQ E).getD (k*2) 0=((kZ (bl (eX E k)):Nat):Int)/\(eQ E).getD (k*2+1) 0=jq E k:=by
 induction E with
 |nil=>intro k h;simp at h
 |cons p E ih=>
  intro k h;have z:eQ (p::E)=((kZ (bl p.1):Nat):Int)::p.2::eQ E:=rfl;cases k with
  |zero=>rw[z];exact⟨rfl,rfl⟩
  |succ k=>
   have :=ih k (by simpa using h);rw[z,show(k+1)*2=k*2+1+1 by omega,MP,MQ];exact this
theorem F9 (E:List (ByteArray×Int))(n:Nat)(h:n<E.length):E.take (n+1)=E.take n++[(eX E n,jq E n)]:=by
 rw[bP h];have :E.getD n (ByteArray.empty,0)=E[n]:=by simp[h]
 rw[eX,jq,this]
theorem CB (E:List (ByteArray×Int))(j:Nat)(h:j<E.length):eQ (E.take (j+1))=eQ (E.take j)++[((kZ (bl (eX E j)):Nat):Int),jq E j]:=by
 rw[F9 E j h,IP];rfl
structure x8 (E:List (ByteArray×Int)):Prop where
 len:E.length<=10000
 size:∀k,k<E.length->(eX E k).size<=9223372036854775807
 ino:∀k,k<E.length->0<=jq E k/\jq E k<9223372036854775808
theorem zP (hE:bD w v g E)(ho:x8 E):
  Calls prog 212 #[v] w (jN w (eQ E)):=by
 obtain⟨a,cap,rfl,az,af,zA⟩:=hE.open;unfold maxLen at af;obtain⟨i0,hi,av,ax,ai⟩:=dc Tryz.info_u64;have aA:=ho.len;have aa:=A0 (2*E.length) (by omega) (2*(E.length:Int)) (by omega) 0 (.inl rfl) w;rw[show((0:Nat):Int)=0 from rfl] at aa;have XM:Hid ((w.alloc (.cells (madeCells #[.int .u64 0] (2*E.length)) 56)).ownsRow w.heap.size 56 1 (.slice w.heap.size 0 (2*E.length)) 0 (aY (eQ (E.take 0)))):=
  ⟨rfl,.inr ⟨w.heap.size,2*E.length,madeCells #[.int .u64 0] (2*E.length),rfl,aH _,bh.new _ _ _,by omega,by unfold maxLen;omega,by simp[madeCells],by simp[eQ,aY]⟩⟩
 have fI:Hid (ay [] w (w.alloc (.cells (madeCells #[.int .u64 0] (2*E.length)) 56))):=(ay.refl _ _).alloc _;have HW:Hid (∀j,j<E.length->∀W,Calls prog 221 #[.string (eX E j)] W λe w'=>e= .returned (.tuple #[.int .u64 (kZ (bl (eX E j)):Nat),(iy (bl (eX E j)):Bool)])/\ay [] W w'):=λj V W=>
  K0 _ (ho.size _ V) W
 have EW:Hid (∀j,j<E.length->0<=jq E j/\jq E j<9223372036854775808):=λj V=>ho.ino _ V
 have aj:Hid (∀j,j<E.length->aY (eQ (E.take (j+1)))=aY (eQ (E.take j))++[.int .u64 ((kZ (bl (eX E j)):Nat):Int),.int .u64 (jq E j)]):=λj V=>by
  rw[CB E j V,uf];rfl
 have EB:Hid (E.take E.length=E):=gy;have ak:Hid ((eQ E).length=E.length*2):=lf E;clear hE ho;generalize hn:E.length=n at *;clear hn;generalize (madeCells #[.int .u64 0] (2*n))=MC at *;go_in;go_wp2_with fail;clear aa;go_loopg [3,14] n (λgh s3 s14 W=>∃j:Nat,j+gh=n/\s14= .int .i64 (j:Int)/\Hid (W.ownsRow w.heap.size 56 1 s3 (2*j) (aY (eQ (E.take j)))/\ay [] w W))
 case atStart=>exact⟨0,by omega,rfl,XM.out,fI.out⟩
 case round=>
  clear XM fI;obtain⟨j,V,rfl,HP⟩:=hrel;cases gk with
  |zero=>
   obtain rfl:j=n:=by omega
   have HM:Hid (jN w (eQ E) (.returned u3) wr):=by
    obtain⟨U,hk⟩:=HP.out;rw[EB.out] at U;obtain⟨gg,ac,hg⟩:=fp.of_row U;by_cases h0:2*j=0
    ·exact⟨u3,w.heap.size,rfl,ac.reads.anyG (by
      have :(eQ E).length=0:=by rw[ak.out];omega
      rw[bo this];rfl) _,aH _,hk⟩
    ·exact⟨u3,gg,rfl,ac.reads,(hg h0).1,hk⟩
   clear HP V;go_wp2_with fail;go_ret;exact HM.out
  |succ gk=>
   have G:j<n:=by omega
   have aF:(j:Int)<(n:Int):=by omega
   have Cf:(0:Int)<=(j:Int):=by omega
   obtain⟨ag,off,rfl,e0,e1⟩:=zA.out j G;obtain⟨ae,jA⟩:=hh2 HP.out.1 HP.out.2;have fW:=HP.out.2;have c0:=(aO (w:=w) (a:=⟨g,off+j*2,none⟩) (fW.block g ag (by simp))).trans e0;have c1:=(aO (w:=w) (a:=⟨g,off+j*2+1,none⟩) (fW.block g ag (by simp))).trans e1;have au:=ar (HW.out j G);obtain⟨n0,n1⟩:=EW.out j G;have hw:=nD n0 n1;have Sy:=ar (aj.out j G);have aB:=fW.size;clear e0 e1 HP fW;generalize eX E j=nm,jq E j=ino at *;obtain⟨a3,ah,rfl,q1,q2⟩:=iX ae.out;generalize hT:aY (eQ (E.take j))=T at *;have HT:=ar hT;clear hT;go_wp2_with fail;refine Rr (au.out _) λw1 J=> ?_;have Qk:=(bh.new wr #[.string nm,ino] 87).keep J (by simp);have MO:=ar (eo (eo ae.out ((ay.refl [] wr).alloc (.cells #[.string nm,ino] 87)) (by simp)) J (by simp));have d1:w1.cell? ⟨wr.heap.size,1,none⟩=some (.int .i64 ino):=by rw[Qk.cell];rfl
   have jK:=ar ((jA.out.alloc (.cells #[.string nm,ino] 87)).trans' J);have aC:w.heap.size<=w1.heap.size:=jK.out.size;clear J Qk;generalize kZ (bl nm)=wv at *;have aD:2*j<=20000:=by omega
   go_wp2_with(at_builtin;refine eU _ rfl _ _ 71 rfl w.heap.size 56 i0 (.int .u64 0) 1 8 underlying71 hi av ax ai rfl (by decide) (.slice a3 (2*j) ah) (2*j) _ rfl (MO.out.alloc _) ⟨w1.heap.size,0,none⟩ 2 2 [.int .u64 (wv:Int),.int .u64 ino] rfl rfl ?c1 ?c2 (by unfold maxLen;omega) (by omega) (by simp;omega) ?_);case c1=>exact lI _ [_,_] _ _ rfl
   case c2=>simp[Value.oneCell']
   intro v' w2 z h _;obtain⟨WQ,fx⟩:=hh2 z ((jK.out.alloc _).grown h (dP MO.out));clear z h;go_wp2_with fail;go_roundg gk;case measure=>omega
   case rel=>
    refine⟨j+1,by omega,by go_num,?_,fx.out⟩;have :=WQ.out;rw[show 2*(j+1)=2*j+2 by omega,Sy.out];exact this
structure aa9 (W:Nat) (w1 w2:World):Prop where
 st:(storeVar 203 w1.heap.size (.agg (pk (lQ W)).toArray)).run prog (w1.alloc (.cells (pk (List.replicate 8 0)).toArray 203))= .ok () w2
 c7:w2.cell? ⟨w1.heap.size,7,none⟩=some (.int .u8 (rJ W 7:Nat))
 conv:rJ W 7<=7->(convert 31 9 (.slice w1.heap.size (rJ W 7) 8)).run prog w2= .ok (.string (xz ((lQ W).take (rJ W 7)))) w2
 keeps:ay [] w1 w2
theorem aba (W:Nat)(h:World):∃G,aa9 W h G:=by
 obtain⟨G,hs,J,hk⟩:=xY (l:=List.replicate 8 0) (by simp) (l8 W) (bh.new h (pk (List.replicate 8 0)).toArray 203);have hc:∀j,j<8->G.cell? ⟨h.heap.size,j,none⟩=some (.int .u8 (rJ W j:Nat)):=λj U=>by
  rw[J.cell,<-uP W j U];simpa using Be (l:=lQ W) (j:=j) (by rw[l8];omega)
 refine⟨G,hs,hc 7 (by omega),λh7=> ?_,((ay.refl [] h).alloc _).trans hk (by simp)⟩;have V:(((lQ W).take (rJ W 7)).map UInt8.ofNat).length=rJ W 7:=by simp[l8];omega
 have :=run_convert_bytes_back (P:= prog) G 31 9 5 ⟨h.heap.size,0,none⟩ 8 (((lQ W).take (rJ W 7)).map UInt8.ofNat) underlying31 underlying5 underlying9 λj U=>by
  rw[V] at U;have z:(⟨h.heap.size,0,none⟩:Addr).add j=⟨h.heap.size,j,none⟩:=by unfold Addr.add;split<;>simp_all
  rw[z,hc j (by omega)];have J:=Ch W j;simp[lQ,Nat.mod_eq_of_lt J]
 rw[V] at this;exact this
theorem M9 (b n:Nat)(z:n<=7)(w:World):(Instr.sliceAt 203 (.pointer (some ⟨b,0,none⟩)) none (some (.int .i64 (n:Int))) none).run prog w= .ok (.slice b n 8) w:=by
 have h:n=0\/n=1\/n=2\/n=3\/n=4\/n=5\/n=6\/n=7:=by omega
 rcases h with rfl|rfl|rfl|rfl|rfl|rfl|rfl|rfl<;>(show Sem.run _ _ _=_;kernel_rfl)
theorem abb (W:Nat)(w:World):
  Calls prog 220 #[.int .u64 (W:Int)] w λe w'=>e= .returned (.tuple #[.string (xz ((kN W).getD [])),.bool (kN W).isSome])/\ay [] w w':=by
 have HB:=ar (Bf W w);have ah:=Ch W 7;go_in;go_wp2_with fail;refine Rr HB.out λw1 ac=> ?_;obtain⟨w2,hm⟩:=aba W w1;have c7:=hm.c7;obtain⟨U,HK⟩:=hh2 hm (ac.trans hm.keeps (by simp));clear hm ac HB;by_cases h7:rJ W 7<=7
 ·have ae:=U.out.conv h7
  have aa:∀c∈(lQ W).take (rJ W 7),c<256:=Sd (Sc W) _;have G:=K0 (xz ((lQ W).take (rJ W 7))) (by rw[JG];simp[l8];omega) w2;rw[Sq aa] at G;unfold kZ at G;have J:Hid (kN W=if iy ((lQ W).take (rJ W 7))=true/\rK ((lQ W).take (rJ W 7))=W then some ((lQ W).take (rJ W 7)) else none):=by
   show kN W=_;unfold kN;simp only[h7,true_and]
  generalize (lQ W).take (rJ W 7)=l at *;clear aa;generalize rJ W 7=n at *;have G:=ar G;have af:=λwz=>M9 w1.heap.size n h7 wz
  have ag:decide (7<(n:Int))=false:=by simp;omega
  cases hg:iy l
  ·rw[hg,aA (by simp)] at G
   rw[hg,aA (by simp)] at J;clear hg;go_wp2_with(first|(with_reducible refine gS 203 U.out.st ?_)|(go_at_call 221;refine Rr G.out λw3 z=> ?_;have oI:=ar z;clear z));go_ret2;exact⟨by rw[J.out];rfl,HK.out.trans oI.out (by simp)⟩
  ·rw[hg,aB rfl] at G
   rw[hg] at J;clear hg;by_cases V:rK l=W
   ·rw[aB ⟨rfl,V⟩] at J
    rw[V] at G;clear V;go_wp2_with(first|(with_reducible refine gS 203 U.out.st ?_)|(go_at_call 221;refine Rr G.out λw3 z=> ?_;have oI:=ar z;clear z));go_ret2;exact⟨by rw[J.out];rfl,HK.out.trans oI.out (by simp)⟩
   ·rw[aA (λh=>V h.2)] at J
    have e1:((rK l:Int) != (W:Int))=true:=by simp;omega
    clear V;go_wp2_with(first|(with_reducible refine gS 203 U.out.st ?_)|(go_at_call 221;refine Rr G.out λw3 z=> ?_;have oI:=ar z;clear z));go_ret2;exact⟨by rw[J.out];rfl,HK.out.trans oI.out (by simp)⟩
 ·have J:Hid (kN W=none):=by
   show kN W=none;unfold kN;rw[aA (λh=>h7 h.1)]
  generalize rJ W 7=n at *;go_wp2_with(first|(with_reducible refine gS 203 U.out.st ?_));go_ret2;exact⟨by rw[J.out];rfl,HK.out⟩
def mJ (L:List Int) (n:Nat):List (ByteArray×Int):=(List.range n).map λk=>(xz ((kN (L.getD (k*2) 0).toNat).getD []),L.getD (k*2+1) 0)
def qJ (L:List Int) (n:Nat):Prop:=∀k,k<n->(kN (L.getD (k*2) 0).toNat).isSome=true/\L.getD (k*2+1) 0<32
theorem ko (L:List Int)(n:Nat):(mJ L n).length=n:=by simp[mJ]
theorem CD (L:List Int)(n e:Nat)(h:e<n):eX (mJ L n) e=xz ((kN (L.getD (e*2) 0).toNat).getD [])/\jq (mJ L n) e=L.getD (e*2+1) 0:=by
 have :(mJ L n).getD e (ByteArray.empty,0)=(xz ((kN (L.getD (e*2) 0).toNat).getD []),L.getD (e*2+1) 0):=by
  rw[mJ,aj,bJ,cB h];rfl
 rw[eX,jq,this];exact⟨rfl,rfl⟩
theorem zQ (L:List Int)(n e:Nat)(h:e<n):(mJ L n)[e]'(by rw[ko];exact h)=(xz ((kN (L.getD (e*2) 0).toNat).getD []),L.getD (e*2+1) 0):=by simp[mJ]
theorem Tryz.info_entry:(prog.info? 87).map (λi=>(i.zero,i.size,i.bytes))=some (some (.agg #[.string ⟨#[]⟩,(0:Int)]),2,24):=by kernel_rfl
theorem Uf (n:Nat)(W:n<=100000)(m:Int)(J:m=(n:Int))(w:World):(Instr.makeSlice 32 (.int .i64 m) (.int .i64 m)).run prog w=
  .ok (.slice w.heap.size n n) (w.alloc (.cells (madeCells #[.string ⟨#[]⟩,(0:Int)] (n*2)) 87)):=by
 subst J;obtain⟨U,V,h,z,G⟩:=dc Tryz.info_entry;have :=run_make (P:= prog) w 32 87 U _ underlying32 V h .i64 .i64 (n:Int) (n:Int) (by omega) (by omega) (by rw[G];omega) (by omega);rw[z,aG] at this;exact this
theorem DV (n:Nat):(madeCells #[Value.string ⟨#[]⟩,Value.int .i64 0] (n*2)).toList=fc (List.replicate n (ByteArray.empty,0)):=by
 apply cD;intro j;simp only[madeCells,Array.toList_map,Array.toList_range,bJ];by_cases G:j<n*2
 ·rw[cB G]
  have z:=ql (List.replicate n (ByteArray.empty,(0:Int))) (j/2) (by simp;omega);have U:eX (List.replicate n (ByteArray.empty,(0:Int))) (j/2)=ByteArray.empty:=by
   simp[eX,bj];split<;>rfl
  have J:jq (List.replicate n (ByteArray.empty,(0:Int))) (j/2)=0:=by
   simp[jq,bj];split<;>rfl
  rw[U,J] at z;rcases (show j%2=0\/j%2=1 by omega) with h|h
  ·rw[show j/2*2=j by omega] at z
   rw[z.1];simp[h];rfl
  ·rw[show j/2*2+1=j by omega] at z
   rw[z.2];simp[h]
 ·rw[aP (by simpa using G),aP (by rw[lT,bE];omega)];rfl
theorem Ug (w:World)(n:Nat)(z:n<=100000):fp (w.alloc (.cells (madeCells #[.string ⟨#[]⟩,(0:Int)] (n*2)) 87)) (.slice w.heap.size n n) w.heap.size 87 2 n (fc (List.replicate n (ByteArray.empty,0))):=by
 have h:(madeCells #[Value.string ⟨#[]⟩,Value.int .i64 0] (n*2)).size=n*2:=by rw[<-dL,DV,lT,bE]
 refine⟨by rw[lT,bE],_,n,rfl,aH _,by unfold maxLen;omega,λ_=>⟨rfl,_,bh.new _ _ _,h,?_⟩⟩;rw[DV,aW (by rw[lT,bE];omega)]
theorem Ql (l:List (ByteArray×Int))(a:ByteArray)(x:Int):∀k,((fc l).set (k*2) (.string a)).set (k*2+1) (.int .i64 x)=fc (l.set k (a,x)):=by
 induction l with
 |nil=>intro k;rfl
 |cons p l ih=>
  intro k;have h:∀(p:ByteArray×Int) l,fc (p::l)= .string p.1:: .int .i64 p.2::fc l:=λ_ _=>rfl
  cases k with
  |zero=>rfl
  |succ k=>rw[h,ai,h,<-ih k,show(k+1)*2=k*2+1+1 by omega];rfl
theorem fp.ent{l:List (ByteArray×Int)}(h:fp w v g T 2 n (fc l))(k:Nat)(a:ByteArray)(x:Int):
  fp ((w.setCell ⟨g,k*2,none⟩ (.string a)).setCell ⟨g,k*2+1,none⟩ (.int .i64 x)) v g T 2 n (fc (l.set k (a,x))):=by
 have :=(h.set (k*2) (.string a)).set (k*2+1) (.int .i64 x);rw[Ql] at this;exact this
def oX (w:World) (L:List Int) (n:Nat) (e:Ending) (w':World):Prop:=
 (∃g,e= .returned (.tuple #[.slice (g:Nat) n n,true])/\fp w' (.slice (g:Nat) n n) g 87 2 n (fc (mJ L n))/\w.heap.size<=g/\qJ L n/\ay [] w w')\/
 (e= .returned (.tuple #[(),false])/\¬qJ L n/\ay [] w w')
theorem xm{L:List Int}(h:Reads w v g (aY L))(hL:L.length<=1000)(n:Nat)(hn:n=L.length/2)(af:∀k,0<=L.getD k 0/\L.getD k 0<18446744073709551616):
  Calls prog 210 #[v] w (oX w L n):=by
 obtain⟨a,cap,rfl,h1,h2,HC⟩:=fV h;have H:=ar h;have hq:((L.length:Int)).tdiv 2=(n:Int):=by rw[hn,Int.ofNat_tdiv];rfl
 have ak:=Uf n (by omega) (n:Int) rfl w;have ag:Hid (fp (w.alloc (.cells (madeCells #[.string ⟨#[]⟩,(0:Int)] (n*2)) 87)) (.slice w.heap.size n n) w.heap.size 87 2 n (fc (dS (ByteArray.empty,0) (mJ L n) 0))):=by
  have :=Ug w n (by omega);rw[lJ,ko];exact this
 have fI:Hid (ay [] w (w.alloc (.cells (madeCells #[.string ⟨#[]⟩,(0:Int)] (n*2)) 87))):=(ay.refl _ _).alloc _;have rN:Hid (2*n<=L.length):=by show _<=_;omega
 have aC:n<=500:=by omega
 have uV:=ar af;generalize hm:L.length=m at *;clear h af hn hL hm;generalize madeCells #[Value.string ⟨#[]⟩,Value.int .i64 0] (n*2)=MC at *;go_in;go_wp2_with fail;clear ak;go_loopg [15] n (λgh s15 wx=>∃k:Nat,k+gh=n/\s15= .int .i64 (k:Int)/\Hid (fp wx (.slice w.heap.size n n) w.heap.size 87 2 n (fc (dS (ByteArray.empty,0) (mJ L n) k))/\(∀j,j<k->(kN (L.getD (j*2) 0).toNat).isSome=true/\L.getD (j*2+1) 0<32)/\ay [] w wx))
 case atStart=>exact⟨0,by omega,rfl,ag.out,λj hj=>by omega,fI.out⟩
 case round=>
  clear ag fI;obtain⟨k,hk,rfl,HP⟩:=hrel;cases gk with
  |zero=>
   obtain rfl:k=n:=by omega
   have HM:Hid (oX w L k (.returned (.tuple #[.slice w.heap.size k k,true])) wr):=by
    obtain⟨ho,hj,fW⟩:=HP.out;have e:=mz (ByteArray.empty,(0:Int)) (mJ L k);rw[ko] at e;rw[e] at ho;exact .inl ⟨_,rfl,ho,aH _,hj,fW⟩
   clear HP hk;go_wp2_with fail;go_ret2;exact HM.out
  |succ gk=>
   have G:k<n:=by omega
   have az:(k:Int)<(n:Int):=by omega
   have cJ:(0:Int)<=(k:Int):=by omega
   obtain⟨ho,U,fW⟩:=HP.out;obtain⟨xy,jA,av⟩:=hh3 U fW ho;obtain⟨ai,off,rfl,c0⟩:=HC.out (2*k) (by have :=rN.out;omega);obtain⟨-,ax,au,c1⟩:=HC.out (2*k+1) (by have :=rN.out;omega);cases au;have d0:=(aO (w:=w) (a:=⟨g,off+2*k,none⟩) (fW.block g ai (by simp))).trans c0;have ac:Hid (∀wx,ay [] wr wx->wx.cell? ⟨g,off+(2*k+1),none⟩=some (.int .u64 (L.getD (k*2+1) 0))):=λwx ah=>by
    have :=(aO (w:=w) (a:=⟨g,off+(2*k+1),none⟩) ((fW.trans' ah).block g ai (by simp))).trans c1;rw[this,Nat.mul_comm 2 k]
   have hW:=uV.out (2*k);have hI:=uV.out (k*2+1);obtain⟨W,aa⟩:∃W:Nat,L.getD (2*k) 0=(W:Int):=⟨(L.getD (2*k) 0).toNat,by omega⟩;rw[aa] at d0;have HW:Hid ((L.getD (k*2) 0).toNat=W):=by show _=_;rw[Nat.mul_comm k 2,aa];omega
   have A1:=ar (abb W wr);have JN:2*(k:Int)+1<(m:Int):=by have :=rN.out;omega
   have ah:2*(k:Int)<(m:Int):=by have :=rN.out;omega
   have JO:=ar (zQ L n k G);rw[HW.out] at JO;have aD:=hI.2;have aB:=hI.1;clear c0 c1 hW hI HP ho U fW aa;generalize aj:L.getD (k*2+1) 0=ino at *;have Uh:=ar aj;clear aj;generalize ae:(kN W).isSome=EC at *;have XN:=ar ae;clear ae;generalize xz ((kN W).getD [])=nm at *;have j6:Hid (¬(EC=true/\ino<32)->¬qJ L n):=λh hh=>by
    have :=hh k G;rw[HW.out,XN.out,Uh.out] at this;exact h this
   cases EC
   ·have HN:Hid (¬qJ L n):=j6.out (by simp)
    go_wp2_with fail;refine Rr A1.out λw6 z=> ?_;have d1:=ac.out w6 z;have um:=ar (jA.out.trans' z);clear z;go_wp2_with fail;go_ret2;exact .inr ⟨rfl,HN.out,um.out⟩
   ·by_cases jG:32<=ino
    ·have HN:Hid (¬qJ L n):=j6.out λh=>by have :=h.2;omega
     go_wp2_with fail;refine Rr A1.out λw6 z=> ?_;have d1:=ac.out w6 z;have um:=ar (jA.out.trans' z);clear z;go_wp2_with fail;go_ret2;exact .inr ⟨rfl,HN.out,um.out⟩
    ·have aA:wrap64 ino=ino:=by unfold wrap64;omega
     have J:(dS (ByteArray.empty,(0:Int)) (mJ L n) k).length=n:=by rw[lR _ _ _ (by rw[ko];omega),ko]
     go_wp2_with fail;refine Rr A1.out λw6 z=> ?_;have d1:=ac.out w6 z;have tX:=ar (jA.out.trans' z);have V:=av.out.keepIf z (λ_=>by simp);obtain⟨-,-,hc,hf⟩:=V.cell (by omega);have e0:=(hc (k*2) (by omega)).trans (ql (dS (ByteArray.empty,0) (mJ L n) k) k (by rw[J];exact G)).1;have e1:=(hc (k*2+1) (by omega)).trans (ql (dS (ByteArray.empty,0) (mJ L n) k) k (by rw[J];exact G)).2;have f0:=hf (k*2);have f1:=hf (k*2+1);obtain⟨HE,HP⟩:=hh2 (lK (ByteArray.empty,(0:Int)) (mJ L n) k (by rw[ko];exact G) (nm,ino) JO.out) (V.ent k nm ino);have Ga:Hid (∀j,j<k+1->(kN (L.getD (j*2) 0).toNat).isSome=true/\L.getD (j*2+1) 0<32):=λj hj=>by
      by_cases e:j=k
      ·subst e
       rw[HW.out,XN.out,Uh.out];exact⟨rfl,by omega⟩
      ·exact xy.out j (by omega)
     clear z V hc hf J j6;generalize eX (dS (ByteArray.empty,(0:Int)) (mJ L n) k) k=o1,jq (dS (ByteArray.empty,(0:Int)) (mJ L n) k) k=o2 at *;go_wp2_with fail;go_roundg gk;case measure=>omega
     case rel=>
      refine⟨k+1,by omega,by go_num,?_,Ga.out,(tX.out.setCell (.inr (aH _)) _).setCell (.inr (aH _)) _⟩;rw[<-HE.out];exact HP.out
def Qm (l:List Nat):List Value:=l.map λn:Nat=>Value.int .u64 (n:Int)
theorem Na (l:List Nat):(Qm l).length=l.length:=by simp[Qm]
theorem XO{l:List Nat}(h:j<l.length):(Qm l)[j]? =some (.int .u64 (l.getD j 0:Nat)):=by simp[Qm,h]
theorem xo{β:Type}(f:β->Nat->β)(l:List Nat)(h:β)(k:Nat)(z:k<l.length):(l.take (k+1)).foldl f h=f ((l.take k).foldl f h) (l.getD k 0):=by
 rw[bP z,List.foldl_append];simp[z]
theorem abc{c:Nat}(z:h<4294967296)(G:c<256):bits .xor .u32 (h:Int) (c:Int)*16777619%4294967296=((fnv h c:Nat):Int):=by
 rw[u32_xor_nat h c z (by omega),fnv];rfl
theorem XP{gb:Nat}{xs:List Nat}(h:Reads w v gb (Qm xs)):
  Calls prog 124 #[v] w λe w'=>e= .returned (.int .u32 (Mu xs:Nat))/\ay [] w w':=by
 obtain⟨a,cap,rfl,h1,h2,h3⟩:=h;rw[Na] at *;unfold maxLen at h2;have H3:Hid (∀k,k<xs.length->gb<w.heap.size/\∃off,a=some ⟨gb,off,none⟩/\w.cell? ⟨gb,off+k,none⟩=some (.int .u64 (xs.getD k 0:Nat))):=λk V=>by
  obtain⟨hg,off,ho,J⟩:=h3 (by intro e;have :=cN List.length e;rw[Na,cC] at this;omega);exact⟨hg,off,ho,(J k V).trans (XO V)⟩
 clear h3;go_in;go_wp2_with fail;go_loopg [3,10] xs.length (λg s3 Xt wx=>∃k:Nat,k+g=xs.length/\Xt= .int .i64 (k:Int)/\s3= .int .u32 (((xs.take k).foldl TF 2166136261:Nat):Int)/\Hid (ay [] w wx))
 case atStart=>exact⟨0,by omega,rfl,rfl,ay.refl _ _⟩
 case round=>
  obtain⟨k,V,rfl,rfl,HK⟩:=hrel;cases gk with
  |zero=>
   obtain rfl:k=xs.length:=by omega
   have ae:¬(xs.length:Int)<(xs.length:Int):=by omega
   rw[aW (aH _)];go_wp2_with fail;go_ret;exact⟨rfl,HK.out⟩
  |succ g=>
   have ae:(k:Int)<(xs.length:Int):=by omega
   obtain⟨hg,off,rfl,J⟩:=H3.out k (by omega);have W:wr.cell? ⟨gb,off+k,none⟩=some (.int .u64 (xs.getD k 0:Nat)):=by
    rw[aO (w:=w) (HK.out.block gb hg (by simp))];exact J
   have hh:=zL (xs.take k) 2166136261 (by decide);have HT:=ar (xo TF xs 2166136261 k (by omega));generalize (xs.take k).foldl TF 2166136261=h,xs.getD k 0=x at *;have HB:=ar (Bf x wr);clear J;go_wp2_with(go_at_call 148;refine Rr HB.out λw2 G=> ?_;have fx:=ar (HK.out.trans G (by simp));clear G);obtain⟨wo,rfl⟩:∃wo:World,wo=wr:=⟨_,rfl⟩;clear W;go_loopg [3,16] 8 (λg2 s3 s16 wx=>∃z:Nat,z+g2=8/\s16= .int .i64 (z:Int)/\s3= .int .u32 ((((lQ x).take z).foldl fnv h:Nat):Int)/\wx=w2)
   case atStart=>exact⟨0,by omega,rfl,rfl,rfl⟩
   case round=>
    obtain⟨z,G,rfl,rfl,rfl⟩:=hrel;cases gk with
    |zero=>
     obtain rfl:z=8:=by omega
     rw[aW (by rw[l8];omega)];go_wp2_with fail;go_roundg g;case measure=>omega
     case rel=>exact⟨k+1,by omega,by go_num,by rw[HT.out];rfl,fx.out⟩
    |succ g2=>
     have Qn:(z:Int)<8:=by omega
     have Iv:=DL (lQ x) (l8 x) z (by omega);have ac:=ar (xo fnv (lQ x) h z (by rw[l8];omega));have U:=AX ((lQ x).take z) h hh;have aa:(lQ x).getD z 0<256:=by rw[uP x z (by omega)];exact Ch _ _
     generalize ((lQ x).take z).foldl fnv h=h',(lQ x).getD z 0=c at *;have HF:=ar (abc U aa);go_wp2_with fail;go_roundg g2;case measure=>omega
     case rel=>
      refine⟨z+1,by omega,by go_num,?_,rfl⟩;rw[ac.out,HF.out]
def rT (l:List Nat):Nat:=if iy l=true then Mu [rK l]%4 else 0
theorem Ui (s:ByteArray)(hs:s.size<=9223372036854775807)(w:World):Calls prog 230 #[.string s] w λe w'=>e= .returned (.int .i64 (rT (bl s):Nat))/\ay [] w w':=by
 have z:=K0 s hs w;unfold kZ at z;unfold rT;have z:=ar z;cases hg:iy (bl s)
 ·rw[hg,aA (by simp)] at z
  rw[aA (by simp)];clear hg;go_in;go_wp2_with(go_at_call 221;refine Rr z.out λJ h=> ?_;have V:=ar h;clear h);go_ret;exact⟨rfl,V.out⟩
 ·rw[hg,aB rfl] at z
  rw[aB rfl];clear hg;generalize rK (bl s)=W at *;have hq:=KJ [W];have U:=λ(J:World)=>XP (w:=J.alloc (.cells #[.int .u64 (W:Int)] 56)) (v:= .slice J.heap.size 1 1) (gb:=J.heap.size) (xs:=[W])
   (fp.reads (T:= 56) (n:=1) ⟨rfl,_,1,rfl,aH _,by unfold maxLen;omega,λ_=>⟨rfl,_,bh.new _ _ _,rfl,rfl⟩⟩)
  have U:=ar U;generalize Mu [W]=q at *;go_in;go_wp2_with(first|(go_at_call 221;refine Rr z.out λJ h=> ?_;have V:=ar h;clear h)|(go_at_call 124;refine Rr (U.out _) λw2 G=> ?_;have fx:=ar G;clear G));go_ret;exact⟨rfl,(V.out.alloc _).trans fx.out (by simp)⟩
def K7 (p:ByteArray×Int):Nat:=rT (bl p.1)
theorem Qo (p:ByteArray×Int):K7 p<4:=by
 unfold K7 rT;split
 ·exact iz _ (by decide)
 ·decide
def eB (E:List (ByteArray×Int)) (b:Nat):List (ByteArray×Int):=E.filter λp=>K7 p==b
theorem Uj (E:List (ByteArray×Int))(p:ByteArray×Int)(b:Nat):eB (E++[p]) b=if b=K7 p then eB E b++[p] else eB E b:=by
 unfold eB;rw[eJ];by_cases h:b=K7 p
 ·subst h;simp
 ·have :(K7 p==b)=false:=by simp;omega
  simp[this,h]
theorem kG (E:List (ByteArray×Int))(b:Nat):(eB E b).length<=E.length:=fQ _ _
structure Four (w:World) (base:Nat) (S:Nat->Value) (F:Nat->List (ByteArray×Int)):Prop where
 row:∀b,b<4->w.ownsRow base 87 2 (S b) (F b).length (fc (F b))
 ne:∀b c,b<4->c<4->b≠c->∀g,(S b).ownBlock=some g->(S c).ownBlock≠some g
def pG (S:Nat->Value):Array Value:= #[S 0,S 1,S 2,S 3]
theorem JP (S:Nat->Value){q:Nat}(h:q<4):(pG S)[q]? =some (S q):=by
 rcases (show q=0\/q=1\/q=2\/q=3 by omega) with rfl|rfl|rfl|rfl<;>rfl
theorem Uk (S:Nat->Value){q:Nat}(h:q<4)(v:Value):(pG S).setIfInBounds q v=pG λb=>if b=q then v else S b:=by
 rcases (show q=0\/q=1\/q=2\/q=3 by omega) with rfl|rfl|rfl|rfl<;>rfl
theorem Four.keep(h:Four w z S F){l:List Nat}(J:ay l w w')(U:∀x,x∈l->x<z):Four w' z S F:=
 ⟨λb G=>eo (h.row b G) J λg W V=>by have :=dP (h.row b G) g W;have :=U g V;omega,h.ne⟩
theorem Four.nil(w:World)(h:Nat):Four w h (λ_=> .slice none 0 0) λ_=>[]:=
 ⟨λ_ _=>⟨rfl,.inl ⟨rfl,rfl⟩⟩,λ_ _ _ _ _ g z=>by cases z⟩
theorem Am{sz:Nat}{xs:List Value}(h:w.ownsRow z T sz v n xs):∀k,v.ownBlock=some k->k<w.heap.size:=by
 intro k G;obtain⟨-,W⟩:=h;rcases W with ⟨J,-⟩|⟨g2,cap,V,J,-,U,-⟩
 ·rw[J] at G;cases G
 ·rw[J] at G
  cases G;exact(Array.getElem?_eq_some_iff.1 U).1
theorem Four.grow(h:Four w z S F){q:Nat}(hq:q<4){v:Value}{p:ByteArray×Int}{g:Nat}
  (W:w'.ownsRow z 87 2 v ((F q).length+1) (fc (F q++[p]))) (U:w.grownBy w' (S q).ownBlock) (hv:v.ownBlock=some g) (af:(S q).ownBlock=some g\/g=w.heap.size):
  Four w' z (λb=>if b=q then v else S b) λb=>if b=q then F b++[p] else F b:=by
 refine⟨λb J=> ?_,λb c J hc ac x hx=> ?_⟩
 ·show w'.ownsRow z _ 2 (if b=q then v else S b) (if b=q then F b++[p] else F b).length (fc (if b=q then F b++[p] else F b))
  by_cases e:b=q
  ·subst e
   rw[aB rfl,aB rfl,aC];exact W
  ·rw[aA e,aA e]
   obtain⟨h0,h1⟩:=h.row b J;refine⟨h0,?_⟩;rcases h1 with ⟨e1,V⟩|⟨g2,cap,ae,e1,V,hh,e3⟩
   ·exact .inl ⟨e1,V⟩
   ·refine .inr ⟨g2,cap,ae,e1,V,?_,e3⟩
    rw[<-hh];refine U.block g2 (Array.getElem?_eq_some_iff.1 hh).1 λe4=> ?_
    exact h.ne b q J hq e g2 (by rw[e1];rfl) e4.symm
 ·have aa:∀b,b<4->b≠q->(S b).ownBlock≠some g:=λb J ag hx=>by
   rcases af with h1|h1
   ·exact h.ne b q J hq ag g hx h1
   ·have :=Am (h.row b J) g hx
    omega
  show(if c=q then v else S c).ownBlock≠some x;have G:(if b=q then v else S b).ownBlock=some x:=hx;by_cases e:b=q
  ·rw[aB e,hv] at G
   cases G;rw[aA];exact aa c hc (by omega)
  ·rw[aA e] at G
   by_cases V:c=q
   ·rw[aB V,hv]
    intro h3;cases h3;exact aa b J e G
   ·rw[aA V]
    exact h.ne b c J hc ac x G
theorem Ul (w:World):(zeroValue 265).run prog w= .ok (.agg (pG λ_=> .slice none 0 0)) w:=by kernel_rfl
theorem JQ:(prog.info? 265).map (·.size)=some 4:=by kernel_rfl
theorem JR (h:bh w g (pG S) T):(loadVar 265 g).run prog w= .ok (.agg (pG S)) w:=
 b7 g 0 [S 0,S 1,S 2,S 3] underlying265 rfl JQ λj z=>by
  rw[h.cell,bc];unfold pG;rw[aF]
theorem Nb{U wa V:World}{Z4:Array Value}{q m J:Nat}{p:ByteArray×Int}(G:ay [] U wa)(ae:wa.heap.size=U.heap.size+1)
  (hf:Four U (w.heap.size+2) S (eB (E.take j))) (ac:bh U (w.heap.size+1) (pG S) 265) (aa:bh U w.heap.size Z4 265) (fW:ay [] w U) (hq:q<4)
  (hm:(eB (E.take j) q).length=m) (W:V.ownsRow (w.heap.size+2) 87 2 (.slice J (m+1) h) (m+1) (fc (eB (E.take j) q)++[.string p.1,.int .i64 p.2]))
  (z:wa.grownBy V (S q).ownBlock) (ah:(S q).ownBlock=some J\/J=U.heap.size+1) (af:∀b,eB (E.take (j+1)) b=if b=q then eB (E.take j) b++[p] else eB (E.take j) b):
  ∃S',bh (V.setCell ⟨w.heap.size+1,q,none⟩ (.slice J (m+1) h)) (w.heap.size+1) (pG S') 265/\bh (V.setCell ⟨w.heap.size+1,q,none⟩ (.slice J (m+1) h)) w.heap.size Z4 265/\
   Four (V.setCell ⟨w.heap.size+1,q,none⟩ (.slice J (m+1) h)) (w.heap.size+2) S' (eB (E.take (j+1)))/\ay [] w (V.setCell ⟨w.heap.size+1,q,none⟩ (.slice J (m+1) h)):=by
 have ai:=hf.keep G (by simp);have xQ:∀k,(S q).ownBlock=some k->w.heap.size+2<=k:=dP (hf.row q hq);have Gb:=(z.block (w.heap.size+1) (ac.keep G (by simp)).lt (λe=>by have :=xQ _ e.symm;omega)).trans (ac.keep G (by simp));have ag:=(z.block w.heap.size (aa.keep G (by simp)).lt (λe=>by have :=xQ _ e.symm;omega)).trans (aa.keep G (by simp));have hF:=ai.grow (p:=p) (v:= .slice J (m+1) h) (g:=J) hq (by rw[hm,qH];exact W) z rfl (by rw[ae];exact ah);have hS:(λb=>if b=q then eB (E.take j) b++[p] else eB (E.take j) b)=eB (E.take (j+1)):=by
  funext b
  exact(af b).symm
 rw[hS] at hF;refine⟨_,?_,bh.other ag (by simp) _,hF.keep ((ay.refl [w.heap.size+1] V).setCell (p:=⟨w.heap.size+1,q,none⟩) (.inl (by simp)) _) (by intro x hx;rw[au] at hx;omega),?_⟩
 ·have :=bh.set Gb q (.slice J (m+1) h)
  rw[Uk S hq] at this;exact this
 ·exact((fW.trans' G).grown z (λk hk=>by have :=xQ k hk;omega)).setCell (.inr (by show w.heap.size<=w.heap.size+1;omega)) _
def wF (w:World) (E:List (ByteArray×Int)) (e:Ending) (w':World):Prop:=
 ∃S:Nat->Value,e=pG S/\ay [] w w'/\∀b,b<4->∃g,bD w' (S b) g (eB E b)/\w.heap.size<=g
theorem JS (hE:bD w v g E)(bf:E.length<=10000)(aA:∀k,k<E.length->(eX E k).size<=9223372036854775807):
  Calls prog 216 #[v] w (wF w E):=by
 obtain⟨a,cap,rfl,bb,aM,zA⟩:=hE.open;unfold maxLen at aM;obtain⟨i0,hi,aX,aY,aS⟩:=dc Tryz.info_entry;have av:=Ul;obtain⟨G,ai⟩:∃G,G=pG λ_=> .slice none 0 0:=⟨_,rfl⟩
 rw[<-ai] at av;have aF:=ar ai;clear ai;have qI:Hid (bh ((w.alloc (.cells G 265)).alloc (.cells G 265)) (w.heap.size+1) G 265):=by
  have :=bh.new (w.alloc (.cells G 265)) G 265;have e:(w.alloc (.cells G 265)).heap.size=w.heap.size+1:=by simp
  rw[e] at this;exact this
 have oQ:Hid (bh ((w.alloc (.cells G 265)).alloc (.cells G 265)) w.heap.size G 265):=(bh.new w _ _).alloc _;have fI:Hid (ay [] w ((w.alloc (.cells G 265)).alloc (.cells G 265))):=((ay.refl _ _).alloc _).alloc _;have HW:Hid (∀j,j<E.length->∀wx,Calls prog 230 #[.string (eX E j)] wx λe w'=>e= .returned (.int .i64 (rT (bl (eX E j)):Nat))/\ay [] wx w'):=λj hj wx=>Ui _ (aA j hj) wx
 have aR:Hid (∀j,j<E.length->E.take (j+1)=E.take j++[(eX E j,jq E j)]):=λj hj=>F9 E j hj
 have CE:Hid (∀j b,(eB (E.take j) b).length<=E.length):=λj b=>cE (kG _ _) (by rw[aJ];omega)
 have EB:Hid (E.take E.length=E):=gy;clear hE aA;generalize hn:E.length=n at *;clear hn;go_in;go_wp2_with fail;clear av;go_loopg [9] n (λgh s9 wx=>∃(j:Nat) (S:Nat->Value),j+gh=n/\s9= .int .i64 (j:Int)/\Hid (bh wx (w.heap.size+1) (pG S) 265/\bh wx w.heap.size G 265/\Four wx (w.heap.size+2) S (eB (E.take j))/\ay [] w wx))
 case atStart=>
  refine⟨0,λ_=> .slice none 0 0,by omega,rfl,?_,oQ.out,?_,fI.out⟩
  ·rw[<-aF.out];exact qI.out
  ·have :eB (E.take 0)=λ_=>[]:=by funext b;rfl
   rw[this];exact Four.nil _ _
 case round=>
  clear oQ qI fI;obtain⟨j,S,hj,rfl,HP⟩:=hrel;cases gk with
  |zero=>
   obtain rfl:j=n:=by omega
   obtain⟨U,V,hf,fW⟩:=HP.out;have HL:=ar (JR U);have aZ:G.size=4:=by rw[aF.out];rfl
   obtain⟨w2,hS,aB,ag⟩:=bH (P:= prog) (ty:= 265) (cs:=[S 0,S 1,S 2,S 3]) JQ V (by rw[aZ];rfl) (λu hu=>by
    simp only[aL,aK,bC] at hu;rcases hu with rfl|rfl|rfl|rfl
    ·obtain⟨a,c,h,-⟩:=iX (hf.row 0 (by omega));rw[h];rfl
    ·obtain⟨a,c,h,-⟩:=iX (hf.row 1 (by omega));rw[h];rfl
    ·obtain⟨a,c,h,-⟩:=iX (hf.row 2 (by omega));rw[h];rfl
    ·obtain⟨a,c,h,-⟩:=iX (hf.row 3 (by omega));rw[h];rfl)
   have HS:Hid ((storeVar 265 w.heap.size (.agg (pG S))).run prog wr= .ok () w2):=hS;have rN:Hid ((loadVar 265 w.heap.size).run prog w2= .ok (.agg (pG S)) w2):=JR (S:=S) aB;have HM:Hid (wF w E (.returned (pG S)) w2):=by
    refine⟨S,rfl,fW.trans ag (by simp),λb hb=> ?_⟩;have hr:=eo (hf.row b hb) ag (λg hg hm=>by
     have :=dP (hf.row b hb) g hg;rw[au] at hm;omega)
    rw[EB.out] at hr;obtain⟨g,ho,hg⟩:=fp.of_row hr;by_cases h0:(eB E b).length=0
    ·exact⟨w.heap.size,(ho.ereads rfl).anyG h0 _,aH _⟩
    ·exact⟨g,ho.ereads rfl,by have :=(hg h0).1;omega⟩
   clear HP hj U V hf fW hS aB ag;go_wp2_with(with_reducible first|refine gL 265 HL.out ?_|refine gS 265 HS.out ?_);exact aI (bA results216 rfl rN.out) rfl HM.out
  |succ gk=>
   have af:j<n:=by omega
   have bj:(j:Int)<(n:Int):=by omega
   have Cf:(0:Int)<=(j:Int):=by omega
   obtain⟨aC,off,rfl,e0,e1⟩:=zA.out j af;obtain⟨U,V,hf,fW⟩:=HP.out;obtain⟨qI,oQ,HF,jA⟩:=hh4 U V hf fW;have c0:=(aO (w:=w) (a:=⟨g,off+j*2,none⟩) (fW.block g aC (by simp))).trans e0;have c1:=(aO (w:=w) (a:=⟨g,off+j*2+1,none⟩) (fW.block g aC (by simp))).trans e1;have aW:=ar (HW.out j af);have Sy:Hid (∀b,eB (E.take (j+1)) b=if b=K7 (eX E j,jq E j) then eB (E.take j) b++[(eX E j,jq E j)] else eB (E.take j) b):=λb=>by rw[aR.out j af,Uj]
   have ae:rT (bl (eX E j))<4:=Qo (eX E j,jq E j);have az:K7 (eX E j,jq E j)=rT (bl (eX E j)):=rfl;have bp:w.heap.size+1<wr.heap.size:=U.lt;rw[az] at Sy;clear e0 e1 HP U V hf fW az;generalize eX E j=nm,jq E j=ino at *;generalize rT (bl nm)=q at *;go_wp2_with fail;refine Rr (aW.out _) λJ ah=> ?_;have Qk:=(bh.new wr #[.string nm,ino] 87).keep ah (by simp);have IQ:Hid (ay [] wr J):=((ay.refl [] wr).alloc (.cells #[.string nm,ino] 87)).trans' ah;obtain⟨aG,ac,aQ⟩:=hh3 (HF.out.keep IQ.out (by simp)) (qI.out.keep IQ.out (by simp)) (oQ.out.keep IQ.out (by simp));have bg:w.heap.size+2<=J.heap.size:=by have :=IQ.out.size;omega
   have d0:∀o,(J.alloc o).drew.cell? wr.heap.size=some (.string nm):=λo=>by rw[(Qk.alloc o).drew.cell];rfl
   have d1:∀o,(J.alloc o).drew.cell? ⟨wr.heap.size,1,none⟩=some (.int .i64 ino):=λo=>by rw[(Qk.alloc o).drew.cell];rfl
   have bo:J.cell? wr.heap.size=some (.string nm):=by rw[Qk.cell];rfl
   have bk:J.cell? ⟨wr.heap.size,1,none⟩=some (.int .i64 ino):=by rw[Qk.cell];rfl
   have aa:=aG.out.row q ae;obtain⟨aq,cq,aV,q1,q2⟩:=iX aa;have bn:J.cell? ⟨w.heap.size+1,q,none⟩=some (S q):=by rw[ac.out.cell,JP S ae]
   have aN:∀o,(J.alloc o).drew.cell? ⟨w.heap.size+1,q,none⟩=some (S q):=λo=>by rw[(ac.out.alloc o).drew.cell,JP S ae]
   have aT:∀o,(J.alloc o).drew.frozen? ⟨w.heap.size+1,q,none⟩=false:=λo=>(ac.out.alloc o).drew.frozen _
   have br:(0:Int)<=(q:Int):=by omega
   have bq:(q:Int)<4:=by omega
   have Mi:=CE.out j q;obtain⟨nu,aU⟩:=hh2 aa (jA.out.trans' IQ.out);clear aa ah Qk;generalize ak:S q=sq at *;subst aV;have aj:=ar ak;clear ak;generalize hm:(eB (E.take j) q).length=m at *;have HM:=ar hm;clear hm;unfold maxLen at q2;have ax:(Value.slice aq m cq).ownBlock≠some (w.heap.size+1):=λe=>by have :=dP nu.out _ e;omega
   go_wp2_with fail
   go_region_law ((refine step_append_lies _ (by rfl) _ _ _ (by rfl) (w.heap.size+2) 87 i0 _ 2 24 underlying32 hi aX aY aS rfl (by omega) (.slice aq m cq) m _ (by rfl) ((nu.out.alloc _).drew) ⟨J.heap.size,0,none⟩ 1 1 [.string nm,.int .i64 ino] (by rfl) (by rfl) (lI J [_,_] _ _ rfl) (by simp[Value.oneCell']) (by omega) (by unfold maxLen;omega) (by omega) (by simp;omega) (J.heap.size+1) (by simp) ?_;intro FK bc w2 W z aD Qn;have ba:=(z.cell_far ⟨w.heap.size+1,q,none⟩ (by simp;omega) (cY ax)).trans (aN _);have aP:=(z.frozen_far ⟨w.heap.size+1,q,none⟩ (by simp;omega) (cY ax)).trans (aT _)))
   all_goals
    have HN:=ar (Nb (wa:=(J.alloc (.cells #[.string nm,ino] 87)).drew) (p:=(nm,ino)) (((ay.refl [] J).alloc _).drew) (by simp) aG.out ac.out aQ.out aU.out ae HM.out W (by rw[aj.out];exact z) (by rw[aj.out];exact aD) Sy.out);clear W z aD Qn ba aP;go_wp2_with fail;go_roundg gk;case measure=>omega
    case rel=>
     obtain⟨S',h1,h2,h3,h4⟩:=HN.out;exact⟨j+1,S',by omega,by go_num,h1,h2,h3,h4⟩
def afs (n:bT):Prop:=n.E.length<=24/\n.S=n.E.length/\n.B=List.replicate 13 0
theorem Nc (n:bT)(v:Value)(g:Nat)(hB:n.B.length=13)(w:World)(hE:bD w v g n.E)(hN:∀k,k<n.E.length->(eX n.E k).size<=9223372036854775807):
  Calls prog 139 #[aM n v] w λe w'=>e=(decide (pn n))/\ay [] w w':=by
 obtain⟨a,cap,rfl,aB,aj,zA⟩:=hE.open;have HN:=ar hN;unfold maxLen at aj;obtain⟨Z,hZ⟩:∃Z,Z=aM n (.slice a n.E.length cap):=⟨_,rfl⟩;have W:Sj Z n (.slice a n.E.length cap):=by rw[hZ];exact gG _ hB
 rw[<-hZ];have V:=bh.new w Z 111;have c3:(w.alloc (.cells Z 111)).cell? ⟨w.heap.size,3,none⟩=some (.int .i64 n.S):=by rw[V.cell];exact W.f3
 have ac:(w.alloc (.cells Z 111)).cell? ⟨w.heap.size,17,none⟩=some (.slice a n.E.length cap):=by rw[V.cell];exact W.f5
 have HK:Hid (ay [] w (w.alloc (.cells Z 111))):=(ay.refl [] w).alloc _;obtain⟨qa,HL⟩:=hh2 V (fA (off:=4) V hB W.f4);have K8:Hid (∀wx:World,bh wx w.heap.size Z 111->wx.cell? ⟨w.heap.size,17,none⟩=some (.slice a n.E.length cap)):=λwx hb=>by rw[hb.cell];exact W.f5
 have IL:=ar (λwx=>P9 (a:=n.B) (b:=List.replicate 13 0) hB rfl wx);have aG:=Cy;have au:=pD;have G:Hid (pn n↔afs n/\∀k,k<n.E.length->Ey n.E k):=⟨λh=>⟨⟨h.1,h.2.1,h.2.2.1⟩,h.2.2.2⟩,λh=>⟨h.1.1,h.1.2.1,h.1.2.2,h.2⟩⟩;clear V W hZ hB hE hN;by_cases aD:24<n.E.length
 ·have J:Hid (decide (pn n)=false):=aQ λh=>by have :=h.1;omega
  clear G HN zA;generalize n.E.length=m at *;have PD:(24:Int)<(m:Int):=by omega
  go_in;go_wp2_with fail;go_ret;exact⟨by rw[J.out];rfl,HK.out⟩
 ·by_cases hS:n.S=n.E.length
  ·obtain⟨t,ht⟩:∃t,decide (n.B=List.replicate 13 0)=t:=⟨_,rfl⟩
   rw[ht] at IL;have az:=IL.out;rw[hS] at c3;have PD:¬(24:Int)<((n.E.length:Nat):Int):=by omega
   cases t
   ·have J:Hid (decide (pn n)=false):=aQ λh=>of_decide_eq_false ht h.2.2.1
    clear G HN zA ht IL K8;generalize (zs (List.replicate 13 0)).toArray=Z0,(zs n.B).toArray=ZB,n.E.length=m at *;have av:((m:Int) != (m:Int))=false:=by simp
    go_in;go_wp2_with((with_reducible show wpList _ _ _ (⟨_,.load 109 (.tmp 18),_,_,_,_⟩::_) _ _);refine eA (by simp[Region.wanted,yielded]) 109 (.tmp 18) rfl _ rfl _ HL.out ?_);go_ret;exact⟨by rw[J.out];rfl,HK.out⟩
   ·have HA:Hid (afs n):=⟨by omega,hS,of_decide_eq_true ht⟩
    clear ht IL;generalize (zs (List.replicate 13 0)).toArray=Z0,(zs n.B).toArray=ZB,hm:n.E.length=m at *;go_in;go_wp2_with((with_reducible show wpList _ _ _ (⟨_,.load 109 (.tmp 18),_,_,_,_⟩::_) _ _);refine eA (by simp[Region.wanted,yielded]) 109 (.tmp 18) rfl _ rfl _ HL.out ?_);clear au az HL c3 ac;go_loopg [26] m (λgh s26 wx=>∃k:Nat,k+gh=m/\s26= .int .i64 (k:Int)/\Hid ((∀i,i<k->Ey n.E i)/\ay [] (w.alloc (.cells Z 111)) wx))
    case atStart=>exact⟨0,by omega,rfl,by simp,ay.refl _ _⟩
    case round=>
     obtain⟨k,hk,rfl,HR⟩:=hrel;cases gk with
     |zero=>
      obtain rfl:k=m:=by omega
      have HT:Hid (decide (pn n)=true):=bu (G.out.2 ⟨HA.out,HR.out.1⟩);have jA:=ar (HK.out.trans' HR.out.2);clear HR hk G K8 hm;go_wp2_with fail;go_ret;exact⟨by rw[HT.out];rfl,jA.out⟩
     |succ gg=>
      have JN:k<m:=by omega
      have aH:(k:Int)<(m:Int):=by omega
      have cJ:(0:Int)<=(k:Int):=by omega
      obtain⟨hg,off,rfl,e0,e1⟩:=zA.out k JN;have uN:=HK.out.trans' HR.out.2;have c0:wr.cell? ⟨g,off+k*2,none⟩=some (.string (eX n.E k)):=(aO (w:=w) (a:=⟨g,off+k*2,none⟩) (uN.block g hg (by simp))).trans e0;have c1:wr.cell? ⟨g,off+k*2+1,none⟩=some (.int .i64 (jq n.E k)):=(aO (w:=w) (a:=⟨g,off+k*2+1,none⟩) (uN.block g hg (by simp))).trans e1;have HG:=ar (λwx=>KZ (eX n.E k) (HN.out k JN) wx);have U:Hid (Ey n.E k↔iy (bl (eX n.E k))=true/\(0<=jq n.E k/\jq n.E k<=31)/\(0<k->leB (eX n.E k) (eX n.E (k-1))=false)):=Iff.rfl;have j6:Hid (¬Ey n.E k->decide (pn n)=false):=λh=>aQ λhd=>h ((G.out.1 hd).2 k JN)
      obtain⟨nL,xy,ai⟩:=hh3 uN HR.out.1 HR.out.2;have ac:=K8.out wr (qa.out.keep HR.out.2 (by simp));have z:Hid (∀q,k=q+1->wr.cell? ⟨g,off+q*2,none⟩=some (.string (eX n.E q))):=λq hq=>by
       obtain⟨-,aC,ak,f0,-⟩:=zA.out q (by omega);cases ak;exact(aO (w:=w) (a:=⟨g,off+q*2,none⟩) (uN.block g hg (by simp))).trans f0
      clear uN e0 e1 zA G HR K8;generalize aI:eX n.E k=nm,jq n.E k=ino at *;cases hgd:iy (bl nm)
      ·have J:Hid (decide (pn n)=false):=j6.out λh=>by have :=(U.out.1 h).1;rw[hgd] at this;cases this
       rw[hgd] at HG;clear U j6 hgd hk z hm;go_wp2_with fail;refine C' (HG.out _) ?_;go_wp2_with fail;go_ret;exact⟨by rw[J.out];rfl,nL.out.alloc _⟩
      ·rw[hgd] at HG
       by_cases aN:ino<0
       ·have J:Hid (decide (pn n)=false):=j6.out λh=>by have :=(U.out.1 h).2.1.1;omega
        clear U j6 hgd hk z hm;go_wp2_with fail;refine C' (HG.out _) ?_;go_wp2_with fail;go_ret;exact⟨by rw[J.out];rfl,nL.out.alloc _⟩
       ·by_cases aK:32<=ino
        ·have J:Hid (decide (pn n)=false):=j6.out λh=>by have :=(U.out.1 h).2.1.2;omega
         clear U j6 hgd hk z hm;go_wp2_with fail;refine C' (HG.out _) ?_;go_wp2_with fail;go_ret;exact⟨by rw[J.out];rfl,nL.out.alloc _⟩
        ·by_cases af:k=0
         ·have ah:Hid (∀i,i<k+1->Ey n.E i):=λi hi=>by
           obtain rfl:i=k:=by omega
           exact U.out.2 ⟨hgd,⟨by omega,by omega⟩,λh=>absurd h (by omega)⟩
          have aP:¬(0:Int)<(k:Int):=by omega
          have ax:decide (0<k)=false:=aQ (by omega);clear U j6 hgd z hm xy af;go_wp2_with fail;refine C' (HG.out _) ?_;go_wp2_with fail
          go_quiet (fail)
          go_wp2_with fail;go_roundg gg;case measure=>omega
          case rel=>exact⟨k+1,by omega,by go_num,ah.out,(ai.out.alloc _).drewN _⟩
         ·obtain⟨q,hq⟩:∃q,k=q+1:=⟨k-1,by omega⟩
          have ag:=z.out q hq;have aF:∀o,(wr.alloc o).cell? ⟨g,off+q*2,none⟩=some (.string (eX n.E q)):=λo=>by
           rw[World.cell?_alloc_some _ _ _ (by rw[ag];rfl)];exact ag
          have aL:∀o,(wr.alloc o).cell? ⟨w.heap.size,17,none⟩=some (.slice (some ⟨g,off,none⟩) m cap):=λo=>by
           rw[World.cell?_alloc_some _ _ _ (by rw[ac];rfl)];exact ac
          clear ag;have fW:(0:Int)<(k:Int):=by omega
          have ax:decide (0<k)=true:=bu (by omega);have aS:(k:Int)-1=(q:Int):=by omega
          have aJ:(q:Int)<(m:Int):=by omega
          have aR:(0:Int)<=(q:Int):=by omega
          have aa:∀b,leB nm (eX n.E q)=b->(Op.bytesLess nm.toList (eX n.E q).toList||(nm.toList==(eX n.E q).toList))=b:=λb h=>h
          have ae:Hid (Ey n.E k↔leB nm (eX n.E q)=false):=by
           show _↔_;rw[U.out,show k-1=q by omega];exact⟨λh=>h.2.2 (by omega),λh=>⟨hgd,⟨by omega,by omega⟩,λ_=>h⟩⟩
          generalize eX n.E q=pm at *;cases hle:leB nm pm
          ·have ah:Hid (∀i,i<k+1->Ey n.E i):=λi hi=>by
            by_cases e:i=k
            ·subst e;exact ae.out.2 hle
            ·exact xy.out i (by omega)
           have aA:=aa _ hle;clear U ae j6 hgd z hm xy af aa hle hq;go_wp2_with fail;refine C' (HG.out _) ?_;go_wp2_with fail
           go_quiet (fail)
           go_wp2_with fail;go_roundg gg;case measure=>omega
           case rel=>exact⟨k+1,by omega,by go_num,ah.out,(ai.out.alloc _).drewN _⟩
          ·have J:Hid (decide (pn n)=false):=j6.out λh=>by
            have :=ae.out.1 h;rw[hle] at this;cases this
           have aA:=aa _ hle;clear U ae j6 hgd z hm xy af aa hle hq hk;go_wp2_with fail;refine C' (HG.out _) ?_;go_wp2_with fail
           go_quiet (fail)
           go_wp2_with fail;go_ret;exact⟨by rw[J.out];rfl,(nL.out.alloc _).drewN _⟩
  ·have J:Hid (decide (pn n)=false):=aQ λh=>hS h.2.1
   have e2:(n.S != ((n.E.length:Nat):Int))=true:=bne_iff_ne.2 hS;have PD:¬(24:Int)<((n.E.length:Nat):Int):=by omega
   clear G HN zA;generalize n.S=s,n.E.length=m at *;go_in;go_wp2_with fail;go_ret;exact⟨by rw[J.out];rfl,HK.out⟩
theorem oz (n:bT)(v:Value)(g:Nat)(hB:n.B.length=13)(w:World)(hE:bD w v g n.E)(hN:∀k,k<n.E.length->(eX n.E k).size<=9223372036854775807):
  Calls prog 96 #[aM n v] w λe w'=>e=(decide (cm n))/\ay [] w w':=by
 have ac:Hid (∀J,Calls prog 138 #[aM n v] J λe w'=>e=(decide (qQ n))/\ay [] J w'):=λJ=>by
  obtain⟨a,cap,hv,-⟩:=hE;subst hv;exact K6 n a cap hB J
 have aa:Hid (∀J,ay [] w J->Calls prog 139 #[aM n v] J λe w'=>e=(decide (pn n))/\ay [] J w'):=λJ hk=>
  Nc n v g hB J (hE.keep hk (by simp)) hN
 obtain⟨Z,hZ⟩:∃Z,Z=aM n v:=⟨_,rfl⟩;have V:Sj Z n v:=by rw[hZ];exact gG _ hB
 rw[<-hZ] at ac aa ⊢;have z:=bh.new w Z 111;have c0:(w.alloc (.cells Z 111)).cell? w.heap.size=some (.int .i64 n.F):=by rw[z.cell];exact V.f0
 have c1:(w.alloc (.cells Z 111)).cell? ⟨w.heap.size,1,none⟩=some (.int .i64 n.K):=by rw[z.cell];exact V.f1
 have c2:(w.alloc (.cells Z 111)).cell? ⟨w.heap.size,2,none⟩=some (.int .i64 n.L):=by rw[z.cell];exact V.f2
 have W:Hid (ay [] w (w.alloc (.cells Z 111))):=(ay.refl [] w).alloc _;have HL:Hid ((loadVar 111 w.heap.size).run prog (w.alloc (.cells Z 111))= .ok (.agg Z) (w.alloc (.cells Z 111))):=by
  have :=b9 (n:=n) (v:=v) (by rw[<-hZ];exact z) hB;rw[<-hZ] at this;exact this
 clear z V hZ hE hN hB;by_cases hF:n.F=1\/n.F=2
 ·rcases hF with hF|hF
  all_goals
   rw[hF] at c0;by_cases ae:n.L<0
   ·have HF:Hid (decide (cm n)=false):=aQ λh=>by have :=h.2.1.1;omega
    generalize n.L=l at *;go_in;go_wp2_with fail;go_ret;exact⟨by rw[HF.out];rfl,W.out⟩
   ·by_cases af:65535<n.L
    ·have HF:Hid (decide (cm n)=false):=aQ λh=>by have :=h.2.1.2;omega
     generalize n.L=l at *;go_in;go_wp2_with fail;go_ret;exact⟨by rw[HF.out];rfl,W.out⟩
    ·by_cases Sz:n.K=1
     ·have HQ:Hid (decide (cm n)=decide (qQ n)):=decide_eq_decide.2 ⟨λh=>by
       rcases h.2.2 with h|h
       ·exact h.2
       ·omega,λh=>⟨by omega,⟨by omega,by omega⟩,.inl ⟨Sz,h⟩⟩⟩
      rw[Sz] at c1;generalize decide (qQ n)=q,n.L=l at *;go_in;go_wp2_with(with_reducible refine gL 111 HL.out ?_);refine Rr (ac.out _) λw1 G=> ?_;have jK:=ar (W.out.trans' G);clear G;go_wp2_with fail;go_ret;exact⟨by rw[HQ.out];rfl,jK.out⟩
     ·by_cases U:n.K=2
      ·have HQ:Hid (decide (cm n)=decide (pn n)):=decide_eq_decide.2 ⟨λh=>by
        rcases h.2.2 with h|h
        ·omega
        ·exact h.2,λh=>⟨by omega,⟨by omega,by omega⟩,.inr ⟨U,h⟩⟩⟩
       rw[U] at c1;generalize decide (pn n)=q,n.L=l at *;go_in;go_wp2_with(with_reducible refine gL 111 HL.out ?_);refine Rr (aa.out _ W.out) λw1 G=> ?_;have jK:=ar (W.out.trans' G);clear G;go_wp2_with fail;go_ret;exact⟨by rw[HQ.out];rfl,jK.out⟩
      ·have HF:Hid (decide (cm n)=false):=aQ λh=>by
        rcases h.2.2 with h|h
        ·exact Sz h.1
        ·exact U h.1
       have k1:(n.K==1)=false:=cP.2 Sz;have k2:(n.K==2)=false:=cP.2 U;generalize n.L=l,n.K=kk at *;go_in;go_wp2_with fail;go_ret;exact⟨by rw[HF.out];rfl,W.out⟩
 ·have HF:Hid (decide (cm n)=false):=aQ λh=>hF h.1
  have f1:(n.F != 1)=true:=bne_iff_ne.2 λh=>hF (.inl h)
  have f2:(n.F != 2)=true:=bne_iff_ne.2 λh=>hF (.inr h)
  clear hF;generalize n.F=f at *;go_in;go_wp2_with fail;go_ret;exact⟨by rw[HF.out];rfl,W.out⟩
end Go.Proofs.YtepbpdipenedhaaGreatDoor
