/- Lemmas. -/
import Derived.Test.YtimcfdnbpkiniaaGreatDoorM04
import Derived.Deep.RegionHeld
set_option maxHeartbeats 8000000
set_option maxRecDepth 100000
namespace Go.Proofs.YtimcfdnbpkiniaaGreatDoor
open Go.Proofs.Tryz
open Go.RowKit
variable{s t:Int}{l:List Int}{w w':World}{v:Value}{T g h j n z:Nat}{E:List (ByteArray×Int)}{S:Nat->Value}{F:Nat->List (ByteArray×Int)}
def pn (n:bT):Int:=n.F+256*n.K+65536*n.L
structure zP (n:bT):Prop where
 f:0<=n.F/\n.F<256
 k:0<=n.K/\n.K<256
 l:0<=n.L/\n.L<65536
 s:0<=n.S/\n.S<9223372036854775808
def iq (n:bT) (l:List Int) (h:Int):List Int:=pn n::n.S::(l.take 5++[h])
theorem adD (f k m:Nat)(h:f<256)(z:k<256)(G:m<65536):bits .or .u64 (f:Int) ((k:Int)*256)=((f+k*256:Nat):Int)/\bits .or .u64 ((f+k*256:Nat):Int) ((m:Int)*65536)=((f+k*256+m*65536:Nat):Int):=by
 constructor
 ·rw[show(k:Int)*256=((k*256:Nat):Int) by omega,u64_or_nat _ _ (by omega) (by omega),Nat.or_comm,nat_join 8 _ _ (by exact Nat.mul_mod_left _ _) h,Nat.add_comm]
 ·rw[show(m:Int)*65536=((m*65536:Nat):Int) by omega,u64_or_nat _ _ (by omega) (by omega),Nat.or_comm,nat_join 16 _ _ (by exact Nat.mul_mod_left _ _) (show f+k*256<65536 by omega),Nat.add_comm]
def nZ (t s:Int) (l:List Int) (k:Nat):List Int:=t::s::(dM 0 l k++[0])
theorem wh (h:l.length=5){k:Nat}(z:k<=5):(nZ t s l k).length=8:=by simp[nZ,kT,h,z]
theorem M6 (h:l.length=5){k:Nat}(z:k<5):(nZ t s l k).set (2+k) (l.getD k 0)=nZ t s l (k+1):=by
 rw[nZ,show 2+k=k+1+1 by omega,ai,ai,List.set_append_left _ _ (by rw[kT _ _ _ (by omega)];omega),kM 0 l k (by omega) (l.getD k 0) (by simp[show k<l.length by omega])];rfl
theorem M7 (h:l.length=5)(x:Int):(nZ t s l 5).set 7 x=t::s::(l++[x]):=by
 rw[nZ,show dM 0 l 5=l by rw[<-h];exact lR 0 l,ai,ai,dI _ _ (by omega),h];rfl
def uU (n:bT):List Int:=pn n::n.S::List.replicate 6 0
theorem CH (n:bT):(uU n).length=8:=by simp[uU]
theorem Fg (n:bT)(v:Value)(hB:n.B.length=13)(ht:zP n)(w:World):
  Calls prog 206 #[aM n v] w λe w'=>e=(aY (uU n)).toArray/\ay [] w w':=by
 have J:=gG v hB;generalize aM n v=Z at *;have ae:=lq;have G:bh (w.alloc (.cells Z 75)) w.heap.size Z 75 :=bh.new _ _ _;have c0:∀z h,(((w.alloc (.cells Z 75)).alloc z).alloc h).cell? w.heap.size=some (.int .i64 n.F):=λz h=>by rw[((G.alloc z).alloc h).cell];exact J.f0
 have c1:∀z h,(((w.alloc (.cells Z 75)).alloc z).alloc h).cell? ⟨w.heap.size,1,none⟩=some (.int .i64 n.K):=λz h=>by rw[((G.alloc z).alloc h).cell];exact J.f1
 have c2:∀z h,(((w.alloc (.cells Z 75)).alloc z).alloc h).cell? ⟨w.heap.size,2,none⟩=some (.int .i64 n.L):=λz h=>by rw[((G.alloc z).alloc h).cell];exact J.f2
 have c3:∀z h,(((w.alloc (.cells Z 75)).alloc z).alloc h).cell? ⟨w.heap.size,3,none⟩=some (.int .i64 n.S):=λz h=>by rw[((G.alloc z).alloc h).cell];exact J.f3
 obtain⟨tf,tk,tl,ts⟩:=ht;obtain⟨f,hf⟩:∃f:Nat,n.F=(f:Int):=⟨n.F.toNat,by omega⟩;obtain⟨k,hk⟩:∃k:Nat,n.K=(k:Int):=⟨n.K.toNat,by omega⟩;obtain⟨m,hm⟩:∃m:Nat,n.L=(m:Int):=⟨n.L.toNat,by omega⟩;obtain⟨s,hs⟩:∃s:Nat,n.S=(s:Int):=⟨n.S.toNat,by omega⟩;rw[hf] at c0 tf;rw[hk] at c1 tk;rw[hm] at c2 tl;rw[hs] at c3 ts;obtain⟨q1,q2⟩:=adD f k m (by omega) (by omega) (by omega);have ac:Hid (((f+k*256+m*65536:Nat):Int)=pn n):=by
  show _=_;rw[pn,hf,hk,hm];omega
 generalize f+k*256+m*65536=t at *;generalize f+k*256=t1 at *;have nt:Hid (uU n=(t:Int)::(s:Int)::List.replicate 6 0):=by
  show _=_;rw[uU,<-ac.out,hs]
 clear hf hk hm hs ac J hB;rw[nt.out];have Gb:((t:Int)::(s:Int)::List.replicate 6 0).length=8:=by simp
 have V:bh (((w.alloc (.cells Z 75)).alloc (.cells (aY (List.replicate 8 0)).toArray 132)).alloc (.cells (((aY (List.replicate 8 0)).set 0 (.int .u64 (t:Int))).set 1 (.int .u64 (s:Int))).toArray 132)) (w.heap.size+1+1) (aY ((t:Int)::(s:Int)::List.replicate 6 0)).toArray 132 :=by
  have :=bh.new ((w.alloc (.cells Z 75)).alloc (.cells (aY (List.replicate 8 0)).toArray 132)) (((aY (List.replicate 8 0)).set 0 (.int .u64 (t:Int))).set 1 (.int .u64 (s:Int))).toArray 132;have e:((w.alloc (.cells Z 75)).alloc (.cells (aY (List.replicate 8 0)).toArray 132)).heap.size=w.heap.size+1+1:=by simp
  rw[e] at this;exact this
 have U:bh (((w.alloc (.cells Z 75)).alloc (.cells (aY (List.replicate 8 0)).toArray 132)).alloc (.cells (((aY (List.replicate 8 0)).set 0 (.int .u64 (t:Int))).set 1 (.int .u64 (s:Int))).toArray 132)) (w.heap.size+1) (aY (List.replicate 8 0)).toArray 132 :=by
  have :=(bh.new (w.alloc (.cells Z 75)) (aY (List.replicate 8 0)).toArray 132).alloc (.cells (((aY (List.replicate 8 0)).set 0 (.int .u64 (t:Int))).set 1 (.int .u64 (s:Int))).toArray 132);have e:(w.alloc (.cells Z 75)).heap.size=w.heap.size+1:=by simp
  rw[e] at this;exact this
 have HL:=ar (fN V Gb);obtain⟨w2,hS,aa,W⟩:=bG (P:= prog) (ty:= 132) (cs:=aY ((t:Int)::(s:Int)::List.replicate 6 0)) (by rw[bB,Gb];exact ja) U (by simp[bB]) (fk _);obtain⟨HS,rN⟩:=hh2 hS (fN aa Gb);have jr:Hid (ay [] w w2):=((((ay.refl _ _).alloc _).alloc _).alloc _).trans W (by simp);clear V U hS aa W G;go_in;go_wp2_with(with_reducible first|refine gL 132 HL.out ?_|refine gS 132 HS.out ?_);exact aI (bA results206 rfl rN.out) rfl ⟨rfl,jr.out⟩
theorem D4 (n:bT)(v:Value)(hB:n.B.length=13)(ht:zP n)(l:List Int)(hl:l.length=13)(hn:adC l)(h:Int)(h0:0<=h/\h<9223372036854775808)(w:World):
  Calls prog 180 #[aM n v,(zs l).toArray,h] w λe w'=>e=(aY (iq n l h)).toArray/\ay [] w w':=by
 have HH:=ar (Fg n v hB ht);have aD:=lq;have uT:=ar (cg (((bh.new w (aM n v) 75).alloc (.cells (zs l).toArray 73)).alloc (.cells (aY (List.replicate 8 0)).toArray 132)) hB);have av:bh (((w.alloc (.cells (aM n v) 75)).alloc (.cells (zs l).toArray 73)).alloc (.cells (aY (List.replicate 8 0)).toArray 132)) (w.heap.size+1) (zs l).toArray 73 :=by
  have :=(bh.new (w.alloc (.cells (aM n v) 75)) (zs l).toArray 73).alloc (.cells (aY (List.replicate 8 0)).toArray 132);have e:(w.alloc (.cells (aM n v) 75)).heap.size=w.heap.size+1:=by simp
  rw[e] at this;exact this
 have ak:bh (((w.alloc (.cells (aM n v) 75)).alloc (.cells (zs l).toArray 73)).alloc (.cells (aY (List.replicate 8 0)).toArray 132)) (w.heap.size+1+1) (aY (List.replicate 8 0)).toArray 132 :=by
  have :=bh.new ((w.alloc (.cells (aM n v) 75)).alloc (.cells (zs l).toArray 73)) (aY (List.replicate 8 0)).toArray 132;have e:((w.alloc (.cells (aM n v) 75)).alloc (.cells (zs l).toArray 73)).heap.size=w.heap.size+1+1:=by simp
  rw[e] at this;exact this
 have fJ:Hid (ay [] w (((w.alloc (.cells (aM n v) 75)).alloc (.cells (zs l).toArray 73)).alloc (.cells (aY (List.replicate 8 0)).toArray 132))):=(((ay.refl _ _).alloc _).alloc _).alloc _;obtain⟨oP,qK⟩:=hh2 av ak;clear av ak;have V:(l.take 5).length=5:=by simp[hl]
 obtain⟨t,hT⟩:∃t,t=pn n:=⟨_,rfl⟩;obtain⟨s,W⟩:∃s,s=n.S:=⟨_,rfl⟩;have M8:Hid (uU n=nZ t s (l.take 5) 0):=by
  show _=_;rw[uU,nZ,kJ,V,hT,W];rfl
 have nt:Hid (iq n l h=t::s::(l.take 5++[h])):=by
  show _=_;rw[iq,hT,W]
 have Sj:Hid (∀i,i<5->(0<=(l.take 5).getD i 0/\(l.take 5).getD i 0<9223372036854775808)/\l.getD i 0=(l.take 5).getD i 0):=λi hi=>by
  have e:(l.take 5).getD i 0=l.getD i 0:=by simp[hi]
  rw[e];exact⟨hn i,rfl⟩
 have Sy:Hid (∀i,i<13->(zs l).toArray[i]? =some (.int .i64 (l.getD i 0))):=λi hi=>by rw[aF,gK (by omega)]
 have aJ:=nC h0.1 h0.2;clear hn hB ht hT W;rw[nt.out];generalize aM n v=Z,(zs l).toArray=ZL at *;go_in;go_wp2_with(with_reducible refine gL 75 uT.out ?_);refine Rr (HH.out _) λw1 G=> ?_;rw[M8.out];obtain⟨w2,az,Mf,ah⟩:=bG (P:= prog) (ty:= 132) (cs:=aY (nZ t s (l.take 5) 0)) (by rw[bB,wh V (by omega)];exact ja) (bh.new w1 (aY (List.replicate 8 0)).toArray 132) (by simp[bB,wh V]) (fk _);have aN:w.heap.size+1+1<w1.heap.size:=bS qK.out.lt G.size;have eV:ay [] (((w.alloc (.cells Z 75)).alloc (.cells ZL 73)).alloc (.cells (aY (List.replicate 8 0)).toArray 132)) w2:=(G.alloc (.cells (aY (List.replicate 8 0)).toArray 132)).trans ah (by intro x hx;rw[au] at hx;have :=G.size;omega);obtain⟨aB,ae,nK,aG,Qj⟩:=hh5 (oP.out.keep eV (by simp)) (qK.out.keep eV (by simp)) (fJ.out.trans' eV) az Mf;clear az Mf ah eV G uT HH oP qK fJ;generalize hg:w1.heap.size=g at *;go_wp2_with(with_reducible refine gS 132 aG.out ?_);go_loopg [11] 5 (λgh K3 wx=>∃i:Nat,i+gh=5/\K3= .int .i64 (i:Int)/\Hid (bh wx g (aY (nZ t s (l.take 5) i)).toArray 132/\bh wx (w.heap.size+1+1) (aY (List.replicate 8 0)).toArray 132/\bh wx (w.heap.size+1) ZL 73/\ay [] w wx))
 case atStart=>exact⟨0,by omega,rfl,Qj.out,ae.out,aB.out,nK.out⟩
 case round=>
  clear aD Qj ae aB nK;obtain⟨i,hi,rfl,HP⟩:=hrel;obtain⟨z,U,J,fV⟩:=HP.out;cases gk with
  |zero=>
   obtain rfl:i=5:=by omega
   have aa:wr.cell? ⟨g,7,none⟩=some (.int .u64 ((nZ t s (l.take 5) 5).getD 7 0)):=by
    rw[z.cell,aF,dF (by rw[wh V (by omega)];omega)]
   have aH:wr.frozen? ⟨g,7,none⟩=false:=z.frozen 7;have ac:=z.set 7 (.int .u64 h);rw[ag,lI,M7 V] at ac;have Gb:(t::s::(l.take 5++[h])).length=8:=by simp[V]
   have HL:=ar (fN ac Gb);obtain⟨w4,hS,ax,ai⟩:=bG (P:= prog) (ty:= 132) (cs:=aY (t::s::(l.take 5++[h]))) (by rw[bB,Gb];exact ja) (U.other (a:=⟨g,7,none⟩) (by show w.heap.size+1+1≠g;omega) (.int .u64 h)) (by simp[bB,Gb]) (fk _);obtain⟨HS,rN,jr⟩:=hh3 hS (fN ax Gb) ((fV.setCell (p:=⟨g,7,none⟩) (.inr (by show w.heap.size<=g;omega)) (.int .u64 h)).trans ai (by intro x hx;rw[au] at hx;omega));clear hS ax ai HP hi ac z U J fV;generalize (nZ t s (l.take 5) 5).getD 7 0=y at *;go_wp2_with(with_reducible first|refine gL 132 HL.out ?_|refine gS 132 HS.out ?_);exact aI (bA results180 rfl rN.out) rfl ⟨rfl,jr.out⟩
  |succ gg=>
   have aA:i<5:=by omega
   have aO:(i:Int)<5:=by omega
   have aK:(0:Int)<=(i:Int):=by omega
   obtain⟨af,aC⟩:=Sj.out i aA;have aL:wr.cell? ⟨w.heap.size+1,i,none⟩=some (.int .i64 ((l.take 5).getD i 0)):=by
    rw[J.cell,Sy.out i (by omega),aC]
   have hw:=nC af.1 af.2;have aa:wr.cell? ⟨g,2+i,none⟩=some (.int .u64 ((nZ t s (l.take 5) i).getD (2+i) 0)):=by
    rw[z.cell,aF,dF (by rw[wh V (by omega)];omega)]
   have aH:wr.frozen? ⟨g,2+i,none⟩=false:=z.frozen _;have HR:Hid (bh (wr.setCell ⟨g,2+i,none⟩ (.int .u64 ((l.take 5).getD i 0))) g (aY (nZ t s (l.take 5) (i+1))).toArray 132/\bh (wr.setCell ⟨g,2+i,none⟩ (.int .u64 ((l.take 5).getD i 0))) (w.heap.size+1+1) (aY (List.replicate 8 0)).toArray 132/\bh (wr.setCell ⟨g,2+i,none⟩ (.int .u64 ((l.take 5).getD i 0))) (w.heap.size+1) ZL 73/\ay [] w (wr.setCell ⟨g,2+i,none⟩ (.int .u64 ((l.take 5).getD i 0)))):=by
    refine⟨?_,U.other (by show w.heap.size+1+1≠g;omega) _,J.other (by show w.heap.size+1≠g;omega) _,fV.setCell (.inr (by show w.heap.size<=g;omega)) _⟩;have :=z.set (2+i) (.int .u64 ((l.take 5).getD i 0));rw[ag,lI,M6 V aA] at this;exact this
   clear HP z U J fV aC;generalize (l.take 5).getD i 0=x,(nZ t s (l.take 5) i).getD (2+i) 0=y at *;go_wp2_with fail;go_roundg gg;case measure=>omega
   case rel=>exact⟨i+1,by omega,by go_num,HR.out⟩
def eT (E:List (ByteArray×Int)):List Int:=E.flatMap λp=>[((kZ (bl p.1):Nat):Int),p.2]
theorem lf (E:List (ByteArray×Int)):(eT E).length=E.length*2:=by
 induction E with
 |nil=>rfl
 |cons p E ih=>simp[eT] at ih ⊢;omega
theorem IL (E F:List (ByteArray×Int)):eT (E++F)=eT E++eT F:=by simp[eT]
theorem wj (E:List (ByteArray×Int)):∀k,k<E.length->(eT E).getD (k*2) 0=((kZ (bl (eX E k)):Nat):Int)/\(eT E).getD (k*2+1) 0=jm E k:=by
 induction E with
 |nil=>intro k h;simp at h
 |cons p E ih=>
  intro k h;have z:eT (p::E)=((kZ (bl p.1):Nat):Int)::p.2::eT E:=rfl;cases k with
  |zero=>rw[z];exact⟨rfl,rfl⟩
  |succ k=>
   have :=ih k (by simpa using h);rw[z,show(k+1)*2=k*2+1+1 by omega,MQ,MR];exact this
theorem Gc (E:List (ByteArray×Int))(n:Nat)(h:n<E.length):E.take (n+1)=E.take n++[(eX E n,jm E n)]:=by
 rw[bP h];have :E.getD n (ByteArray.empty,0)=E[n]:=by simp[h]
 rw[eX,jm,this]
theorem CI (E:List (ByteArray×Int))(j:Nat)(h:j<E.length):eT (E.take (j+1))=eT (E.take j)++[((kZ (bl (eX E j)):Nat):Int),jm E j]:=by
 rw[Gc E j h,IL];rfl
structure xZ (E:List (ByteArray×Int)):Prop where
 len:E.length<=10000
 size:∀k,k<E.length->(eX E k).size<=9223372036854775807
 ino:∀k,k<E.length->0<=jm E k/\jm E k<9223372036854775808
theorem zQ (hE:bD w v g E)(ho:xZ E):
  Calls prog 207 #[v] w (jJ w (eT E)):=by
 obtain⟨a,cap,rfl,az,af,zB⟩:=hE.open;unfold maxLen at af;obtain⟨i0,hi,ak,ax,au⟩:=df Tryz.info_u64;have aA:=ho.len;have ae:=xL (2*E.length) (by omega) (2*(E.length:Int)) (by omega) 0 (.inl rfl) w;rw[show((0:Nat):Int)=0 from rfl] at ae;have XP:Hid ((w.alloc (.cells (madeCells #[.int .u64 0] (2*E.length)) 70)).ownsRow w.heap.size 70 1 (.slice w.heap.size 0 (2*E.length)) 0 (aY (eT (E.take 0)))):=
  ⟨rfl,.inr ⟨w.heap.size,2*E.length,madeCells #[.int .u64 0] (2*E.length),rfl,aH _,bh.new _ _ _,by omega,by unfold maxLen;omega,by simp[madeCells],by simp[eT,aY]⟩⟩
 have fJ:Hid (ay [] w (w.alloc (.cells (madeCells #[.int .u64 0] (2*E.length)) 70))):=(ay.refl _ _).alloc _;have HW:Hid (∀j,j<E.length->∀V,Calls prog 222 #[.string (eX E j)] V λe w'=>e= .returned (.tuple #[.int .u64 (kZ (bl (eX E j)):Nat),(iu (bl (eX E j)):Bool)])/\ay [] V w'):=λj W V=>
  KW _ (ho.size _ W) V
 have Fb:Hid (∀j,j<E.length->0<=jm E j/\jm E j<9223372036854775808):=λj W=>ho.ino _ W
 have ai:Hid (∀j,j<E.length->aY (eT (E.take (j+1)))=aY (eT (E.take j))++[.int .u64 ((kZ (bl (eX E j)):Nat):Int),.int .u64 (jm E j)]):=λj W=>by
  rw[CI E j W,tX];rfl
 have EG:Hid (E.take E.length=E):=gy;have av:Hid ((eT E).length=E.length*2):=lf E;clear hE ho;generalize hn:E.length=n at *;clear hn;generalize (madeCells #[.int .u64 0] (2*n))=MC at *;go_in;go_wp2_with fail;clear ae;go_loopg [3,14] n (λgh s3 s14 V=>∃j:Nat,j+gh=n/\s14= .int .i64 (j:Int)/\Hid (V.ownsRow w.heap.size 70 1 s3 (2*j) (aY (eT (E.take j)))/\ay [] w V))
 case atStart=>exact⟨0,by omega,rfl,XP.out,fJ.out⟩
 case round=>
  clear XP fJ;obtain⟨j,W,rfl,HP⟩:=hrel;cases gk with
  |zero=>
   obtain rfl:j=n:=by omega
   have HM:Hid (jJ w (eT E) (.returned u3) wr):=by
    obtain⟨U,hk⟩:=HP.out;rw[EG.out] at U;obtain⟨gg,ac,hg⟩:=eZ.of_row U;by_cases h0:2*j=0
    ·exact⟨u3,w.heap.size,rfl,ac.reads.anyG (by
      have :(eT E).length=0:=by rw[av.out];omega
      rw[bo this];rfl) _,aH _,hk⟩
    ·exact⟨u3,gg,rfl,ac.reads,(hg h0).1,hk⟩
   clear HP W;go_wp2_with fail;go_ret;exact HM.out
  |succ gk=>
   have G:j<n:=by omega
   have aD:(j:Int)<(n:Int):=by omega
   have Ci:(0:Int)<=(j:Int):=by omega
   obtain⟨aa,off,rfl,e0,e1⟩:=zB.out j G;obtain⟨ag,jr⟩:=hh2 HP.out.1 HP.out.2;have fV:=HP.out.2;have c0:=(aO (w:=w) (a:=⟨g,off+j*2,none⟩) (fV.block g aa (by simp))).trans e0;have c1:=(aO (w:=w) (a:=⟨g,off+j*2+1,none⟩) (fV.block g aa (by simp))).trans e1;have aj:=ar (HW.out j G);obtain⟨n0,n1⟩:=Fb.out j G;have hw:=nC n0 n1;have Sz:=ar (ai.out j G);have aB:=fV.size;clear e0 e1 HP fV;generalize eX E j=nm,jm E j=ino at *;obtain⟨a3,ah,rfl,q1,q2⟩:=iV ag.out;generalize hT:aY (eT (E.take j))=T at *;have HT:=ar hT;clear hT;go_wp2_with fail;refine Rr (aj.out _) λw1 J=> ?_;have Qk:=(bh.new wr #[.string nm,ino] 99).keep J (by simp);have MP:=ar (eu (eu ag.out ((ay.refl [] wr).alloc (.cells #[.string nm,ino] 99)) (by simp)) J (by simp));have d1:w1.cell? ⟨wr.heap.size,1,none⟩=some (.int .i64 ino):=by rw[Qk.cell];rfl
   have jH:=ar ((jr.out.alloc (.cells #[.string nm,ino] 99)).trans' J);have aC:w.heap.size<=w1.heap.size:=jH.out.size;clear J Qk;generalize kZ (bl nm)=wv at *;have aF:2*j<=20000:=by omega
   go_wp2_with(at_builtin;refine eU _ rfl _ _ 65 rfl w.heap.size 70 i0 (.int .u64 0) 1 8 underlying65 hi ak ax au rfl (by decide) (.slice a3 (2*j) ah) (2*j) _ rfl (MP.out.alloc _) ⟨w1.heap.size,0,none⟩ 2 2 [.int .u64 (wv:Int),.int .u64 ino] rfl rfl ?c1 ?c2 (by unfold maxLen;omega) (by omega) (by simp;omega) ?_);case c1=>exact lH _ [_,_] _ _ rfl
   case c2=>simp[Value.oneCell']
   intro v' w2 h z _;obtain⟨WU,fo⟩:=hh2 h ((jH.out.alloc _).grown z (dQ MP.out));clear h z;go_wp2_with fail;go_roundg gk;case measure=>omega
   case rel=>
    refine⟨j+1,by omega,by go_num,?_,fo.out⟩;have :=WU.out;rw[show 2*(j+1)=2*j+2 by omega,Sz.out];exact this
structure abe (W:Nat) (w1 w2:World):Prop where
 st:(storeVar 205 w1.heap.size (.agg (pj (lN W)).toArray)).run prog (w1.alloc (.cells (pj (List.replicate 8 0)).toArray 205))= .ok () w2
 c7:w2.cell? ⟨w1.heap.size,7,none⟩=some (.int .u8 (rJ W 7:Nat))
 conv:rJ W 7<=7->(convert 29 9 (.slice w1.heap.size (rJ W 7) 8)).run prog w2= .ok (.string (xp ((lN W).take (rJ W 7)))) w2
 keeps:ay [] w1 w2
theorem abf (W:Nat)(h:World):∃z,abe W h z:=by
 obtain⟨z,hs,U,hk⟩:=xX (l:=List.replicate 8 0) (by simp) (l8 W) (bh.new h (pj (List.replicate 8 0)).toArray 205);have V:∀j,j<8->z.cell? ⟨h.heap.size,j,none⟩=some (.int .u8 (rJ W j:Nat)):=λj J=>by
  rw[U.cell,<-uL W j J];simpa using Bj (l:=lN W) (j:=j) (by rw[l8];omega)
 refine⟨z,hs,V 7 (by omega),λh7=> ?_,((ay.refl [] h).alloc _).trans hk (by simp)⟩;have hl:(((lN W).take (rJ W 7)).map UInt8.ofNat).length=rJ W 7:=by simp[l8];omega
 have :=run_convert_bytes_back (P:= prog) z 29 9 5 ⟨h.heap.size,0,none⟩ 8 (((lN W).take (rJ W 7)).map UInt8.ofNat) underlying29 underlying5 underlying9 λj J=>by
  rw[hl] at J;have G:(⟨h.heap.size,0,none⟩:Addr).add j=⟨h.heap.size,j,none⟩:=by unfold Addr.add;split<;>simp_all
  rw[G,V j (by omega)];have U:=Cm W j;simp[lN,Nat.mod_eq_of_lt U]
 rw[hl] at this;exact this
theorem M9 (b n:Nat)(z:n<=7)(w:World):(Instr.sliceAt 205 (.pointer (some ⟨b,0,none⟩)) none (some (.int .i64 (n:Int))) none).run prog w= .ok (.slice b n 8) w:=by
 have h:n=0\/n=1\/n=2\/n=3\/n=4\/n=5\/n=6\/n=7:=by omega
 rcases h with rfl|rfl|rfl|rfl|rfl|rfl|rfl|rfl<;>(show Sem.run _ _ _=_;kernel_rfl)
theorem abg (W:Nat)(w:World):
  Calls prog 221 #[.int .u64 (W:Int)] w λe w'=>e= .returned (.tuple #[.string (xp ((kI W).getD [])),.bool (kI W).isSome])/\ay [] w w':=by
 have HB:=ar (Bk W w);have ag:=Cm W 7;go_in;go_wp2_with fail;refine Rr HB.out λw1 aa=> ?_;obtain⟨w2,hm⟩:=abf W w1;have c7:=hm.c7;obtain⟨HM,HK⟩:=hh2 hm (aa.trans hm.keeps (by simp));clear hm aa HB;by_cases h7:rJ W 7<=7
 ·have af:=HM.out.conv h7
  have U:∀c∈(lN W).take (rJ W 7),c<256:=Sc (Sb W) _;have G:=KW (xp ((lN W).take (rJ W 7))) (by rw[JD];simp[l8];omega) w2;rw[Sr U] at G;unfold kZ at G;have J:Hid (kI W=if iu ((lN W).take (rJ W 7))=true/\rK ((lN W).take (rJ W 7))=W then some ((lN W).take (rJ W 7)) else none):=by
   show kI W=_;unfold kI;simp only[h7,true_and]
  generalize (lN W).take (rJ W 7)=l at *;clear U;generalize rJ W 7=n at *;have G:=ar G;have ae:=λwz=>M9 w1.heap.size n h7 wz
  have ac:decide (7<(n:Int))=false:=by simp;omega
  cases hg:iu l
  ·rw[hg,aA (by simp)] at G
   rw[hg,aA (by simp)] at J;clear hg;go_wp2_with(first|(with_reducible refine gS 205 HM.out.st ?_)|(go_at_call 222;refine Rr G.out λw3 z=> ?_;have V:=ar z;clear z));go_ret2;exact⟨by rw[J.out];rfl,HK.out.trans V.out (by simp)⟩
  ·rw[hg,aB rfl] at G
   rw[hg] at J;clear hg;by_cases hw:rK l=W
   ·rw[aB ⟨rfl,hw⟩] at J
    rw[hw] at G;clear hw;go_wp2_with(first|(with_reducible refine gS 205 HM.out.st ?_)|(go_at_call 222;refine Rr G.out λw3 z=> ?_;have V:=ar z;clear z));go_ret2;exact⟨by rw[J.out];rfl,HK.out.trans V.out (by simp)⟩
   ·rw[aA (λh=>hw h.2)] at J
    have e1:((rK l:Int) != (W:Int))=true:=by simp;omega
    clear hw;go_wp2_with(first|(with_reducible refine gS 205 HM.out.st ?_)|(go_at_call 222;refine Rr G.out λw3 z=> ?_;have V:=ar z;clear z));go_ret2;exact⟨by rw[J.out];rfl,HK.out.trans V.out (by simp)⟩
 ·have J:Hid (kI W=none):=by
   show kI W=none;unfold kI;rw[aA (λh=>h7 h.1)]
  generalize rJ W 7=n at *;go_wp2_with(first|(with_reducible refine gS 205 HM.out.st ?_));go_ret2;exact⟨by rw[J.out];rfl,HK.out⟩
def mJ (L:List Int) (n:Nat):List (ByteArray×Int):=(List.range n).map λk=>(xp ((kI (L.getD (k*2) 0).toNat).getD []),L.getD (k*2+1) 0)
def qL (L:List Int) (n:Nat):Prop:=∀k,k<n->(kI (L.getD (k*2) 0).toNat).isSome=true/\L.getD (k*2+1) 0<32
theorem kf (L:List Int)(n:Nat):(mJ L n).length=n:=by simp[mJ]
theorem CJ (L:List Int)(n e:Nat)(h:e<n):eX (mJ L n) e=xp ((kI (L.getD (e*2) 0).toNat).getD [])/\jm (mJ L n) e=L.getD (e*2+1) 0:=by
 have :(mJ L n).getD e (ByteArray.empty,0)=(xp ((kI (L.getD (e*2) 0).toNat).getD []),L.getD (e*2+1) 0):=by
  rw[mJ,aj,bJ,cC h];rfl
 rw[eX,jm,this];exact⟨rfl,rfl⟩
theorem zR (L:List Int)(n e:Nat)(h:e<n):(mJ L n)[e]'(by rw[kf];exact h)=(xp ((kI (L.getD (e*2) 0).toNat).getD []),L.getD (e*2+1) 0):=by simp[mJ]
theorem Tryz.info_entry:(prog.info? 99).map (λi=>(i.zero,i.size,i.bytes))=some (some (.agg #[.string ⟨#[]⟩,(0:Int)]),2,24):=by kernel_rfl
theorem Ue (n:Nat)(W:n<=100000)(m:Int)(U:m=(n:Int))(w:World):(Instr.makeSlice 30 (.int .i64 m) (.int .i64 m)).run prog w=
  .ok (.slice w.heap.size n n) (w.alloc (.cells (madeCells #[.string ⟨#[]⟩,(0:Int)] (n*2)) 99)):=by
 subst U;obtain⟨V,J,h,z,G⟩:=df Tryz.info_entry;have :=run_make (P:= prog) w 30 99 V _ underlying30 J h .i64 .i64 (n:Int) (n:Int) (by omega) (by omega) (by rw[G];omega) (by omega);rw[z,aG] at this;exact this
theorem D5 (n:Nat):(madeCells #[Value.string ⟨#[]⟩,Value.int .i64 0] (n*2)).toList=fe (List.replicate n (ByteArray.empty,0)):=by
 apply cE;intro j;simp only[madeCells,Array.toList_map,Array.toList_range,bJ];by_cases G:j<n*2
 ·rw[cC G]
  have z:=ql (List.replicate n (ByteArray.empty,(0:Int))) (j/2) (by simp;omega);have U:eX (List.replicate n (ByteArray.empty,(0:Int))) (j/2)=ByteArray.empty:=by
   simp[eX,bj];split<;>rfl
  have J:jm (List.replicate n (ByteArray.empty,(0:Int))) (j/2)=0:=by
   simp[jm,bj];split<;>rfl
  rw[U,J] at z;rcases (show j%2=0\/j%2=1 by omega) with h|h
  ·rw[show j/2*2=j by omega] at z
   rw[z.1];simp[h];rfl
  ·rw[show j/2*2+1=j by omega] at z
   rw[z.2];simp[h]
 ·rw[aP (by simpa using G),aP (by rw[lT,bE];omega)];rfl
theorem Uf (w:World)(n:Nat)(z:n<=100000):eZ (w.alloc (.cells (madeCells #[.string ⟨#[]⟩,(0:Int)] (n*2)) 99)) (.slice w.heap.size n n) w.heap.size 99 2 n (fe (List.replicate n (ByteArray.empty,0))):=by
 have h:(madeCells #[Value.string ⟨#[]⟩,Value.int .i64 0] (n*2)).size=n*2:=by rw[<-dO,D5,lT,bE]
 refine⟨by rw[lT,bE],_,n,rfl,aH _,by unfold maxLen;omega,λ_=>⟨rfl,_,bh.new _ _ _,h,?_⟩⟩;rw[D5,aW (by rw[lT,bE];omega)]
theorem Ql (l:List (ByteArray×Int))(a:ByteArray)(x:Int):∀k,((fe l).set (k*2) (.string a)).set (k*2+1) (.int .i64 x)=fe (l.set k (a,x)):=by
 induction l with
 |nil=>intro k;rfl
 |cons p l ih=>
  intro k;have h:∀(p:ByteArray×Int) l,fe (p::l)= .string p.1:: .int .i64 p.2::fe l:=λ_ _=>rfl
  cases k with
  |zero=>rfl
  |succ k=>rw[h,ai,h,<-ih k,show(k+1)*2=k*2+1+1 by omega];rfl
theorem eZ.ent{l:List (ByteArray×Int)}(h:eZ w v g T 2 n (fe l))(k:Nat)(a:ByteArray)(x:Int):
  eZ ((w.setCell ⟨g,k*2,none⟩ (.string a)).setCell ⟨g,k*2+1,none⟩ (.int .i64 x)) v g T 2 n (fe (l.set k (a,x))):=by
 have :=(h.set (k*2) (.string a)).set (k*2+1) (.int .i64 x);rw[Ql] at this;exact this
def oW (w:World) (L:List Int) (n:Nat) (e:Ending) (w':World):Prop:=
 (∃g,e= .returned (.tuple #[.slice (g:Nat) n n,true])/\eZ w' (.slice (g:Nat) n n) g 99 2 n (fe (mJ L n))/\w.heap.size<=g/\qL L n/\ay [] w w')\/
 (e= .returned (.tuple #[(),false])/\¬qL L n/\ay [] w w')
theorem xf{L:List Int}(h:Reads w v g (aY L))(hL:L.length<=1000)(n:Nat)(hn:n=L.length/2)(aj:∀k,0<=L.getD k 0/\L.getD k 0<18446744073709551616):
  Calls prog 205 #[v] w (oW w L n):=by
 obtain⟨a,cap,rfl,h1,h2,HC⟩:=fW h;have H:=ar h;have hq:((L.length:Int)).tdiv 2=(n:Int):=by rw[hn,Int.ofNat_tdiv];rfl
 have ak:=Ue n (by omega) (n:Int) rfl w;have ai:Hid (eZ (w.alloc (.cells (madeCells #[.string ⟨#[]⟩,(0:Int)] (n*2)) 99)) (.slice w.heap.size n n) w.heap.size 99 2 n (fe (dM (ByteArray.empty,0) (mJ L n) 0))):=by
  have :=Uf w n (by omega);rw[kJ,kf];exact this
 have fJ:Hid (ay [] w (w.alloc (.cells (madeCells #[.string ⟨#[]⟩,(0:Int)] (n*2)) 99))):=(ay.refl _ _).alloc _;have rN:Hid (2*n<=L.length):=by show _<=_;omega
 have aD:n<=500:=by omega
 have uQ:=ar aj;generalize hm:L.length=m at *;clear h aj hn hL hm;generalize madeCells #[Value.string ⟨#[]⟩,Value.int .i64 0] (n*2)=MC at *;go_in;go_wp2_with fail;clear ak;go_loopg [15] n (λgh s15 wx=>∃k:Nat,k+gh=n/\s15= .int .i64 (k:Int)/\Hid (eZ wx (.slice w.heap.size n n) w.heap.size 99 2 n (fe (dM (ByteArray.empty,0) (mJ L n) k))/\(∀j,j<k->(kI (L.getD (j*2) 0).toNat).isSome=true/\L.getD (j*2+1) 0<32)/\ay [] w wx))
 case atStart=>exact⟨0,by omega,rfl,ai.out,λj hj=>by omega,fJ.out⟩
 case round=>
  clear ai fJ;obtain⟨k,hk,rfl,HP⟩:=hrel;cases gk with
  |zero=>
   obtain rfl:k=n:=by omega
   have HM:Hid (oW w L k (.returned (.tuple #[.slice w.heap.size k k,true])) wr):=by
    obtain⟨ho,hj,fV⟩:=HP.out;have e:=lR (ByteArray.empty,(0:Int)) (mJ L k);rw[kf] at e;rw[e] at ho;exact .inl ⟨_,rfl,ho,aH _,hj,fV⟩
   clear HP hk;go_wp2_with fail;go_ret2;exact HM.out
  |succ gk=>
   have G:k<n:=by omega
   have aB:(k:Int)<(n:Int):=by omega
   have cM:(0:Int)<=(k:Int):=by omega
   obtain⟨ho,U,fV⟩:=HP.out;obtain⟨xo,jr,av⟩:=hh3 U fV ho;obtain⟨ae,off,rfl,c0⟩:=HC.out (2*k) (by have :=rN.out;omega);obtain⟨-,ax,au,c1⟩:=HC.out (2*k+1) (by have :=rN.out;omega);cases au;have d0:=(aO (w:=w) (a:=⟨g,off+2*k,none⟩) (fV.block g ae (by simp))).trans c0;have aa:Hid (∀wx,ay [] wr wx->wx.cell? ⟨g,off+(2*k+1),none⟩=some (.int .u64 (L.getD (k*2+1) 0))):=λwx ag=>by
    have :=(aO (w:=w) (a:=⟨g,off+(2*k+1),none⟩) ((fV.trans' ag).block g ae (by simp))).trans c1;rw[this,Nat.mul_comm 2 k]
   have hW:=uQ.out (2*k);have hI:=uQ.out (k*2+1);obtain⟨W,V⟩:∃W:Nat,L.getD (2*k) 0=(W:Int):=⟨(L.getD (2*k) 0).toNat,by omega⟩;rw[V] at d0;have HW:Hid ((L.getD (k*2) 0).toNat=W):=by show _=_;rw[Nat.mul_comm k 2,V];omega
   have Ba:=ar (abg W wr);have JK:2*(k:Int)+1<(m:Int):=by have :=rN.out;omega
   have ag:2*(k:Int)<(m:Int):=by have :=rN.out;omega
   have JL:=ar (zR L n k G);rw[HW.out] at JL;have aC:=hI.2;have aA:=hI.1;clear c0 c1 hW hI HP ho U fV V;generalize ah:L.getD (k*2+1) 0=ino at *;have Ug:=ar ah;clear ah;generalize af:(kI W).isSome=EH at *;have XQ:=ar af;clear af;generalize xp ((kI W).getD [])=nm at *;have jY:Hid (¬(EH=true/\ino<32)->¬qL L n):=λh hh=>by
    have :=hh k G;rw[HW.out,XQ.out,Ug.out] at this;exact h this
   cases EH
   ·have HN:Hid (¬qL L n):=jY.out (by simp)
    go_wp2_with fail;refine Rr Ba.out λw6 z=> ?_;have d1:=aa.out w6 z;have uf:=ar (jr.out.trans' z);clear z;go_wp2_with fail;go_ret2;exact .inr ⟨rfl,HN.out,uf.out⟩
   ·by_cases jD:32<=ino
    ·have HN:Hid (¬qL L n):=jY.out λh=>by have :=h.2;omega
     go_wp2_with fail;refine Rr Ba.out λw6 z=> ?_;have d1:=aa.out w6 z;have uf:=ar (jr.out.trans' z);clear z;go_wp2_with fail;go_ret2;exact .inr ⟨rfl,HN.out,uf.out⟩
    ·have az:wrap64 ino=ino:=by unfold wrap64;omega
     have J:(dM (ByteArray.empty,(0:Int)) (mJ L n) k).length=n:=by rw[kT _ _ _ (by rw[kf];omega),kf]
     go_wp2_with fail;refine Rr Ba.out λw6 z=> ?_;have d1:=aa.out w6 z;have uB:=ar (jr.out.trans' z);have ac:=av.out.keepIf z (λ_=>by simp);obtain⟨-,-,hc,hf⟩:=ac.cell (by omega);have e0:=(hc (k*2) (by omega)).trans (ql (dM (ByteArray.empty,0) (mJ L n) k) k (by rw[J];exact G)).1;have e1:=(hc (k*2+1) (by omega)).trans (ql (dM (ByteArray.empty,0) (mJ L n) k) k (by rw[J];exact G)).2;have f0:=hf (k*2);have f1:=hf (k*2+1);obtain⟨HE,HP⟩:=hh2 (kM (ByteArray.empty,(0:Int)) (mJ L n) k (by rw[kf];exact G) (nm,ino) JL.out) (ac.ent k nm ino);have Gd:Hid (∀j,j<k+1->(kI (L.getD (j*2) 0).toNat).isSome=true/\L.getD (j*2+1) 0<32):=λj hj=>by
      by_cases e:j=k
      ·subst e
       rw[HW.out,XQ.out,Ug.out];exact⟨rfl,by omega⟩
      ·exact xo.out j (by omega)
     clear z ac hc hf J jY;generalize eX (dM (ByteArray.empty,(0:Int)) (mJ L n) k) k=o1,jm (dM (ByteArray.empty,(0:Int)) (mJ L n) k) k=o2 at *;go_wp2_with fail;go_roundg gk;case measure=>omega
     case rel=>
      refine⟨k+1,by omega,by go_num,?_,Gd.out,(uB.out.setCell (.inr (aH _)) _).setCell (.inr (aH _)) _⟩;rw[<-HE.out];exact HP.out
def Qm (l:List Nat):List Value:=l.map λn:Nat=>Value.int .u64 (n:Int)
theorem Na (l:List Nat):(Qm l).length=l.length:=by simp[Qm]
theorem XR{l:List Nat}(h:j<l.length):(Qm l)[j]? =some (.int .u64 (l.getD j 0:Nat)):=by simp[Qm,h]
theorem xg{β:Type}(f:β->Nat->β)(l:List Nat)(h:β)(k:Nat)(z:k<l.length):(l.take (k+1)).foldl f h=f ((l.take k).foldl f h) (l.getD k 0):=by
 rw[bP z,List.foldl_append];simp[z]
theorem abh{c:Nat}(z:h<4294967296)(G:c<256):bits .xor .u32 (h:Int) (c:Int)*16777619%4294967296=((fnv h c:Nat):Int):=by
 rw[u32_xor_nat h c z (by omega),fnv];rfl
theorem XS{gb:Nat}{xs:List Nat}(h:Reads w v gb (Qm xs)):
  Calls prog 134 #[v] w λe w'=>e= .returned (.int .u32 (Ms xs:Nat))/\ay [] w w':=by
 obtain⟨a,cap,rfl,h1,h2,h3⟩:=h;rw[Na] at *;unfold maxLen at h2;have H3:Hid (∀k,k<xs.length->gb<w.heap.size/\∃off,a=some ⟨gb,off,none⟩/\w.cell? ⟨gb,off+k,none⟩=some (.int .u64 (xs.getD k 0:Nat))):=λk W=>by
  obtain⟨hg,off,ho,J⟩:=h3 (by intro e;have :=cP List.length e;rw[Na,cD] at this;omega);exact⟨hg,off,ho,(J k W).trans (XR W)⟩
 clear h3;go_in;go_wp2_with fail;go_loopg [3,10] xs.length (λg s3 Xw wx=>∃k:Nat,k+g=xs.length/\Xw= .int .i64 (k:Int)/\s3= .int .u32 (((xs.take k).foldl TE 2166136261:Nat):Int)/\Hid (ay [] w wx))
 case atStart=>exact⟨0,by omega,rfl,rfl,ay.refl _ _⟩
 case round=>
  obtain⟨k,W,rfl,rfl,V⟩:=hrel;cases gk with
  |zero=>
   obtain rfl:k=xs.length:=by omega
   have af:¬(xs.length:Int)<(xs.length:Int):=by omega
   rw[aW (aH _)];go_wp2_with fail;go_ret;exact⟨rfl,V.out⟩
  |succ g=>
   have af:(k:Int)<(xs.length:Int):=by omega
   obtain⟨hg,off,rfl,J⟩:=H3.out k (by omega);have ac:wr.cell? ⟨gb,off+k,none⟩=some (.int .u64 (xs.getD k 0:Nat)):=by
    rw[aO (w:=w) (V.out.block gb hg (by simp))];exact J
   have hh:=zM (xs.take k) 2166136261 (by decide);have HT:=ar (xg TE xs 2166136261 k (by omega));generalize (xs.take k).foldl TE 2166136261=h,xs.getD k 0=x at *;have HB:=ar (Bk x wr);clear J;go_wp2_with(go_at_call 154;refine Rr HB.out λw2 G=> ?_;have fo:=ar (V.out.trans G (by simp));clear G);obtain⟨wo,rfl⟩:∃wo:World,wo=wr:=⟨_,rfl⟩;clear ac;go_loopg [3,16] 8 (λU s3 s16 wx=>∃z:Nat,z+U=8/\s16= .int .i64 (z:Int)/\s3= .int .u32 ((((lN x).take z).foldl fnv h:Nat):Int)/\wx=w2)
   case atStart=>exact⟨0,by omega,rfl,rfl,rfl⟩
   case round=>
    obtain⟨z,G,rfl,rfl,rfl⟩:=hrel;cases gk with
    |zero=>
     obtain rfl:z=8:=by omega
     rw[aW (by rw[l8];omega)];go_wp2_with fail;go_roundg g;case measure=>omega
     case rel=>exact⟨k+1,by omega,by go_num,by rw[HT.out];rfl,fo.out⟩
    |succ U=>
     have Qn:(z:Int)<8:=by omega
     have Iu:=DX (lN x) (l8 x) z (by omega);have ag:=ar (xg fnv (lN x) h z (by rw[l8];omega));have aa:=A7 ((lN x).take z) h hh;have ae:(lN x).getD z 0<256:=by rw[uL x z (by omega)];exact Cm _ _
     generalize ((lN x).take z).foldl fnv h=h',(lN x).getD z 0=c at *;have HF:=ar (abh aa ae);go_wp2_with fail;go_roundg U;case measure=>omega
     case rel=>
      refine⟨z+1,by omega,by go_num,?_,rfl⟩;rw[ag.out,HF.out]
def rS (l:List Nat):Nat:=if iu l=true then Ms [rK l]%4 else 0
theorem Uh (s:ByteArray)(hs:s.size<=9223372036854775807)(w:World):Calls prog 231 #[.string s] w λe w'=>e= .returned (.int .i64 (rS (bl s):Nat))/\ay [] w w':=by
 have z:=KW s hs w;unfold kZ at z;unfold rS;have z:=ar z;cases hg:iu (bl s)
 ·rw[hg,aA (by simp)] at z
  rw[aA (by simp)];clear hg;go_in;go_wp2_with(go_at_call 222;refine Rr z.out λG h=> ?_;have U:=ar h;clear h);go_ret;exact⟨rfl,U.out⟩
 ·rw[hg,aB rfl] at z
  rw[aB rfl];clear hg;generalize rK (bl s)=W at *;have hq:=KF [W];have V:=λ(G:World)=>XS (w:=G.alloc (.cells #[.int .u64 (W:Int)] 70)) (v:= .slice G.heap.size 1 1) (gb:=G.heap.size) (xs:=[W])
   (eZ.reads (T:= 70) (n:=1) ⟨rfl,_,1,rfl,aH _,by unfold maxLen;omega,λ_=>⟨rfl,_,bh.new _ _ _,rfl,rfl⟩⟩)
  have V:=ar V;generalize Ms [W]=q at *;go_in;go_wp2_with(first|(go_at_call 222;refine Rr z.out λG h=> ?_;have U:=ar h;clear h)|(go_at_call 134;refine Rr (V.out _) λw2 J=> ?_;have fo:=ar J;clear J));go_ret;exact⟨rfl,(U.out.alloc _).trans fo.out (by simp)⟩
def K4 (p:ByteArray×Int):Nat:=rS (bl p.1)
theorem Qo (p:ByteArray×Int):K4 p<4:=by
 unfold K4 rS;split
 ·exact iw _ (by decide)
 ·decide
def eB (E:List (ByteArray×Int)) (b:Nat):List (ByteArray×Int):=E.filter λp=>K4 p==b
theorem Ui (E:List (ByteArray×Int))(p:ByteArray×Int)(b:Nat):eB (E++[p]) b=if b=K4 p then eB E b++[p] else eB E b:=by
 unfold eB;rw[eJ];by_cases h:b=K4 p
 ·subst h;simp
 ·have :(K4 p==b)=false:=by simp;omega
  simp[this,h]
theorem kC (E:List (ByteArray×Int))(b:Nat):(eB E b).length<=E.length:=fR _ _
structure Four (w:World) (base:Nat) (S:Nat->Value) (F:Nat->List (ByteArray×Int)):Prop where
 row:∀b,b<4->w.ownsRow base 99 2 (S b) (F b).length (fe (F b))
 ne:∀b c,b<4->c<4->b≠c->∀g,(S b).ownBlock=some g->(S c).ownBlock≠some g
def pF (S:Nat->Value):Array Value:= #[S 0,S 1,S 2,S 3]
theorem JM (S:Nat->Value){q:Nat}(h:q<4):(pF S)[q]? =some (S q):=by
 rcases (show q=0\/q=1\/q=2\/q=3 by omega) with rfl|rfl|rfl|rfl<;>rfl
theorem Uj (S:Nat->Value){q:Nat}(h:q<4)(v:Value):(pF S).setIfInBounds q v=pF λb=>if b=q then v else S b:=by
 rcases (show q=0\/q=1\/q=2\/q=3 by omega) with rfl|rfl|rfl|rfl<;>rfl
theorem Four.keep(h:Four w z S F){l:List Nat}(J:ay l w w')(W:∀x,x∈l->x<z):Four w' z S F:=
 ⟨λb G=>eu (h.row b G) J λg U V=>by have :=dQ (h.row b G) g U;have :=W g V;omega,h.ne⟩
theorem Four.nil(w:World)(h:Nat):Four w h (λ_=> .slice none 0 0) λ_=>[]:=
 ⟨λ_ _=>⟨rfl,.inl ⟨rfl,rfl⟩⟩,λ_ _ _ _ _ g z=>by cases z⟩
theorem Ao{sz:Nat}{xs:List Value}(h:w.ownsRow z T sz v n xs):∀k,v.ownBlock=some k->k<w.heap.size:=by
 intro k G;obtain⟨-,U⟩:=h;rcases U with ⟨J,-⟩|⟨g2,cap,W,J,-,V,-⟩
 ·rw[J] at G;cases G
 ·rw[J] at G
  cases G;exact(Array.getElem?_eq_some_iff.1 V).1
theorem Four.grow(h:Four w z S F){q:Nat}(hq:q<4){v:Value}{p:ByteArray×Int}{g:Nat}
  (aa:w'.ownsRow z 99 2 v ((F q).length+1) (fe (F q++[p]))) (U:w.grownBy w' (S q).ownBlock) (hv:v.ownBlock=some g) (af:(S q).ownBlock=some g\/g=w.heap.size):
  Four w' z (λb=>if b=q then v else S b) λb=>if b=q then F b++[p] else F b:=by
 refine⟨λb J=> ?_,λb c J hc ae x hx=> ?_⟩
 ·show w'.ownsRow z _ 2 (if b=q then v else S b) (if b=q then F b++[p] else F b).length (fe (if b=q then F b++[p] else F b))
  by_cases e:b=q
  ·subst e
   rw[aB rfl,aB rfl,aC];exact aa
  ·rw[aA e,aA e]
   obtain⟨h0,h1⟩:=h.row b J;refine⟨h0,?_⟩;rcases h1 with ⟨e1,V⟩|⟨g2,cap,ag,e1,V,hh,e3⟩
   ·exact .inl ⟨e1,V⟩
   ·refine .inr ⟨g2,cap,ag,e1,V,?_,e3⟩
    rw[<-hh];refine U.block g2 (Array.getElem?_eq_some_iff.1 hh).1 λe4=> ?_
    exact h.ne b q J hq e g2 (by rw[e1];rfl) e4.symm
 ·have W:∀b,b<4->b≠q->(S b).ownBlock≠some g:=λb J ac hx=>by
   rcases af with h1|h1
   ·exact h.ne b q J hq ac g hx h1
   ·have :=Ao (h.row b J) g hx
    omega
  show(if c=q then v else S c).ownBlock≠some x;have G:(if b=q then v else S b).ownBlock=some x:=hx;by_cases e:b=q
  ·rw[aB e,hv] at G
   cases G;rw[aA];exact W c hc (by omega)
  ·rw[aA e] at G
   by_cases V:c=q
   ·rw[aB V,hv]
    intro h3;cases h3;exact W b J e G
   ·rw[aA V]
    exact h.ne b c J hc ae x G
theorem Uk (w:World):(zeroValue 259).run prog w= .ok (.agg (pF λ_=> .slice none 0 0)) w:=by kernel_rfl
theorem JN:(prog.info? 259).map (·.size)=some 4:=by kernel_rfl
theorem JO (h:bh w g (pF S) T):(loadVar 259 g).run prog w= .ok (.agg (pF S)) w:=
 bZ g 0 [S 0,S 1,S 2,S 3] underlying259 rfl JN λj z=>by
  rw[h.cell,bc];unfold pF;rw[aF]
theorem Nb{U wa V:World}{Z4:Array Value}{q m J:Nat}{p:ByteArray×Int}(G:ay [] U wa)(ae:wa.heap.size=U.heap.size+1)
  (hf:Four U (w.heap.size+2) S (eB (E.take j))) (W:bh U (w.heap.size+1) (pF S) 259) (aa:bh U w.heap.size Z4 259) (fV:ay [] w U) (hq:q<4)
  (hm:(eB (E.take j) q).length=m) (ac:V.ownsRow (w.heap.size+2) 99 2 (.slice J (m+1) h) (m+1) (fe (eB (E.take j) q)++[.string p.1,.int .i64 p.2]))
  (z:wa.grownBy V (S q).ownBlock) (ah:(S q).ownBlock=some J\/J=U.heap.size+1) (af:∀b,eB (E.take (j+1)) b=if b=q then eB (E.take j) b++[p] else eB (E.take j) b):
  ∃S',bh (V.setCell ⟨w.heap.size+1,q,none⟩ (.slice J (m+1) h)) (w.heap.size+1) (pF S') 259/\bh (V.setCell ⟨w.heap.size+1,q,none⟩ (.slice J (m+1) h)) w.heap.size Z4 259/\
   Four (V.setCell ⟨w.heap.size+1,q,none⟩ (.slice J (m+1) h)) (w.heap.size+2) S' (eB (E.take (j+1)))/\ay [] w (V.setCell ⟨w.heap.size+1,q,none⟩ (.slice J (m+1) h)):=by
 have ag:=hf.keep G (by simp);have xP:∀k,(S q).ownBlock=some k->w.heap.size+2<=k:=dQ (hf.row q hq);have Ge:=(z.block (w.heap.size+1) (W.keep G (by simp)).lt (λe=>by have :=xP _ e.symm;omega)).trans (W.keep G (by simp));have ai:=(z.block w.heap.size (aa.keep G (by simp)).lt (λe=>by have :=xP _ e.symm;omega)).trans (aa.keep G (by simp));have hF:=ag.grow (p:=p) (v:= .slice J (m+1) h) (g:=J) hq (by rw[hm,qJ];exact ac) z rfl (by rw[ae];exact ah);have hS:(λb=>if b=q then eB (E.take j) b++[p] else eB (E.take j) b)=eB (E.take (j+1)):=by
  funext b
  exact(af b).symm
 rw[hS] at hF;refine⟨_,?_,bh.other ai (by simp) _,hF.keep ((ay.refl [w.heap.size+1] V).setCell (p:=⟨w.heap.size+1,q,none⟩) (.inl (by simp)) _) (by intro x hx;rw[au] at hx;omega),?_⟩
 ·have :=bh.set Ge q (.slice J (m+1) h)
  rw[Uj S hq] at this;exact this
 ·exact((fV.trans' G).grown z (λk hk=>by have :=xP k hk;omega)).setCell (.inr (by show w.heap.size<=w.heap.size+1;omega)) _
def wm (w:World) (E:List (ByteArray×Int)) (e:Ending) (w':World):Prop:=
 ∃S:Nat->Value,e=pF S/\ay [] w w'/\∀b,b<4->∃g,bD w' (S b) g (eB E b)/\w.heap.size<=g
theorem JP (hE:bD w v g E)(bc:E.length<=10000)(aB:∀k,k<E.length->(eX E k).size<=9223372036854775807):
  Calls prog 211 #[v] w (wm w E):=by
 obtain⟨a,cap,rfl,bb,aM,zB⟩:=hE.open;unfold maxLen at aM;obtain⟨i0,hi,aV,aQ,aY⟩:=df Tryz.info_entry;have aA:=Uk;obtain⟨G,ai⟩:∃G,G=pF λ_=> .slice none 0 0:=⟨_,rfl⟩
 rw[<-ai] at aA;have az:=ar ai;clear ai;have qK:Hid (bh ((w.alloc (.cells G 259)).alloc (.cells G 259)) (w.heap.size+1) G 259):=by
  have :=bh.new (w.alloc (.cells G 259)) G 259;have e:(w.alloc (.cells G 259)).heap.size=w.heap.size+1:=by simp
  rw[e] at this;exact this
 have oP:Hid (bh ((w.alloc (.cells G 259)).alloc (.cells G 259)) w.heap.size G 259):=(bh.new w _ _).alloc _;have fJ:Hid (ay [] w ((w.alloc (.cells G 259)).alloc (.cells G 259))):=((ay.refl _ _).alloc _).alloc _;have HW:Hid (∀j,j<E.length->∀wx,Calls prog 231 #[.string (eX E j)] wx λe w'=>e= .returned (.int .i64 (rS (bl (eX E j)):Nat))/\ay [] wx w'):=λj hj wx=>Uh _ (aB j hj) wx
 have aT:Hid (∀j,j<E.length->E.take (j+1)=E.take j++[(eX E j,jm E j)]):=λj hj=>Gc E j hj
 have CK:Hid (∀j b,(eB (E.take j) b).length<=E.length):=λj b=>cG (kC _ _) (by rw[aJ];omega)
 have EG:Hid (E.take E.length=E):=gy;clear hE aB;generalize hn:E.length=n at *;clear hn;go_in;go_wp2_with fail;clear aA;go_loopg [9] n (λgh s9 wx=>∃(j:Nat) (S:Nat->Value),j+gh=n/\s9= .int .i64 (j:Int)/\Hid (bh wx (w.heap.size+1) (pF S) 259/\bh wx w.heap.size G 259/\Four wx (w.heap.size+2) S (eB (E.take j))/\ay [] w wx))
 case atStart=>
  refine⟨0,λ_=> .slice none 0 0,by omega,rfl,?_,oP.out,?_,fJ.out⟩
  ·rw[<-az.out];exact qK.out
  ·have :eB (E.take 0)=λ_=>[]:=by funext b;rfl
   rw[this];exact Four.nil _ _
 case round=>
  clear oP qK fJ;obtain⟨j,S,hj,rfl,HP⟩:=hrel;cases gk with
  |zero=>
   obtain rfl:j=n:=by omega
   obtain⟨U,W,hf,fV⟩:=HP.out;have HL:=ar (JO U);have aN:G.size=4:=by rw[az.out];rfl
   obtain⟨w2,hS,av,af⟩:=bG (P:= prog) (ty:= 259) (cs:=[S 0,S 1,S 2,S 3]) JN W (by rw[aN];rfl) (λu hu=>by
    simp only[aL,aK,bC] at hu;rcases hu with rfl|rfl|rfl|rfl
    ·obtain⟨a,c,h,-⟩:=iV (hf.row 0 (by omega));rw[h];rfl
    ·obtain⟨a,c,h,-⟩:=iV (hf.row 1 (by omega));rw[h];rfl
    ·obtain⟨a,c,h,-⟩:=iV (hf.row 2 (by omega));rw[h];rfl
    ·obtain⟨a,c,h,-⟩:=iV (hf.row 3 (by omega));rw[h];rfl)
   have HS:Hid ((storeVar 259 w.heap.size (.agg (pF S))).run prog wr= .ok () w2):=hS;have rN:Hid ((loadVar 259 w.heap.size).run prog w2= .ok (.agg (pF S)) w2):=JO (S:=S) av;have HM:Hid (wm w E (.returned (pF S)) w2):=by
    refine⟨S,rfl,fV.trans af (by simp),λb hb=> ?_⟩;have hr:=eu (hf.row b hb) af (λg hg hm=>by
     have :=dQ (hf.row b hb) g hg;rw[au] at hm;omega)
    rw[EG.out] at hr;obtain⟨g,ho,hg⟩:=eZ.of_row hr;by_cases h0:(eB E b).length=0
    ·exact⟨w.heap.size,(ho.ereads rfl).anyG h0 _,aH _⟩
    ·exact⟨g,ho.ereads rfl,by have :=(hg h0).1;omega⟩
   clear HP hj U W hf fV hS av af;go_wp2_with(with_reducible first|refine gL 259 HL.out ?_|refine gS 259 HS.out ?_);exact aI (bA results211 rfl rN.out) rfl HM.out
  |succ gk=>
   have ah:j<n:=by omega
   have bq:(j:Int)<(n:Int):=by omega
   have Ci:(0:Int)<=(j:Int):=by omega
   obtain⟨aj,off,rfl,e0,e1⟩:=zB.out j ah;obtain⟨U,W,hf,fV⟩:=HP.out;obtain⟨qK,oP,HF,jr⟩:=hh4 U W hf fV;have c0:=(aO (w:=w) (a:=⟨g,off+j*2,none⟩) (fV.block g aj (by simp))).trans e0;have c1:=(aO (w:=w) (a:=⟨g,off+j*2+1,none⟩) (fV.block g aj (by simp))).trans e1;have aR:=ar (HW.out j ah);have Sz:Hid (∀b,eB (E.take (j+1)) b=if b=K4 (eX E j,jm E j) then eB (E.take j) b++[(eX E j,jm E j)] else eB (E.take j) b):=λb=>by rw[aT.out j ah,Ui]
   have ae:rS (bl (eX E j))<4:=Qo (eX E j,jm E j);have ax:K4 (eX E j,jm E j)=rS (bl (eX E j)):=rfl;have bp:w.heap.size+1<wr.heap.size:=U.lt;rw[ax] at Sz;clear e0 e1 HP U W hf fV ax;generalize eX E j=nm,jm E j=ino at *;generalize rS (bl nm)=q at *;go_wp2_with fail;refine Rr (aR.out _) λJ ag=> ?_;have Qk:=(bh.new wr #[.string nm,ino] 99).keep ag (by simp);have IM:Hid (ay [] wr J):=((ay.refl [] wr).alloc (.cells #[.string nm,ino] 99)).trans' ag;obtain⟨aF,ac,aP⟩:=hh3 (HF.out.keep IM.out (by simp)) (qK.out.keep IM.out (by simp)) (oP.out.keep IM.out (by simp));have br:w.heap.size+2<=J.heap.size:=by have :=IM.out.size;omega
   have d0:∀o,(J.alloc o).drew.cell? wr.heap.size=some (.string nm):=λo=>by rw[(Qk.alloc o).drew.cell];rfl
   have d1:∀o,(J.alloc o).drew.cell? ⟨wr.heap.size,1,none⟩=some (.int .i64 ino):=λo=>by rw[(Qk.alloc o).drew.cell];rfl
   have bn:J.cell? wr.heap.size=some (.string nm):=by rw[Qk.cell];rfl
   have bg:J.cell? ⟨wr.heap.size,1,none⟩=some (.int .i64 ino):=by rw[Qk.cell];rfl
   have aa:=aF.out.row q ae;obtain⟨aq,cq,aW,q1,q2⟩:=iV aa;have bo:J.cell? ⟨w.heap.size+1,q,none⟩=some (S q):=by rw[ac.out.cell,JM S ae]
   have ba:∀o,(J.alloc o).drew.cell? ⟨w.heap.size+1,q,none⟩=some (S q):=λo=>by rw[(ac.out.alloc o).drew.cell,JM S ae]
   have aU:∀o,(J.alloc o).drew.frozen? ⟨w.heap.size+1,q,none⟩=false:=λo=>(ac.out.alloc o).drew.frozen _
   have bj:(0:Int)<=(q:Int):=by omega
   have bk:(q:Int)<4:=by omega
   have K5:=CK.out j q;obtain⟨nt,aS⟩:=hh2 aa (jr.out.trans' IM.out);clear aa ag Qk;generalize ak:S q=sq at *;subst aW;have aD:=ar ak;clear ak;generalize hm:(eB (E.take j) q).length=m at *;have HM:=ar hm;clear hm;unfold maxLen at q2;have aG:(Value.slice aq m cq).ownBlock≠some (w.heap.size+1):=λe=>by have :=dQ nt.out _ e;omega
   go_wp2_with fail
   go_region_law ((refine step_append_lies _ (by rfl) _ _ _ (by rfl) (w.heap.size+2) 99 i0 _ 2 24 underlying30 hi aV aQ aY rfl (by omega) (.slice aq m cq) m _ (by rfl) ((nt.out.alloc _).drew) ⟨J.heap.size,0,none⟩ 1 1 [.string nm,.int .i64 ino] (by rfl) (by rfl) (lH J [_,_] _ _ rfl) (by simp[Value.oneCell']) (by omega) (by unfold maxLen;omega) (by omega) (by simp;omega) (J.heap.size+1) (by simp) ?_;intro FM bf w2 V z aC Qn;have aZ:=(z.cell_far ⟨w.heap.size+1,q,none⟩ (by simp;omega) (cZ aG)).trans (ba _);have aX:=(z.frozen_far ⟨w.heap.size+1,q,none⟩ (by simp;omega) (cZ aG)).trans (aU _)))
   all_goals
    have HN:=ar (Nb (wa:=(J.alloc (.cells #[.string nm,ino] 99)).drew) (p:=(nm,ino)) (((ay.refl [] J).alloc _).drew) (by simp) aF.out ac.out aP.out aS.out ae HM.out V (by rw[aD.out];exact z) (by rw[aD.out];exact aC) Sz.out);clear V z aC Qn aZ aX;go_wp2_with fail;go_roundg gk;case measure=>omega
    case rel=>
     obtain⟨S',h1,h2,h3,h4⟩:=HN.out;exact⟨j+1,S',by omega,by go_num,h1,h2,h3,h4⟩
def afw (n:bT):Prop:=n.E.length<=24/\n.S=n.E.length/\n.B=List.replicate 13 0
theorem Nc (n:bT)(v:Value)(g:Nat)(hB:n.B.length=13)(w:World)(hE:bD w v g n.E)(hN:∀k,k<n.E.length->(eX n.E k).size<=9223372036854775807):
  Calls prog 144 #[aM n v] w λe w'=>e=(decide (pk n))/\ay [] w w':=by
 obtain⟨a,cap,rfl,aC,aj,zB⟩:=hE.open;have HN:=ar hN;unfold maxLen at aj;obtain⟨Z,hZ⟩:∃Z,Z=aM n (.slice a n.E.length cap):=⟨_,rfl⟩;have W:Sk Z n (.slice a n.E.length cap):=by rw[hZ];exact gG _ hB
 rw[<-hZ];have V:=bh.new w Z 75;have c3:(w.alloc (.cells Z 75)).cell? ⟨w.heap.size,3,none⟩=some (.int .i64 n.S):=by rw[V.cell];exact W.f3
 have ac:(w.alloc (.cells Z 75)).cell? ⟨w.heap.size,17,none⟩=some (.slice a n.E.length cap):=by rw[V.cell];exact W.f5
 have HK:Hid (ay [] w (w.alloc (.cells Z 75))):=(ay.refl [] w).alloc _;obtain⟨p9,HL⟩:=hh2 V (fA (off:=4) V hB W.f4);have K6:Hid (∀wx:World,bh wx w.heap.size Z 75->wx.cell? ⟨w.heap.size,17,none⟩=some (.slice a n.E.length cap)):=λwx hb=>by rw[hb.cell];exact W.f5
 have IK:=ar (λwx=>P9 (a:=n.B) (b:=List.replicate 13 0) hB rfl wx);have aP:=CF;have av:=pC;have G:Hid (pk n↔afw n/\∀k,k<n.E.length->ED n.E k):=⟨λh=>⟨⟨h.1,h.2.1,h.2.2.1⟩,h.2.2.2⟩,λh=>⟨h.1.1,h.1.2.1,h.1.2.2,h.2⟩⟩;clear V W hZ hB hE hN;by_cases aD:24<n.E.length
 ·have J:Hid (decide (pk n)=false):=aQ λh=>by have :=h.1;omega
  clear G HN zB;generalize n.E.length=m at *;have PC:(24:Int)<(m:Int):=by omega
  go_in;go_wp2_with fail;go_ret;exact⟨by rw[J.out];rfl,HK.out⟩
 ·by_cases hS:n.S=n.E.length
  ·obtain⟨t,ht⟩:∃t,decide (n.B=List.replicate 13 0)=t:=⟨_,rfl⟩
   rw[ht] at IK;have ax:=IK.out;rw[hS] at c3;have PC:¬(24:Int)<((n.E.length:Nat):Int):=by omega
   cases t
   ·have J:Hid (decide (pk n)=false):=aQ λh=>of_decide_eq_false ht h.2.2.1
    clear G HN zB ht IK K6;generalize (zs (List.replicate 13 0)).toArray=Z0,(zs n.B).toArray=ZB,n.E.length=m at *;have aA:((m:Int) != (m:Int))=false:=by simp
    go_in;go_wp2_with((with_reducible show wpList _ _ _ (⟨_,.load 73 (.tmp 18),_,_,_,_⟩::_) _ _);refine eA (by simp[Region.wanted,yielded]) 73 (.tmp 18) rfl _ rfl _ HL.out ?_);go_ret;exact⟨by rw[J.out];rfl,HK.out⟩
   ·have HA:Hid (afw n):=⟨by omega,hS,of_decide_eq_true ht⟩
    clear ht IK;generalize (zs (List.replicate 13 0)).toArray=Z0,(zs n.B).toArray=ZB,hm:n.E.length=m at *;go_in;go_wp2_with((with_reducible show wpList _ _ _ (⟨_,.load 73 (.tmp 18),_,_,_,_⟩::_) _ _);refine eA (by simp[Region.wanted,yielded]) 73 (.tmp 18) rfl _ rfl _ HL.out ?_);clear av ax HL c3 ac;go_loopg [26] m (λgh s26 wx=>∃k:Nat,k+gh=m/\s26= .int .i64 (k:Int)/\Hid ((∀i,i<k->ED n.E i)/\ay [] (w.alloc (.cells Z 75)) wx))
    case atStart=>exact⟨0,by omega,rfl,by simp,ay.refl _ _⟩
    case round=>
     obtain⟨k,hk,rfl,HR⟩:=hrel;cases gk with
     |zero=>
      obtain rfl:k=m:=by omega
      have HT:Hid (decide (pk n)=true):=bu (G.out.2 ⟨HA.out,HR.out.1⟩);have jr:=ar (HK.out.trans' HR.out.2);clear HR hk G K6 hm;go_wp2_with fail;go_ret;exact⟨by rw[HT.out];rfl,jr.out⟩
     |succ gg=>
      have JK:k<m:=by omega
      have aS:(k:Int)<(m:Int):=by omega
      have cM:(0:Int)<=(k:Int):=by omega
      obtain⟨hg,off,rfl,e0,e1⟩:=zB.out k JK;have vS:=HK.out.trans' HR.out.2;have c0:wr.cell? ⟨g,off+k*2,none⟩=some (.string (eX n.E k)):=(aO (w:=w) (a:=⟨g,off+k*2,none⟩) (vS.block g hg (by simp))).trans e0;have c1:wr.cell? ⟨g,off+k*2+1,none⟩=some (.int .i64 (jm n.E k)):=(aO (w:=w) (a:=⟨g,off+k*2+1,none⟩) (vS.block g hg (by simp))).trans e1;have HG:=ar (λwx=>KV (eX n.E k) (HN.out k JK) wx);have U:Hid (ED n.E k↔iu (bl (eX n.E k))=true/\(0<=jm n.E k/\jm n.E k<=31)/\(0<k->leB (eX n.E k) (eX n.E (k-1))=false)):=Iff.rfl;have jY:Hid (¬ED n.E k->decide (pk n)=false):=λh=>aQ λhd=>h ((G.out.1 hd).2 k JK)
      obtain⟨nK,xo,ai⟩:=hh3 vS HR.out.1 HR.out.2;have ac:=K6.out wr (p9.out.keep HR.out.2 (by simp));have z:Hid (∀q,k=q+1->wr.cell? ⟨g,off+q*2,none⟩=some (.string (eX n.E q))):=λq hq=>by
       obtain⟨-,aB,az,f0,-⟩:=zB.out q (by omega);cases az;exact(aO (w:=w) (a:=⟨g,off+q*2,none⟩) (vS.block g hg (by simp))).trans f0
      clear vS e0 e1 zB G HR K6;generalize aG:eX n.E k=nm,jm n.E k=ino at *;cases hgd:iu (bl nm)
      ·have J:Hid (decide (pk n)=false):=jY.out λh=>by have :=(U.out.1 h).1;rw[hgd] at this;cases this
       rw[hgd] at HG;clear U jY hgd hk z hm;go_wp2_with fail;refine C' (HG.out _) ?_;go_wp2_with fail;go_ret;exact⟨by rw[J.out];rfl,nK.out.alloc _⟩
      ·rw[hgd] at HG
       by_cases aL:ino<0
       ·have J:Hid (decide (pk n)=false):=jY.out λh=>by have :=(U.out.1 h).2.1.1;omega
        clear U jY hgd hk z hm;go_wp2_with fail;refine C' (HG.out _) ?_;go_wp2_with fail;go_ret;exact⟨by rw[J.out];rfl,nK.out.alloc _⟩
       ·by_cases aK:32<=ino
        ·have J:Hid (decide (pk n)=false):=jY.out λh=>by have :=(U.out.1 h).2.1.2;omega
         clear U jY hgd hk z hm;go_wp2_with fail;refine C' (HG.out _) ?_;go_wp2_with fail;go_ret;exact⟨by rw[J.out];rfl,nK.out.alloc _⟩
        ·by_cases ag:k=0
         ·have af:Hid (∀i,i<k+1->ED n.E i):=λi hi=>by
           obtain rfl:i=k:=by omega
           exact U.out.2 ⟨hgd,⟨by omega,by omega⟩,λh=>absurd h (by omega)⟩
          have aR:¬(0:Int)<(k:Int):=by omega
          have ak:decide (0<k)=false:=aQ (by omega);clear U jY hgd z hm xo ag;go_wp2_with fail;refine C' (HG.out _) ?_;go_wp2_with fail
          go_quiet (fail)
          go_wp2_with fail;go_roundg gg;case measure=>omega
          case rel=>exact⟨k+1,by omega,by go_num,af.out,(ai.out.alloc _).drewN _⟩
         ·obtain⟨q,hq⟩:∃q,k=q+1:=⟨k-1,by omega⟩
          have ah:=z.out q hq;have aI:∀o,(wr.alloc o).cell? ⟨g,off+q*2,none⟩=some (.string (eX n.E q)):=λo=>by
           rw[World.cell?_alloc_some _ _ _ (by rw[ah];rfl)];exact ah
          have aJ:∀o,(wr.alloc o).cell? ⟨w.heap.size,17,none⟩=some (.slice (some ⟨g,off,none⟩) m cap):=λo=>by
           rw[World.cell?_alloc_some _ _ _ (by rw[ac];rfl)];exact ac
          clear ah;have fV:(0:Int)<(k:Int):=by omega
          have ak:decide (0<k)=true:=bu (by omega);have aN:(k:Int)-1=(q:Int):=by omega
          have aF:(q:Int)<(m:Int):=by omega
          have aH:(0:Int)<=(q:Int):=by omega
          have ae:∀b,leB nm (eX n.E q)=b->(Op.bytesLess nm.toList (eX n.E q).toList||(nm.toList==(eX n.E q).toList))=b:=λb h=>h
          have aa:Hid (ED n.E k↔leB nm (eX n.E q)=false):=by
           show _↔_;rw[U.out,show k-1=q by omega];exact⟨λh=>h.2.2 (by omega),λh=>⟨hgd,⟨by omega,by omega⟩,λ_=>h⟩⟩
          generalize eX n.E q=pm at *;cases hle:leB nm pm
          ·have af:Hid (∀i,i<k+1->ED n.E i):=λi hi=>by
            by_cases e:i=k
            ·subst e;exact aa.out.2 hle
            ·exact xo.out i (by omega)
           have au:=ae _ hle;clear U aa jY hgd z hm xo ag ae hle hq;go_wp2_with fail;refine C' (HG.out _) ?_;go_wp2_with fail
           go_quiet (fail)
           go_wp2_with fail;go_roundg gg;case measure=>omega
           case rel=>exact⟨k+1,by omega,by go_num,af.out,(ai.out.alloc _).drewN _⟩
          ·have J:Hid (decide (pk n)=false):=jY.out λh=>by
            have :=aa.out.1 h;rw[hle] at this;cases this
           have au:=ae _ hle;clear U aa jY hgd z hm xo ag ae hle hq hk;go_wp2_with fail;refine C' (HG.out _) ?_;go_wp2_with fail
           go_quiet (fail)
           go_wp2_with fail;go_ret;exact⟨by rw[J.out];rfl,(nK.out.alloc _).drewN _⟩
  ·have J:Hid (decide (pk n)=false):=aQ λh=>hS h.2.1
   have e2:(n.S != ((n.E.length:Nat):Int))=true:=bne_iff_ne.2 hS;have PC:¬(24:Int)<((n.E.length:Nat):Int):=by omega
   clear G HN zB;generalize n.S=s,n.E.length=m at *;go_in;go_wp2_with fail;go_ret;exact⟨by rw[J.out];rfl,HK.out⟩
theorem oz (n:bT)(v:Value)(g:Nat)(hB:n.B.length=13)(w:World)(hE:bD w v g n.E)(hN:∀k,k<n.E.length->(eX n.E k).size<=9223372036854775807):
  Calls prog 101 #[aM n v] w λe w'=>e=(decide (ct n))/\ay [] w w':=by
 have aa:Hid (∀J,Calls prog 143 #[aM n v] J λe w'=>e=(decide (qT n))/\ay [] J w'):=λJ=>by
  obtain⟨a,cap,hv,-⟩:=hE;subst hv;exact K2 n a cap hB J
 have ac:Hid (∀J,ay [] w J->Calls prog 144 #[aM n v] J λe w'=>e=(decide (pk n))/\ay [] J w'):=λJ hk=>
  Nc n v g hB J (hE.keep hk (by simp)) hN
 obtain⟨Z,hZ⟩:∃Z,Z=aM n v:=⟨_,rfl⟩;have V:Sk Z n v:=by rw[hZ];exact gG _ hB
 rw[<-hZ] at aa ac ⊢;have z:=bh.new w Z 75;have c0:(w.alloc (.cells Z 75)).cell? w.heap.size=some (.int .i64 n.F):=by rw[z.cell];exact V.f0
 have c1:(w.alloc (.cells Z 75)).cell? ⟨w.heap.size,1,none⟩=some (.int .i64 n.K):=by rw[z.cell];exact V.f1
 have c2:(w.alloc (.cells Z 75)).cell? ⟨w.heap.size,2,none⟩=some (.int .i64 n.L):=by rw[z.cell];exact V.f2
 have W:Hid (ay [] w (w.alloc (.cells Z 75))):=(ay.refl [] w).alloc _;have HL:Hid ((loadVar 75 w.heap.size).run prog (w.alloc (.cells Z 75))= .ok (.agg Z) (w.alloc (.cells Z 75))):=by
  have :=cg (n:=n) (v:=v) (by rw[<-hZ];exact z) hB;rw[<-hZ] at this;exact this
 clear z V hZ hE hN hB;by_cases hF:n.F=1\/n.F=2
 ·rcases hF with hF|hF
  all_goals
   rw[hF] at c0;by_cases af:n.L<0
   ·have HF:Hid (decide (ct n)=false):=aQ λh=>by have :=h.2.1.1;omega
    generalize n.L=l at *;go_in;go_wp2_with fail;go_ret;exact⟨by rw[HF.out];rfl,W.out⟩
   ·by_cases ae:65535<n.L
    ·have HF:Hid (decide (ct n)=false):=aQ λh=>by have :=h.2.1.2;omega
     generalize n.L=l at *;go_in;go_wp2_with fail;go_ret;exact⟨by rw[HF.out];rfl,W.out⟩
    ·by_cases SA:n.K=1
     ·have HQ:Hid (decide (ct n)=decide (qT n)):=decide_eq_decide.2 ⟨λh=>by
       rcases h.2.2 with h|h
       ·exact h.2
       ·omega,λh=>⟨by omega,⟨by omega,by omega⟩,.inl ⟨SA,h⟩⟩⟩
      rw[SA] at c1;generalize decide (qT n)=q,n.L=l at *;go_in;go_wp2_with(with_reducible refine gL 75 HL.out ?_);refine Rr (aa.out _) λw1 G=> ?_;have jH:=ar (W.out.trans' G);clear G;go_wp2_with fail;go_ret;exact⟨by rw[HQ.out];rfl,jH.out⟩
     ·by_cases U:n.K=2
      ·have HQ:Hid (decide (ct n)=decide (pk n)):=decide_eq_decide.2 ⟨λh=>by
        rcases h.2.2 with h|h
        ·omega
        ·exact h.2,λh=>⟨by omega,⟨by omega,by omega⟩,.inr ⟨U,h⟩⟩⟩
       rw[U] at c1;generalize decide (pk n)=q,n.L=l at *;go_in;go_wp2_with(with_reducible refine gL 75 HL.out ?_);refine Rr (ac.out _ W.out) λw1 G=> ?_;have jH:=ar (W.out.trans' G);clear G;go_wp2_with fail;go_ret;exact⟨by rw[HQ.out];rfl,jH.out⟩
      ·have HF:Hid (decide (ct n)=false):=aQ λh=>by
        rcases h.2.2 with h|h
        ·exact SA h.1
        ·exact U h.1
       have k1:(n.K==1)=false:=cL.2 SA;have k2:(n.K==2)=false:=cL.2 U;generalize n.L=l,n.K=kk at *;go_in;go_wp2_with fail;go_ret;exact⟨by rw[HF.out];rfl,W.out⟩
 ·have HF:Hid (decide (ct n)=false):=aQ λh=>hF h.1
  have f1:(n.F != 1)=true:=bne_iff_ne.2 λh=>hF (.inl h)
  have f2:(n.F != 2)=true:=bne_iff_ne.2 λh=>hF (.inr h)
  clear hF;generalize n.F=f at *;go_in;go_wp2_with fail;go_ret;exact⟨by rw[HF.out];rfl,W.out⟩
end Go.Proofs.YtimcfdnbpkiniaaGreatDoor
