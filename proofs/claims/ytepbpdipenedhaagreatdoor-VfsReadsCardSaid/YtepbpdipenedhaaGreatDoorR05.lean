/- Lemmas. -/
import Derived.Test.YtepbpdipenedhaaGreatDoorR04
import Derived.Deep.RegionHeld
set_option maxHeartbeats 8000000
set_option maxRecDepth 100000
namespace Go.Proofs.YtepbpdipenedhaaGreatDoor
open Go.Proofs.Tryz
open Go.RowKit
variable{s t:Int}{l:List Int}{w w':World}{v:Value}{T g h j n z:Nat}{E:List (ByteArray×Int)}{S:Nat->Value}{F:Nat->List (ByteArray×Int)}
def oh (n:bP):Int:=n.F+256*n.K+65536*n.L
structure yK (n:bP):Prop where
 f:0<=n.F/\n.F<256
 k:0<=n.K/\n.K<256
 l:0<=n.L/\n.L<65536
 s:0<=n.S/\n.S<9223372036854775808
def il (n:bP) (l:List Int) (h:Int):List Int:=oh n::n.S::(l.take 5++[h])
theorem acH (f k m:Nat)(h:f<256)(z:k<256)(G:m<65536):bits .or .u64 (f:Int) ((k:Int)*256)=((f+k*256:Nat):Int)/\bits .or .u64 ((f+k*256:Nat):Int) ((m:Int)*65536)=((f+k*256+m*65536:Nat):Int):=by
 constructor
 ·rw[show(k:Int)*256=((k*256:Nat):Int) by omega,u64_or_nat _ _ (by omega) (by omega),Nat.or_comm,nat_join 8 _ _ (by exact Nat.mul_mod_left _ _) h,Nat.add_comm]
 ·rw[show(m:Int)*65536=((m*65536:Nat):Int) by omega,u64_or_nat _ _ (by omega) (by omega),Nat.or_comm,nat_join 16 _ _ (by exact Nat.mul_mod_left _ _) (show f+k*256<65536 by omega),Nat.add_comm]
def mY (t s:Int) (l:List Int) (k:Nat):List Int:=t::s::(dW 0 l k++[0])
theorem uY (z:l.length=5){k:Nat}(h:k<=5):(mY t s l k).length=8:=by simp[mY,kT,z,h]
theorem LP (z:l.length=5){k:Nat}(h:k<5):(mY t s l k).set (2+k) (l.getD k 0)=mY t s l (k+1):=by
 rw[mY,show 2+k=k+1+1 by omega,ai,ai,List.set_append_left _ _ (by rw[kT _ _ _ (by omega)];omega),kO 0 l k (by omega) (l.getD k 0) (by simp[show k<l.length by omega])];rfl
theorem LQ (h:l.length=5)(x:Int):(mY t s l 5).set 7 x=t::s::(l++[x]):=by
 rw[mY,show dW 0 l 5=l by rw[<-h];exact lL 0 l,ai,ai,dx _ _ (by omega),h];rfl
def tN (n:bP):List Int:=oh n::n.S::List.replicate 6 0
theorem BM (n:bP):(tN n).length=8:=by simp[tN]
theorem D5 (n:bP)(v:Value)(hB:n.B.length=13)(ht:yK n)(w:World):
  Calls prog 211 #[.agg (aR n v)] w λe w'=>e= .returned (.agg (aW (tN n)).toArray)/\az [] w w':=by
 have G:=iX v hB;generalize aR n v=Z at *;have ae:=kC;have J:bh (w.alloc (.cells Z 111)) w.heap.size Z 111 :=bh.new _ _ _;have c0:∀z h,(((w.alloc (.cells Z 111)).alloc z).alloc h).cell? ⟨w.heap.size,0,none⟩=some (.int .i64 n.F):=λz h=>by rw[((J.alloc z).alloc h).cell];exact G.f0
 have c1:∀z h,(((w.alloc (.cells Z 111)).alloc z).alloc h).cell? ⟨w.heap.size,1,none⟩=some (.int .i64 n.K):=λz h=>by rw[((J.alloc z).alloc h).cell];exact G.f1
 have c2:∀z h,(((w.alloc (.cells Z 111)).alloc z).alloc h).cell? ⟨w.heap.size,2,none⟩=some (.int .i64 n.L):=λz h=>by rw[((J.alloc z).alloc h).cell];exact G.f2
 have c3:∀z h,(((w.alloc (.cells Z 111)).alloc z).alloc h).cell? ⟨w.heap.size,3,none⟩=some (.int .i64 n.S):=λz h=>by rw[((J.alloc z).alloc h).cell];exact G.f3
 obtain⟨tf,tk,tl,ts⟩:=ht;obtain⟨f,hf⟩:∃f:Nat,n.F=(f:Int):=⟨n.F.toNat,by omega⟩;obtain⟨k,hk⟩:∃k:Nat,n.K=(k:Int):=⟨n.K.toNat,by omega⟩;obtain⟨m,hm⟩:∃m:Nat,n.L=(m:Int):=⟨n.L.toNat,by omega⟩;obtain⟨s,hs⟩:∃s:Nat,n.S=(s:Int):=⟨n.S.toNat,by omega⟩;rw[hf] at c0 tf;rw[hk] at c1 tk;rw[hm] at c2 tl;rw[hs] at c3 ts;obtain⟨q1,q2⟩:=acH f k m (by omega) (by omega) (by omega);have W:Hid (((f+k*256+m*65536:Nat):Int)=oh n):=by
  show _=_;rw[oh,hf,hk,hm];omega
 generalize f+k*256+m*65536=t at *;generalize f+k*256=t1 at *;have ma:Hid (tN n=(t:Int)::(s:Int)::List.replicate 6 0):=by
  show _=_;rw[tN,<-W.out,hs]
 clear hf hk hm hs W G hB;rw[ma.out];have EY:((t:Int)::(s:Int)::List.replicate 6 0).length=8:=by simp
 have U:bh (((w.alloc (.cells Z 111)).alloc (.cells (aW (List.replicate 8 0)).toArray 195)).alloc (.cells (((aW (List.replicate 8 0)).set 0 (.int .u64 (t:Int))).set 1 (.int .u64 (s:Int))).toArray 195)) (w.heap.size+1+1) (aW ((t:Int)::(s:Int)::List.replicate 6 0)).toArray 195 :=by
  have :=bh.new ((w.alloc (.cells Z 111)).alloc (.cells (aW (List.replicate 8 0)).toArray 195)) (((aW (List.replicate 8 0)).set 0 (.int .u64 (t:Int))).set 1 (.int .u64 (s:Int))).toArray 195;have e:((w.alloc (.cells Z 111)).alloc (.cells (aW (List.replicate 8 0)).toArray 195)).heap.size=w.heap.size+1+1:=by simp
  rw[e] at this;exact this
 have V:bh (((w.alloc (.cells Z 111)).alloc (.cells (aW (List.replicate 8 0)).toArray 195)).alloc (.cells (((aW (List.replicate 8 0)).set 0 (.int .u64 (t:Int))).set 1 (.int .u64 (s:Int))).toArray 195)) (w.heap.size+1) (aW (List.replicate 8 0)).toArray 195 :=by
  have :=(bh.new (w.alloc (.cells Z 111)) (aW (List.replicate 8 0)).toArray 195).alloc (.cells (((aW (List.replicate 8 0)).set 0 (.int .u64 (t:Int))).set 1 (.int .u64 (s:Int))).toArray 195);have e:(w.alloc (.cells Z 111)).heap.size=w.heap.size+1:=by simp
  rw[e] at this;exact this
 have HL:=au (eY U EY);obtain⟨w2,hS,aa,ac⟩:=bB (P:= prog) (ty:= 195) (cs:=aW ((t:Int)::(s:Int)::List.replicate 6 0)) (by rw[bp,EY];exact ja) V (by simp[bp]) (fh _);have HS:=au hS;have qN:=au (eY aa EY);have iZ:Hid (az [] w w2):=((((az.refl _ _).alloc _).alloc _).alloc _).trans ac (by simp);clear U V hS aa ac J;go_enter func211,ntmps211;go_wp2_with(first|(with_reducible refine gL 195 HL.out ?_)|(with_reducible refine gS 195 HS.out ?_));exact aL (b9 results211 rfl qN.out) rfl ⟨rfl,iZ.out⟩
theorem CZ (n:bP)(v:Value)(hB:n.B.length=13)(ht:yK n)(l:List Int)(hl:l.length=13)(hn:acG l)(h:Int)(h0:0<=h/\h<9223372036854775808)(w:World):
  Calls prog 193 #[.agg (aR n v),.agg (zs l).toArray,.int .i64 h] w λe w'=>e= .returned (.agg (aW (il n l h)).toArray)/\az [] w w':=by
 have HH:=au (D5 n v hB ht);have aH:=kC;have vY:=au (ct (((bh.new w (aR n v) 111).alloc (.cells (zs l).toArray 109)).alloc (.cells (aW (List.replicate 8 0)).toArray 195)) hB);have af:bh (((w.alloc (.cells (aR n v) 111)).alloc (.cells (zs l).toArray 109)).alloc (.cells (aW (List.replicate 8 0)).toArray 195)) (w.heap.size+1) (zs l).toArray 109 :=by
  have :=(bh.new (w.alloc (.cells (aR n v) 111)) (zs l).toArray 109).alloc (.cells (aW (List.replicate 8 0)).toArray 195);have e:(w.alloc (.cells (aR n v) 111)).heap.size=w.heap.size+1:=by simp
  rw[e] at this;exact this
 have ar:bh (((w.alloc (.cells (aR n v) 111)).alloc (.cells (zs l).toArray 109)).alloc (.cells (aW (List.replicate 8 0)).toArray 195)) (w.heap.size+1+1) (aW (List.replicate 8 0)).toArray 195 :=by
  have :=bh.new ((w.alloc (.cells (aR n v) 111)).alloc (.cells (zs l).toArray 109)) (aW (List.replicate 8 0)).toArray 195;have e:((w.alloc (.cells (aR n v) 111)).alloc (.cells (zs l).toArray 109)).heap.size=w.heap.size+1+1:=by simp
  rw[e] at this;exact this
 have fW:Hid (az [] w (((w.alloc (.cells (aR n v) 111)).alloc (.cells (zs l).toArray 109)).alloc (.cells (aW (List.replicate 8 0)).toArray 195))):=(((az.refl _ _).alloc _).alloc _).alloc _;have o7:=au af;have rb:=au ar;clear af ar;have V:(l.take 5).length=5:=by simp[hl]
 obtain⟨t,hT⟩:∃t,t=oh n:=⟨_,rfl⟩;obtain⟨s,aa⟩:∃s,s=n.S:=⟨_,rfl⟩;have LR:Hid (tN n=mY t s (l.take 5) 0):=by
  show _=_;rw[tN,mY,kN,V,hT,aa];rfl
 have ma:Hid (il n l h=t::s::(l.take 5++[h])):=by
  show _=_;rw[il,hT,aa]
 have N4:Hid (∀i,i<5->(0<=(l.take 5).getD i 0/\(l.take 5).getD i 0<9223372036854775808)/\l.getD i 0=(l.take 5).getD i 0):=λi hi=>by
  have e:(l.take 5).getD i 0=l.getD i 0:=by simp[hi]
  rw[e];exact⟨hn i,rfl⟩
 have QY:Hid (∀i,i<13->(zs l).toArray[i]? =some (.int .i64 (l.getD i 0))):=λi hi=>by rw[aF,fR (by omega)]
 have aI:=mD h0.1 h0.2;clear hn hB ht hT aa;rw[ma.out];generalize aR n v=Z at *;generalize (zs l).toArray=ZL at *;go_enter func193,ntmps193;go_wp2_with(with_reducible refine gL 111 vY.out ?_);refine(HH.out _).mono ?_;rintro e w1 ⟨rfl,J⟩;rw[LR.out];obtain⟨w2,ah,KQ,aC⟩:=bB (P:= prog) (ty:= 195) (cs:=aW (mY t s (l.take 5) 0)) (by rw[bp,uY V (by omega)];exact ja) (bh.new w1 (aW (List.replicate 8 0)).toArray 195) (by simp[bp,uY V]) (fh _);have aJ:w.heap.size+1+1<w1.heap.size:=bL rb.out.lt J.size;have iM:az [] (((w.alloc (.cells Z 111)).alloc (.cells ZL 109)).alloc (.cells (aW (List.replicate 8 0)).toArray 195)) w2:=(J.alloc (.cells (aW (List.replicate 8 0)).toArray 195)).trans aC (by intro x hx;rw[ay] at hx;have :=J.size;omega);have av:=au (o7.out.keep iM (by simp));have ak:=au (rb.out.keep iM (by simp));have nD:=au (fW.out.trans' iM);have aD:=au ah;have OS:=au KQ;clear ah KQ aC iM J vY HH o7 rb fW;generalize hg:w1.heap.size=g at *;go_wp2_with(with_reducible refine gS 195 aD.out ?_);go_loopg [11] 5 (λgh KR wx=>∃i:Nat,i+gh=5/\KR= .int .i64 (i:Int)/\Hid (bh wx g (aW (mY t s (l.take 5) i)).toArray 195/\bh wx (w.heap.size+1+1) (aW (List.replicate 8 0)).toArray 195/\bh wx (w.heap.size+1) ZL 109/\az [] w wx))
 case atStart=>exact⟨0,by omega,rfl,OS.out,ak.out,av.out,nD.out⟩
 case round=>
  clear aH OS ak av nD;obtain⟨i,hi,rfl,HP⟩:=hrel;obtain⟨z,U,G,fK⟩:=HP.out;cases gk with
  |zero=>
   obtain rfl:i=5:=by omega
   have W:wr.cell? ⟨g,7,none⟩=some (.int .u64 ((mY t s (l.take 5) 5).getD 7 0)):=by
    rw[z.cell,aF,dA (by rw[uY V (by omega)];omega)]
   have aG:wr.frozen? ⟨g,7,none⟩=false:=z.frozen 7;have ac:=z.set 7 (.int .u64 h);rw[ag,lT,LQ V] at ac;have EY:(t::s::(l.take 5++[h])).length=8:=by simp[V]
   have HL:=au (eY ac EY);obtain⟨w4,hS,ax,aA⟩:=bB (P:= prog) (ty:= 195) (cs:=aW (t::s::(l.take 5++[h]))) (by rw[bp,EY];exact ja) (U.other (a:=⟨g,7,none⟩) (by show w.heap.size+1+1≠g;omega) (.int .u64 h)) (by simp[bp,EY]) (fh _);have HS:=au hS;have qN:=au (eY ax EY);have iZ:=au ((fK.setCell (p:=⟨g,7,none⟩) (.inr (by show w.heap.size<=g;omega)) (.int .u64 h)).trans aA (by intro x hx;rw[ay] at hx;omega));clear hS ax aA HP hi ac z U G fK;generalize (mY t s (l.take 5) 5).getD 7 0=y at *;go_wp2_with(first|(with_reducible refine gL 195 HL.out ?_)|(with_reducible refine gS 195 HS.out ?_));exact aL (b9 results193 rfl qN.out) rfl ⟨rfl,iZ.out⟩
  |succ gg=>
   have aB:i<5:=by omega
   have aK:(i:Int)<5:=by omega
   have aM:(0:Int)<=(i:Int):=by omega
   obtain⟨ae,ai⟩:=N4.out i aB;have aN:wr.cell? ⟨w.heap.size+1,i,none⟩=some (.int .i64 ((l.take 5).getD i 0)):=by
    rw[G.cell,QY.out i (by omega),ai]
   have hw:=mD ae.1 ae.2;have W:wr.cell? ⟨g,2+i,none⟩=some (.int .u64 ((mY t s (l.take 5) i).getD (2+i) 0)):=by
    rw[z.cell,aF,dA (by rw[uY V (by omega)];omega)]
   have aG:wr.frozen? ⟨g,2+i,none⟩=false:=z.frozen _;have HR:Hid (bh (wr.setCell ⟨g,2+i,none⟩ (.int .u64 ((l.take 5).getD i 0))) g (aW (mY t s (l.take 5) (i+1))).toArray 195/\bh (wr.setCell ⟨g,2+i,none⟩ (.int .u64 ((l.take 5).getD i 0))) (w.heap.size+1+1) (aW (List.replicate 8 0)).toArray 195/\bh (wr.setCell ⟨g,2+i,none⟩ (.int .u64 ((l.take 5).getD i 0))) (w.heap.size+1) ZL 109/\az [] w (wr.setCell ⟨g,2+i,none⟩ (.int .u64 ((l.take 5).getD i 0)))):=by
    refine⟨?_,U.other (by show w.heap.size+1+1≠g;omega) _,G.other (by show w.heap.size+1≠g;omega) _,fK.setCell (.inr (by show w.heap.size<=g;omega)) _⟩;have :=z.set (2+i) (.int .u64 ((l.take 5).getD i 0));rw[ag,lT,LP V aB] at this;exact this
   clear HP z U G fK ai;generalize (l.take 5).getD i 0=x at *;generalize (mY t s (l.take 5) i).getD (2+i) 0=y at *;go_wp2_with fail;go_roundg gg;case measure=>omega
   case rel=>exact⟨i+1,by omega,by go_num,HR.out⟩
def eK (E:List (ByteArray×Int)):List Int:=E.flatMap λp=>[((kv (bl p.1):Nat):Int),p.2]
theorem kx (E:List (ByteArray×Int)):(eK E).length=E.length*2:=by
 induction E with
 |nil=>rfl
 |cons p E ih=>simp[eK] at ih ⊢;omega
theorem GW (E F:List (ByteArray×Int)):eK (E++F)=eK E++eK F:=by simp[eK]
theorem uZ (E:List (ByteArray×Int)):∀k,k<E.length->(eK E).getD (k*2) 0=((kv (bl (eU E k)):Nat):Int)/\(eK E).getD (k*2+1) 0=jl E k:=by
 induction E with
 |nil=>intro k h;simp at h
 |cons p E ih=>
  intro k h;have z:eK (p::E)=((kv (bl p.1):Nat):Int)::p.2::eK E:=rfl;cases k with
  |zero=>rw[z];exact⟨rfl,rfl⟩
  |succ k=>
   have :=ih k (by simpa using h);rw[z,show(k+1)*2=k*2+1+1 by omega,Lz,LA];exact this
theorem EZ (E:List (ByteArray×Int))(n:Nat)(h:n<E.length):E.take (n+1)=E.take n++[(eU E n,jl E n)]:=by
 rw[bJ h];have :E.getD n (ByteArray.empty,0)=E[n]:=by simp[h]
 rw[eU,jl,this]
theorem BN (E:List (ByteArray×Int))(j:Nat)(h:j<E.length):eK (E.take (j+1))=eK (E.take j)++[((kv (bl (eU E j)):Nat):Int),jl E j]:=by
 rw[EZ E j h,GW];rfl
structure vZ (E:List (ByteArray×Int)):Prop where
 len:E.length<=10000
 size:∀k,k<E.length->(eU E k).size<=9223372036854775807
 ino:∀k,k<E.length->0<=jl E k/\jl E k<9223372036854775808
theorem yL (hE:bC w v g E)(ho:vZ E):
  Calls prog 212 #[v] w (jw w (eK E)):=by
 obtain⟨a,cap,rfl,ay,af,yu⟩:=hE.open;unfold maxLen at af;obtain⟨i0,hi,ah,ar,av⟩:=cP Tryz.info_u64;have ax:=ho.len;have ae:=Ac (2*E.length) (by omega) (2*(E.length:Int)) (by omega) 0 (.inl rfl) w;rw[show((0:Nat):Int)=0 from rfl] at ae;have Wm:Hid ((w.alloc (.cells (madeCells #[.int .u64 0] (2*E.length)) 56)).ownsRow w.heap.size 56 1 (.slice (some ⟨w.heap.size,0,none⟩) 0 (2*E.length)) 0 (aW (eK (E.take 0)))):=
  ⟨rfl,.inr ⟨w.heap.size,2*E.length,madeCells #[.int .u64 0] (2*E.length),rfl,aI _,bh.new _ _ _,by omega,by unfold maxLen;omega,by simp[madeCells],by simp[eK,aW]⟩⟩
 have fW:Hid (az [] w (w.alloc (.cells (madeCells #[.int .u64 0] (2*E.length)) 56))):=(az.refl _ _).alloc _;have HW:Hid (∀j,j<E.length->∀W,Calls prog 221 #[.string (eU E j)] W λe w'=>e= .returned (.tuple #[.int .u64 (kv (bl (eU E j)):Nat),.bool (iC (bl (eU E j)))])/\az [] W w'):=λj V W=>
  JL _ (ho.size _ V) W
 have D3:Hid (∀j,j<E.length->0<=jl E j/\jl E j<9223372036854775808):=λj V=>ho.ino _ V
 have aj:Hid (∀j,j<E.length->aW (eK (E.take (j+1)))=aW (eK (E.take j))++[.int .u64 ((kv (bl (eU E j)):Nat):Int),.int .u64 (jl E j)]):=λj V=>by
  rw[BN E j V,nP];rfl
 have DA:Hid (E.take E.length=E):=gA;have Zi:Hid ((eK E).length=E.length*2):=kx E;clear hE ho;generalize hn:E.length=n at *;clear hn;generalize (madeCells #[.int .u64 0] (2*n))=MC at *;go_enter func212,ntmps212;go_wp2_with fail;clear ae;go_loopg [3,14] n (λgh s3 s14 W=>∃j:Nat,j+gh=n/\s14= .int .i64 (j:Int)/\Hid (W.ownsRow w.heap.size 56 1 s3 (2*j) (aW (eK (E.take j)))/\az [] w W))
 case atStart=>exact⟨0,by omega,rfl,Wm.out,fW.out⟩
 case round=>
  clear Wm fW;obtain⟨j,V,rfl,HP⟩:=hrel;cases gk with
  |zero=>
   obtain rfl:j=n:=by omega
   have HM:Hid (jw w (eK E) (.returned u3) wr):=by
    obtain⟨U,hk⟩:=HP.out;rw[DA.out] at U;obtain⟨gg,aa,hg⟩:=fp.of_row U;by_cases h0:2*j=0
    ·exact⟨u3,w.heap.size,rfl,aa.reads.anyG (by
      have :(eK E).length=0:=by rw[Zi.out];omega
      rw[bg this];rfl) _,aI _,hk⟩
    ·exact⟨u3,gg,rfl,aa.reads,(hg h0).1,hk⟩
   clear HP V;go_wp2_with fail;go_ret;exact HM.out
  |succ gk=>
   have G:j<n:=by omega
   have aC:(j:Int)<(n:Int):=by omega
   have BI:(0:Int)<=(j:Int):=by omega
   obtain⟨ac,off,rfl,e0,e1⟩:=yu.out j G;have ag:=au HP.out.1;have iZ:=au HP.out.2;have fK:=HP.out.2;have c0:=(aO (w:=w) (a:=⟨g,off+j*2,none⟩) (fK.block g ac (by simp))).trans e0;have c1:=(aO (w:=w) (a:=⟨g,off+j*2+1,none⟩) (fK.block g ac (by simp))).trans e1;have ai:=au (HW.out j G);obtain⟨n0,n1⟩:=D3.out j G;have hw:=mD n0 n1;have N6:=au (aj.out j G);have aD:=fK.size;clear e0 e1 HP fK;generalize eU E j=nm at *;generalize jl E j=ino at *;obtain⟨a3,ak,rfl,q1,q2⟩:=iV ag.out;generalize hT:aW (eK (E.take j))=T at *;have HT:=au hT;clear hT;go_wp2_with fail;refine(ai.out _).mono ?_;rintro e w1 ⟨rfl,J⟩;have LS:=(bh.new wr #[.string nm,.int .i64 ino] 87).keep J (by simp);have Dv:=au (dB (dB ag.out ((az.refl [] wr).alloc (.cells #[.string nm,.int .i64 ino] 87)) (by simp)) J (by simp));have d1:w1.cell? ⟨wr.heap.size,1,none⟩=some (.int .i64 ino):=by rw[LS.cell];rfl
   have iU:=au ((iZ.out.alloc (.cells #[.string nm,.int .i64 ino] 87)).trans' J);have aB:w.heap.size<=w1.heap.size:=iU.out.size;clear J LS;generalize kv (bl nm)=wv at *;have aA:2*j<=20000:=by omega
   go_wp2_with(at_builtin;refine dO _ rfl _ _ 71 rfl w.heap.size 56 i0 (.int .u64 0) 1 8 underlying71 hi ah ar av rfl (by decide) (.slice a3 (2*j) ak) (2*j) _ rfl (Dv.out.alloc _) ⟨w1.heap.size,0,none⟩ 2 2 [.int .u64 (wv:Int),.int .u64 ino] rfl rfl ?c1 ?c2 (by unfold maxLen;omega) (by omega) (by simp;omega) ?_);case c1=>exact jP _ [_,_] _ _ rfl
   case c2=>simp[Value.oneCell']
   intro v' w2 h z _;have N7:=au h;have fL:=au ((iU.out.alloc _).grown z (cZ Dv.out));clear h z;go_wp2_with fail;go_roundg gk;case measure=>omega
   case rel=>
    refine⟨j+1,by omega,by go_num,?_,fL.out⟩;have :=N7.out;rw[show 2*(j+1)=2*j+2 by omega,N6.out];exact this
structure aat (W:Nat) (w1 w2:World):Prop where
 st:(storeVar 203 ⟨w1.heap.size,0,none⟩ (.agg (od (kS W)).toArray)).run prog (w1.alloc (.cells (od (List.replicate 8 0)).toArray 203))= .ok () w2
 c7:w2.cell? ⟨w1.heap.size,7,none⟩=some (.int .u8 (qR W 7:Nat))
 conv:qR W 7<=7->(convert 31 9 (.slice (some ⟨w1.heap.size,0,none⟩) (qR W 7) 8)).run prog w2= .ok (.string (wu ((kS W).take (qR W 7)))) w2
 keeps:az [] w1 w2
theorem aau (W:Nat)(h:World):∃z,aat W h z:=by
 obtain⟨z,hs,U,hk⟩:=xd (l:=List.replicate 8 0) (by simp) (lj W) (bh.new h (od (List.replicate 8 0)).toArray 203);have hc:∀j,j<8->z.cell? ⟨h.heap.size,j,none⟩=some (.int .u8 (qR W j:Nat)):=λj J=>by
  rw[U.cell,<-tB W j J];simpa using Al (l:=kS W) (j:=j) (by rw[lj];omega)
 refine⟨z,hs,hc 7 (by omega),λh7=> ?_,((az.refl [] h).alloc _).trans hk (by simp)⟩;have V:(((kS W).take (qR W 7)).map UInt8.ofNat).length=qR W 7:=by simp[lj];omega
 have :=run_convert_bytes_back (P:= prog) z 31 9 5 ⟨h.heap.size,0,none⟩ 8 (((kS W).take (qR W 7)).map UInt8.ofNat) underlying31 underlying5 underlying9 λj J=>by
  rw[V] at J;have G:(⟨h.heap.size,0,none⟩:Addr).add j=⟨h.heap.size,j,none⟩:=by unfold Addr.add;split<;>simp_all
  rw[G,hc j (by omega)];have U:=Br W j;simp[kS,Nat.mod_eq_of_lt U]
 rw[V] at this;exact this
theorem LU (b n:Nat)(z:n<=7)(w:World):(Instr.sliceAt 203 (.pointer (some ⟨b,0,none⟩)) none (some (.int .i64 (n:Int))) none).run prog w= .ok (.slice (some ⟨b,0,none⟩) n 8) w:=by
 have h:n=0\/n=1\/n=2\/n=3\/n=4\/n=5\/n=6\/n=7:=by omega
 rcases h with rfl|rfl|rfl|rfl|rfl|rfl|rfl|rfl<;>(show Sem.run _ _ _=_;kernel_rfl)
theorem aav (W:Nat)(w:World):
  Calls prog 220 #[.int .u64 (W:Int)] w λe w'=>e= .returned (.tuple #[.string (wu ((kf W).getD [])),.bool (kf W).isSome])/\az [] w w':=by
 have HB:=au (Am W w);have ag:=Br W 7;go_enter func220,ntmps220;go_wp2_with fail;refine HB.out.mono ?_;rintro e w1 ⟨rfl,ac⟩;obtain⟨w2,hm⟩:=aau W w1;have c7:=hm.c7;have HM:=au hm;have HK:=au (ac.trans hm.keeps (by simp));clear hm ac HB;by_cases h7:qR W 7<=7
 ·have ae:=HM.out.conv h7
  have aa:∀c∈(kS W).take (qR W 7),c<256:=QG (QF W) _;have G:=JL (wu ((kS W).take (qR W 7))) (by rw[Iv];simp[lj];omega) w2;rw[QT aa] at G;unfold kv at G;have J:Hid (kf W=if iC ((kS W).take (qR W 7))=true/\qK ((kS W).take (qR W 7))=W then some ((kS W).take (qR W 7)) else none):=by
   show kf W=_;unfold kf;simp only[h7,true_and]
  generalize (kS W).take (qR W 7)=l at *;clear aa;generalize qR W 7=n at *;have G:=au G;have af:=λwz=>LU w1.heap.size n h7 wz
  have ah:decide (7<(n:Int))=false:=by simp;omega
  cases hg:iC l
  ·rw[hg,aB (by simp)] at G
   rw[hg,aB (by simp)] at J;clear hg;go_wp2_with(first|(with_reducible refine gS 203 HM.out.st ?_)|(go_at_call 221;refine G.out.mono ?_;rintro e w3 ⟨rfl,z⟩;have U:=au z;clear z));go_ret2;exact⟨by rw[J.out];rfl,HK.out.trans U.out (by simp)⟩
  ·rw[hg,aC rfl] at G
   rw[hg] at J;clear hg;by_cases V:qK l=W
   ·rw[aC ⟨rfl,V⟩] at J
    rw[V] at G;clear V;go_wp2_with(first|(with_reducible refine gS 203 HM.out.st ?_)|(go_at_call 221;refine G.out.mono ?_;rintro e w3 ⟨rfl,z⟩;have U:=au z;clear z));go_ret2;exact⟨by rw[J.out];rfl,HK.out.trans U.out (by simp)⟩
   ·rw[aB (λh=>V h.2)] at J
    have e1:((qK l:Int) != (W:Int))=true:=by simp;omega
    clear V;go_wp2_with(first|(with_reducible refine gS 203 HM.out.st ?_)|(go_at_call 221;refine G.out.mono ?_;rintro e w3 ⟨rfl,z⟩;have U:=au z;clear z));go_ret2;exact⟨by rw[J.out];rfl,HK.out.trans U.out (by simp)⟩
 ·have J:Hid (kf W=none):=by
   show kf W=none;unfold kf;rw[aB (λh=>h7 h.1)]
  generalize qR W 7=n at *;go_wp2_with(first|(with_reducible refine gS 203 HM.out.st ?_));go_ret2;exact⟨by rw[J.out];rfl,HK.out⟩
def kY (L:List Int) (n:Nat):List (ByteArray×Int):=(List.range n).map λk=>(wu ((kf (L.getD (k*2) 0).toNat).getD []),L.getD (k*2+1) 0)
def pY (L:List Int) (n:Nat):Prop:=∀k,k<n->(kf (L.getD (k*2) 0).toNat).isSome=true/\L.getD (k*2+1) 0<32
theorem jm (L:List Int)(n:Nat):(kY L n).length=n:=by simp[kY]
theorem BO (L:List Int)(n e:Nat)(h:e<n):eU (kY L n) e=wu ((kf (L.getD (e*2) 0).toNat).getD [])/\jl (kY L n) e=L.getD (e*2+1) 0:=by
 have :(kY L n).getD e (ByteArray.empty,0)=(wu ((kf (L.getD (e*2) 0).toNat).getD []),L.getD (e*2+1) 0):=by
  rw[kY,aj,bF,cA h];rfl
 rw[eU,jl,this];exact⟨rfl,rfl⟩
theorem yM (L:List Int)(n e:Nat)(h:e<n):(kY L n)[e]'(by rw[jm];exact h)=(wu ((kf (L.getD (e*2) 0).toNat).getD []),L.getD (e*2+1) 0):=by simp[kY]
theorem Tryz.info_entry:(prog.info? 87).map (λi=>(i.zero,i.size,i.bytes))=some (some (.agg #[.string ⟨#[]⟩,.int .i64 0]),2,24):=by kernel_rfl
theorem SF (n:Nat)(W:n<=100000)(m:Int)(U:m=(n:Int))(w:World):(Instr.makeSlice 32 (.int .i64 m) (.int .i64 m)).run prog w=
  .ok (.slice (some ⟨w.heap.size,0,none⟩) n n) (w.alloc (.cells (madeCells #[.string ⟨#[]⟩,.int .i64 0] (n*2)) 87)):=by
 subst U;obtain⟨V,J,h,z,G⟩:=cP Tryz.info_entry;have :=run_make (P:= prog) w 32 87 V _ underlying32 J h .i64 .i64 (n:Int) (n:Int) (by omega) (by omega) (by rw[G];omega) (by omega);rw[z,aH] at this;exact this
theorem C0 (n:Nat):(madeCells #[Value.string ⟨#[]⟩,Value.int .i64 0] (n*2)).toList=eH (List.replicate n (ByteArray.empty,0)):=by
 apply ck;intro j;simp only[madeCells,Array.toList_map,Array.toList_range,bF];by_cases G:j<n*2
 ·rw[cA G]
  have z:=py (List.replicate n (ByteArray.empty,(0:Int))) (j/2) (by simp;omega);have J:eU (List.replicate n (ByteArray.empty,(0:Int))) (j/2)=ByteArray.empty:=by
   simp[eU,bo];split<;>rfl
  have U:jl (List.replicate n (ByteArray.empty,(0:Int))) (j/2)=0:=by
   simp[jl,bo];split<;>rfl
  rw[J,U] at z;rcases (show j%2=0\/j%2=1 by omega) with h|h
  ·rw[show j/2*2=j by omega] at z
   rw[z.1];simp[h];rfl
  ·rw[show j/2*2+1=j by omega] at z
   rw[z.2];simp[h]
 ·rw[aT (by simpa using G),aT (by rw[jV,bG];omega)];rfl
theorem SG (w:World)(n:Nat)(z:n<=100000):fp (w.alloc (.cells (madeCells #[.string ⟨#[]⟩,.int .i64 0] (n*2)) 87)) (.slice (some ⟨w.heap.size,0,none⟩) n n) w.heap.size 87 2 n (eH (List.replicate n (ByteArray.empty,0))):=by
 have h:(madeCells #[Value.string ⟨#[]⟩,Value.int .i64 0] (n*2)).size=n*2:=by rw[<-dm,C0,jV,bG]
 refine⟨by rw[jV,bG],_,n,rfl,aI _,by unfold maxLen;omega,λ_=>⟨rfl,_,bh.new _ _ _,h,?_⟩⟩;rw[C0,aV (by rw[jV,bG];omega)]
theorem OT (l:List (ByteArray×Int))(a:ByteArray)(x:Int):∀k,((eH l).set (k*2) (.string a)).set (k*2+1) (.int .i64 x)=eH (l.set k (a,x)):=by
 induction l with
 |nil=>intro k;rfl
 |cons p l ih=>
  intro k;have h:∀(p:ByteArray×Int) l,eH (p::l)= .string p.1:: .int .i64 p.2::eH l:=λ_ _=>rfl
  cases k with
  |zero=>rfl
  |succ k=>rw[h,ai,h,<-ih k,show(k+1)*2=k*2+1+1 by omega];rfl
theorem fp.ent{l:List (ByteArray×Int)}(h:fp w v g T 2 n (eH l))(k:Nat)(a:ByteArray)(x:Int):
  fp ((w.setCell ⟨g,k*2,none⟩ (.string a)).setCell ⟨g,k*2+1,none⟩ (.int .i64 x)) v g T 2 n (eH (l.set k (a,x))):=by
 have :=(h.set (k*2) (.string a)).set (k*2+1) (.int .i64 x);rw[OT] at this;exact this
def nU (w:World) (L:List Int) (n:Nat) (e:Ending) (w':World):Prop:=
 (∃g,e= .returned (.tuple #[.slice (some ⟨g,0,none⟩) n n,.bool true])/\fp w' (.slice (some ⟨g,0,none⟩) n n) g 87 2 n (eH (kY L n))/\w.heap.size<=g/\pY L n/\az [] w w')\/
 (e= .returned (.tuple #[.slice none 0 0,.bool false])/\¬pY L n/\az [] w w')
theorem wh{L:List Int}(h:Reads w v g (aW L))(hL:L.length<=1000)(n:Nat)(hn:n=L.length/2)(ag:∀k,0<=L.getD k 0/\L.getD k 0<18446744073709551616):
  Calls prog 210 #[v] w (nU w L n):=by
 obtain⟨a,cap,rfl,h1,h2,HC⟩:=iB h;have H:=au h;have hq:((L.length:Int)).tdiv 2=(n:Int):=by rw[hn,Int.ofNat_tdiv];rfl
 have ar:=SF n (by omega) (n:Int) rfl w;have af:Hid (fp (w.alloc (.cells (madeCells #[.string ⟨#[]⟩,.int .i64 0] (n*2)) 87)) (.slice (some ⟨w.heap.size,0,none⟩) n n) w.heap.size 87 2 n (eH (dW (ByteArray.empty,0) (kY L n) 0))):=by
  have :=SG w n (by omega);rw[kN,jm];exact this
 have fW:Hid (az [] w (w.alloc (.cells (madeCells #[.string ⟨#[]⟩,.int .i64 0] (n*2)) 87))):=(az.refl _ _).alloc _;have qN:Hid (2*n<=L.length):=by show _<=_;omega
 have ay:n<=500:=by omega
 have tu:=au ag;generalize hm:L.length=m at *;clear h ag hn hL hm;generalize madeCells #[Value.string ⟨#[]⟩,Value.int .i64 0] (n*2)=MC at *;go_enter func210,ntmps210;go_wp2_with fail;clear ar;go_loopg [15] n (λgh s15 wx=>∃k:Nat,k+gh=n/\s15= .int .i64 (k:Int)/\Hid (fp wx (.slice (some ⟨w.heap.size,0,none⟩) n n) w.heap.size 87 2 n (eH (dW (ByteArray.empty,0) (kY L n) k))/\(∀j,j<k->(kf (L.getD (j*2) 0).toNat).isSome=true/\L.getD (j*2+1) 0<32)/\az [] w wx))
 case atStart=>exact⟨0,by omega,rfl,af.out,λj hj=>by omega,fW.out⟩
 case round=>
  clear af fW;obtain⟨k,hk,rfl,HP⟩:=hrel;cases gk with
  |zero=>
   obtain rfl:k=n:=by omega
   have HM:Hid (nU w L k (.returned (.tuple #[.slice (some ⟨w.heap.size,0,none⟩) k k,.bool true])) wr):=by
    obtain⟨ho,hj,fK⟩:=HP.out;have e:=lL (ByteArray.empty,(0:Int)) (kY L k);rw[jm] at e;rw[e] at ho;exact .inl ⟨_,rfl,ho,aI _,hj,fK⟩
   clear HP hk;go_wp2_with fail;go_ret2;exact HM.out
  |succ gk=>
   have J:k<n:=by omega
   have aB:(k:Int)<(n:Int):=by omega
   have dt:(0:Int)<=(k:Int):=by omega
   obtain⟨ho,U,fK⟩:=HP.out;have tG:=au U;have iZ:=au fK;have av:=au ho;obtain⟨ae,off,rfl,c0⟩:=HC.out (2*k) (by have :=qN.out;omega);obtain⟨-,ax,ak,c1⟩:=HC.out (2*k+1) (by have :=qN.out;omega);cases ak;have d0:=(aO (w:=w) (a:=⟨g,off+2*k,none⟩) (fK.block g ae (by simp))).trans c0;have Vy:Hid (∀wx,az [] wr wx->wx.cell? ⟨g,off+(2*k+1),none⟩=some (.int .u64 (L.getD (k*2+1) 0))):=λwx aj=>by
    have :=(aO (w:=w) (a:=⟨g,off+(2*k+1),none⟩) ((fK.trans' aj).block g ae (by simp))).trans c1;rw[this,Nat.mul_comm 2 k]
   have hW:=tu.out (2*k);have hI:=tu.out (k*2+1);obtain⟨W,ac⟩:∃W:Nat,L.getD (2*k) 0=(W:Int):=⟨(L.getD (2*k) 0).toNat,by omega⟩;rw[ac] at d0;have HW:Hid ((L.getD (k*2) 0).toNat=W):=by show _=_;rw[Nat.mul_comm k 2,ac];omega
   have aa:=au (aav W wr);have Iz:2*(k:Int)+1<(m:Int):=by have :=qN.out;omega
   have aj:2*(k:Int)<(m:Int):=by have :=qN.out;omega
   have Au:=au (yM L n k J);rw[HW.out] at Au;have aD:=hI.2;have aA:=hI.1;clear c0 c1 hW hI HP ho U fK ac;generalize ai:L.getD (k*2+1) 0=ino at *;have SH:=au ai;clear ai;generalize ah:(kf W).isSome=GY at *;have Wn:=au ah;clear ah;generalize wu ((kf W).getD [])=nm at *;have jC:Hid (¬(GY=true/\ino<32)->¬pY L n):=λh hh=>by
    have :=hh k J;rw[HW.out,Wn.out,SH.out] at this;exact h this
   cases GY
   ·have HN:Hid (¬pY L n):=jC.out (by simp)
    go_wp2_with fail;refine aa.out.mono ?_;rintro e w6 ⟨rfl,z⟩;have d1:=Vy.out w6 z;have qB:=au (iZ.out.trans' z);clear z;go_wp2_with fail;go_ret2;exact .inr ⟨rfl,HN.out,qB.out⟩
   ·by_cases jK:32<=ino
    ·have HN:Hid (¬pY L n):=jC.out λh=>by have :=h.2;omega
     go_wp2_with fail;refine aa.out.mono ?_;rintro e w6 ⟨rfl,z⟩;have d1:=Vy.out w6 z;have qB:=au (iZ.out.trans' z);clear z;go_wp2_with fail;go_ret2;exact .inr ⟨rfl,HN.out,qB.out⟩
    ·have aC:wrap64 ino=ino:=by unfold wrap64;omega
     have G:(dW (ByteArray.empty,(0:Int)) (kY L n) k).length=n:=by rw[kT _ _ _ (by rw[jm];omega),jm]
     go_wp2_with fail;refine aa.out.mono ?_;rintro e w6 ⟨rfl,z⟩;have d1:=Vy.out w6 z;have o8:=au (iZ.out.trans' z);have V:=av.out.keepIf z (λ_=>by simp);obtain⟨-,-,hc,hf⟩:=V.cell (by omega);have e0:=(hc (k*2) (by omega)).trans (py (dW (ByteArray.empty,0) (kY L n) k) k (by rw[G];exact J)).1;have e1:=(hc (k*2+1) (by omega)).trans (py (dW (ByteArray.empty,0) (kY L n) k) k (by rw[G];exact J)).2;have f0:=hf (k*2);have f1:=hf (k*2+1);have HE:=au (kO (ByteArray.empty,(0:Int)) (kY L n) k (by rw[jm];exact J) (nm,ino) Au.out);have HP:=au (V.ent k nm ino);have E0:Hid (∀j,j<k+1->(kf (L.getD (j*2) 0).toNat).isSome=true/\L.getD (j*2+1) 0<32):=λj hj=>by
      by_cases e:j=k
      ·subst e
       rw[HW.out,Wn.out,SH.out];exact⟨rfl,by omega⟩
      ·exact tG.out j (by omega)
     clear z V hc hf G jC;generalize eU (dW (ByteArray.empty,(0:Int)) (kY L n) k) k=o1 at *;generalize jl (dW (ByteArray.empty,(0:Int)) (kY L n) k) k=o2 at *;go_wp2_with fail;go_roundg gk;case measure=>omega
     case rel=>
      refine⟨k+1,by omega,by go_num,?_,E0.out,(o8.out.setCell (.inr (aI _)) _).setCell (.inr (aI _)) _⟩;rw[<-HE.out];exact HP.out
def OU (l:List Nat):List Value:=l.map λn:Nat=>Value.int .u64 (n:Int)
theorem LV (l:List Nat):(OU l).length=l.length:=by simp[OU]
theorem Wo{l:List Nat}(h:j<l.length):(OU l)[j]? =some (.int .u64 (l.getD j 0:Nat)):=by simp[OU,h]
theorem wi{β:Type}(f:β->Nat->β)(l:List Nat)(h:β)(k:Nat)(z:k<l.length):(l.take (k+1)).foldl f h=f ((l.take k).foldl f h) (l.getD k 0):=by
 rw[bJ z,List.foldl_append];simp[z]
theorem aaw{c:Nat}(z:h<4294967296)(G:c<256):bits .xor .u32 (h:Int) (c:Int)*16777619%4294967296=((fnv h c:Nat):Int):=by
 rw[u32_xor_nat h c z (by omega),fnv];rfl
theorem Wp{gb:Nat}{xs:List Nat}(h:Reads w v gb (OU xs)):
  Calls prog 124 #[v] w λe w'=>e= .returned (.int .u32 (K6 xs:Nat))/\az [] w w':=by
 obtain⟨a,cap,rfl,h1,h2,h3⟩:=h;rw[LV] at *;unfold maxLen at h2;have H3:Hid (∀k,k<xs.length->gb<w.heap.size/\∃off,a=some ⟨gb,off,none⟩/\w.cell? ⟨gb,off+k,none⟩=some (.int .u64 (xs.getD k 0:Nat))):=λk hk=>by
  obtain⟨hg,off,ho,J⟩:=h3 (by intro e;have :=cB List.length e;rw[LV,b8] at this;omega);exact⟨hg,off,ho,(J k hk).trans (Wo hk)⟩
 clear h3;go_enter func124,ntmps124;go_wp2_with fail;go_loopg [3,10] xs.length (λg s3 Sq W=>∃k:Nat,k+g=xs.length/\Sq= .int .i64 (k:Int)/\s3= .int .u32 (((xs.take k).foldl R6 2166136261:Nat):Int)/\Hid (az [] w W))
 case atStart=>exact⟨0,by omega,rfl,rfl,az.refl _ _⟩
 case round=>
  obtain⟨k,hk,rfl,rfl,V⟩:=hrel;cases gk with
  |zero=>
   obtain rfl:k=xs.length:=by omega
   have ac:¬(xs.length:Int)<(xs.length:Int):=by omega
   rw[aV (aI _)];go_wp2_with fail;go_ret;exact⟨rfl,V.out⟩
  |succ g=>
   have ac:(k:Int)<(xs.length:Int):=by omega
   obtain⟨hg,off,rfl,J⟩:=H3.out k (by omega);have aa:wr.cell? ⟨gb,off+k,none⟩=some (.int .u64 (xs.getD k 0:Nat)):=by
    rw[aO (w:=w) (V.out.block gb hg (by simp))];exact J
   have hh:=yH (xs.take k) 2166136261 (by decide);have HT:=au (wi R6 xs 2166136261 k (by omega));generalize (xs.take k).foldl R6 2166136261=h at *;generalize xs.getD k 0=x at *;have HB:=au (Am x wr);clear J;go_wp2_with(go_at_call 148;refine HB.out.mono ?_;rintro e w2 ⟨rfl,G⟩;have fL:=au (V.out.trans G (by simp));clear G);obtain⟨wo,rfl⟩:∃wo:World,wo=wr:=⟨_,rfl⟩;clear aa;go_loopg [3,16] 8 (λg2 s3 s16 W=>∃z:Nat,z+g2=8/\s16= .int .i64 (z:Int)/\s3= .int .u32 ((((kS x).take z).foldl fnv h:Nat):Int)/\W=w2)
   case atStart=>exact⟨0,by omega,rfl,rfl,rfl⟩
   case round=>
    obtain⟨z,G,rfl,rfl,rfl⟩:=hrel;cases gk with
    |zero=>
     obtain rfl:z=8:=by omega
     rw[aV (by rw[lj];omega)];go_wp2_with fail;go_roundg g;case measure=>omega
     case rel=>exact⟨k+1,by omega,by go_num,by rw[HT.out];rfl,fL.out⟩
    |succ g2=>
     have OV:(z:Int)<8:=by omega
     have Bx:=CW (kS x) (lj x) z (by omega);have af:=au (wi fnv (kS x) h z (by rw[lj];omega));have ae:=zY ((kS x).take z) h hh;have U:(kS x).getD z 0<256:=by rw[tB x z (by omega)];exact Br _ _
     generalize ((kS x).take z).foldl fnv h=h' at *;generalize (kS x).getD z 0=c at *;have HF:=au (aaw ae U);go_wp2_with fail;go_roundg g2;case measure=>omega
     case rel=>
      refine⟨z+1,by omega,by go_num,?_,rfl⟩;rw[af.out,HF.out]
def qV (l:List Nat):Nat:=if iC l=true then K6 [qK l]%4 else 0
theorem SI (s:ByteArray)(hs:s.size<=9223372036854775807)(w:World):Calls prog 230 #[.string s] w λe w'=>e= .returned (.int .i64 (qV (bl s):Nat))/\az [] w w':=by
 have z:=JL s hs w;unfold kv at z;unfold qV;have z:=au z;cases hg:iC (bl s)
 ·rw[hg,aB (by simp)] at z
  rw[aB (by simp)];clear hg;go_enter func230,ntmps230;go_wp2_with(go_at_call 221;refine z.out.mono ?_;rintro e J ⟨rfl,h⟩;have V:=au h;clear h);go_ret;exact⟨rfl,V.out⟩
 ·rw[hg,aC rfl] at z
  rw[aC rfl];clear hg;generalize qK (bl s)=W at *;have hq:=Jw [W];have U:=λ(J:World)=>Wp (w:=J.alloc (.cells #[.int .u64 (W:Int)] 56)) (v:= .slice (some ⟨J.heap.size,0,none⟩) 1 1) (gb:=J.heap.size) (xs:=[W])
   (fp.reads (T:= 56) (n:=1) ⟨rfl,_,1,rfl,aI _,by unfold maxLen;omega,λ_=>⟨rfl,_,bh.new _ _ _,rfl,rfl⟩⟩)
  have U:=au U;generalize K6 [W]=q at *;go_enter func230,ntmps230;go_wp2_with(first|(go_at_call 221;refine z.out.mono ?_;rintro e J ⟨rfl,h⟩;have V:=au h;clear h)|(go_at_call 124;refine(U.out _).mono ?_;rintro e w2 ⟨rfl,G⟩;have fL:=au G;clear G));go_ret;exact⟨rfl,(V.out.alloc _).trans fL.out (by simp)⟩
def JS (p:ByteArray×Int):Nat:=qV (bl p.1)
theorem OW (p:ByteArray×Int):JS p<4:=by
 unfold JS qV;split
 ·exact iw _ (by decide)
 ·decide
def ez (E:List (ByteArray×Int)) (b:Nat):List (ByteArray×Int):=E.filter λp=>JS p==b
theorem SJ (E:List (ByteArray×Int))(p:ByteArray×Int)(b:Nat):ez (E++[p]) b=if b=JS p then ez E b++[p] else ez E b:=by
 unfold ez;rw[ft];by_cases h:b=JS p
 ·subst h;simp
 ·have :(JS p==b)=false:=by simp;omega
  simp[this,h]
theorem j4 (E:List (ByteArray×Int))(b:Nat):(ez E b).length<=E.length:=fQ _ _
structure Four (w:World) (base:Nat) (S:Nat->Value) (F:Nat->List (ByteArray×Int)):Prop where
 row:∀b,b<4->w.ownsRow base 87 2 (S b) (F b).length (eH (F b))
 ne:∀b c,b<4->c<4->b≠c->∀g,(S b).ownBlock=some g->(S c).ownBlock≠some g
def nV (S:Nat->Value):Array Value:= #[S 0,S 1,S 2,S 3]
theorem IA (S:Nat->Value){q:Nat}(h:q<4):(nV S)[q]? =some (S q):=by
 rcases (show q=0\/q=1\/q=2\/q=3 by omega) with rfl|rfl|rfl|rfl<;>rfl
theorem SK (S:Nat->Value){q:Nat}(h:q<4)(v:Value):(nV S).setIfInBounds q v=nV λb=>if b=q then v else S b:=by
 rcases (show q=0\/q=1\/q=2\/q=3 by omega) with rfl|rfl|rfl|rfl<;>rfl
theorem Four.keep(h:Four w z S F){l:List Nat}(J:az l w w')(W:∀x,x∈l->x<z):Four w' z S F:=
 ⟨λb G=>dB (h.row b G) J λg U V=>by have :=cZ (h.row b G) g U;have :=W g V;omega,h.ne⟩
theorem Four.nil(w:World)(h:Nat):Four w h (λ_=> .slice none 0 0) λ_=>[]:=
 ⟨λ_ _=>⟨rfl,.inl ⟨rfl,rfl⟩⟩,λ_ _ _ _ _ g z=>by cases z⟩
theorem zr{sz:Nat}{xs:List Value}(h:w.ownsRow z T sz v n xs):∀k,v.ownBlock=some k->k<w.heap.size:=by
 intro k G;obtain⟨-,U⟩:=h;rcases U with ⟨J,-⟩|⟨g2,cap,V,J,-,W,-⟩
 ·rw[J] at G;cases G
 ·rw[J] at G
  cases G;exact(Array.getElem?_eq_some_iff.1 W).1
theorem Four.grow(h:Four w z S F){q:Nat}(hq:q<4){v:Value}{p:ByteArray×Int}{g:Nat}
  (W:w'.ownsRow z 87 2 v ((F q).length+1) (eH (F q++[p]))) (U:w.grownBy w' (S q).ownBlock) (hv:v.ownBlock=some g) (ac:(S q).ownBlock=some g\/g=w.heap.size):
  Four w' z (λb=>if b=q then v else S b) λb=>if b=q then F b++[p] else F b:=by
 refine⟨λb J=> ?_,λb c J hc af x hx=> ?_⟩
 ·show w'.ownsRow z _ 2 (if b=q then v else S b) (if b=q then F b++[p] else F b).length (eH (if b=q then F b++[p] else F b))
  by_cases e:b=q
  ·subst e
   rw[aC rfl,aC rfl,aD];exact W
  ·rw[aB e,aB e]
   obtain⟨h0,h1⟩:=h.row b J;refine⟨h0,?_⟩;rcases h1 with ⟨e1,V⟩|⟨g2,cap,ae,e1,V,hh,e3⟩
   ·exact .inl ⟨e1,V⟩
   ·refine .inr ⟨g2,cap,ae,e1,V,?_,e3⟩
    rw[<-hh];refine U.block g2 (Array.getElem?_eq_some_iff.1 hh).1 λe4=> ?_
    exact h.ne b q J hq e g2 (by rw[e1];rfl) e4.symm
 ·have aa:∀b,b<4->b≠q->(S b).ownBlock≠some g:=λb J ag hx=>by
   rcases ac with h1|h1
   ·exact h.ne b q J hq ag g hx h1
   ·have :=zr (h.row b J) g hx
    omega
  show(if c=q then v else S c).ownBlock≠some x;have G:(if b=q then v else S b).ownBlock=some x:=hx;by_cases e:b=q
  ·rw[aC e,hv] at G
   cases G;rw[aB (by omega)];exact aa c hc (by omega)
  ·rw[aB e] at G
   by_cases V:c=q
   ·rw[aC V,hv]
    intro h3;cases h3;exact aa b J e G
   ·rw[aB V]
    exact h.ne b c J hc af x G
theorem SL (w:World):(zeroValue 265).run prog w= .ok (.agg (nV λ_=> .slice none 0 0)) w:=by kernel_rfl
theorem IB:(prog.info? 265).map (·.size)=some 4:=by kernel_rfl
theorem IC (h:bh w g (nV S) T):(loadVar 265 ⟨g,0,none⟩).run prog w= .ok (.agg (nV S)) w:=
 bW g 0 [S 0,S 1,S 2,S 3] underlying265 rfl IB λj z=>by
  rw[h.cell,aX];unfold nV;rw[aF]
theorem LW{V wa U:World}{Z4:Array Value}{q m J:Nat}{p:ByteArray×Int}(G:az [] V wa)(af:wa.heap.size=V.heap.size+1)
  (hf:Four V (w.heap.size+2) S (ez (E.take j))) (W:bh V (w.heap.size+1) (nV S) 265) (ac:bh V w.heap.size Z4 265) (fK:az [] w V) (hq:q<4)
  (hm:(ez (E.take j) q).length=m) (aa:U.ownsRow (w.heap.size+2) 87 2 (.slice (some ⟨J,0,none⟩) (m+1) h) (m+1) (eH (ez (E.take j) q)++[.string p.1,.int .i64 p.2]))
  (z:wa.grownBy U (S q).ownBlock) (ae:(S q).ownBlock=some J\/J=V.heap.size+1) (ai:∀b,ez (E.take (j+1)) b=if b=q then ez (E.take j) b++[p] else ez (E.take j) b):
  ∃S',bh (U.setCell ⟨w.heap.size+1,q,none⟩ (.slice (some ⟨J,0,none⟩) (m+1) h)) (w.heap.size+1) (nV S') 265/\bh (U.setCell ⟨w.heap.size+1,q,none⟩ (.slice (some ⟨J,0,none⟩) (m+1) h)) w.heap.size Z4 265/\
   Four (U.setCell ⟨w.heap.size+1,q,none⟩ (.slice (some ⟨J,0,none⟩) (m+1) h)) (w.heap.size+2) S' (ez (E.take (j+1)))/\az [] w (U.setCell ⟨w.heap.size+1,q,none⟩ (.slice (some ⟨J,0,none⟩) (m+1) h)):=by
 have ah:=hf.keep G (by simp);have wX:∀k,(S q).ownBlock=some k->w.heap.size+2<=k:=cZ (hf.row q hq);have E9:=(z.block (w.heap.size+1) (W.keep G (by simp)).lt (λe=>by have :=wX _ e.symm;omega)).trans (W.keep G (by simp));have ag:=(z.block w.heap.size (ac.keep G (by simp)).lt (λe=>by have :=wX _ e.symm;omega)).trans (ac.keep G (by simp));have hF:=ah.grow (p:=p) (v:= .slice (some ⟨J,0,none⟩) (m+1) h) (g:=J) hq (by rw[hm,nr];exact aa) z rfl (by rw[af];exact ae);have hS:(λb=>if b=q then ez (E.take j) b++[p] else ez (E.take j) b)=ez (E.take (j+1)):=by
  funext b
  exact(ai b).symm
 rw[hS] at hF;refine⟨_,?_,bh.other ag (by simp) _,hF.keep ((az.refl [w.heap.size+1] U).setCell (p:=⟨w.heap.size+1,q,none⟩) (.inl (by simp)) _) (by intro x hx;rw[ay] at hx;omega),?_⟩
 ·have :=bh.set E9 q (.slice (some ⟨J,0,none⟩) (m+1) h)
  rw[SK S hq] at this;exact this
 ·exact((fK.trans' G).grown z (λk hk=>by have :=wX k hk;omega)).setCell (.inr (by show w.heap.size<=w.heap.size+1;omega)) _
def vg (w:World) (E:List (ByteArray×Int)) (e:Ending) (w':World):Prop:=
 ∃S:Nat->Value,e= .returned (.agg (nV S))/\az [] w w'/\∀b,b<4->∃g,bC w' (S b) g (ez E b)/\w.heap.size<=g
theorem ID (hE:bC w v g E)(ba:E.length<=10000)(av:∀k,k<E.length->(eU E k).size<=9223372036854775807):
  Calls prog 216 #[v] w (vg w E):=by
 obtain⟨a,cap,rfl,bc,aF,yu⟩:=hE.open;unfold maxLen at aF;obtain⟨i0,hi,aV,aR,aS⟩:=cP Tryz.info_entry;have aH:=SL;obtain⟨G,ah⟩:∃G,G=nV λ_=> .slice none 0 0:=⟨_,rfl⟩
 rw[<-ah] at aH;have aj:=au ah;clear ah;have rb:Hid (bh ((w.alloc (.cells G 265)).alloc (.cells G 265)) (w.heap.size+1) G 265):=by
  have :=bh.new (w.alloc (.cells G 265)) G 265;have e:(w.alloc (.cells G 265)).heap.size=w.heap.size+1:=by simp
  rw[e] at this;exact this
 have o7:Hid (bh ((w.alloc (.cells G 265)).alloc (.cells G 265)) w.heap.size G 265):=(bh.new w _ _).alloc _;have fW:Hid (az [] w ((w.alloc (.cells G 265)).alloc (.cells G 265))):=((az.refl _ _).alloc _).alloc _;have HW:Hid (∀j,j<E.length->∀wx,Calls prog 230 #[.string (eU E j)] wx λe w'=>e= .returned (.int .i64 (qV (bl (eU E j)):Nat))/\az [] wx w'):=λj hj wx=>SI _ (av j hj) wx
 have aN:Hid (∀j,j<E.length->E.take (j+1)=E.take j++[(eU E j,jl E j)]):=λj hj=>EZ E j hj
 have BP:Hid (∀j b,(ez (E.take j) b).length<=E.length):=λj b=>cD (j4 _ _) (by rw[aJ];omega)
 have DA:Hid (E.take E.length=E):=gA;clear hE av;generalize hn:E.length=n at *;clear hn;go_enter func216,ntmps216;go_wp2_with fail;clear aH;go_loopg [9] n (λgh s9 wx=>∃(j:Nat) (S:Nat->Value),j+gh=n/\s9= .int .i64 (j:Int)/\Hid (bh wx (w.heap.size+1) (nV S) 265/\bh wx w.heap.size G 265/\Four wx (w.heap.size+2) S (ez (E.take j))/\az [] w wx))
 case atStart=>
  refine⟨0,λ_=> .slice none 0 0,by omega,rfl,?_,o7.out,?_,fW.out⟩
  ·rw[<-aj.out];exact rb.out
  ·have :ez (E.take 0)=λ_=>[]:=by funext b;rfl
   rw[this];exact Four.nil _ _
 case round=>
  clear o7 rb fW;obtain⟨j,S,hj,rfl,HP⟩:=hrel;cases gk with
  |zero=>
   obtain rfl:j=n:=by omega
   obtain⟨U,V,hf,fK⟩:=HP.out;have HL:=au (IC U);have aU:G.size=4:=by rw[aj.out];rfl
   obtain⟨w2,hS,ak,ag⟩:=bB (P:= prog) (ty:= 265) (cs:=[S 0,S 1,S 2,S 3]) IB V (by rw[aU];rfl) (λu hu=>by
    simp only[aP,aM,bz] at hu;rcases hu with rfl|rfl|rfl|rfl
    ·obtain⟨a,c,h,-⟩:=iV (hf.row 0 (by omega));rw[h];rfl
    ·obtain⟨a,c,h,-⟩:=iV (hf.row 1 (by omega));rw[h];rfl
    ·obtain⟨a,c,h,-⟩:=iV (hf.row 2 (by omega));rw[h];rfl
    ·obtain⟨a,c,h,-⟩:=iV (hf.row 3 (by omega));rw[h];rfl)
   have HS:Hid ((storeVar 265 ⟨w.heap.size,0,none⟩ (.agg (nV S))).run prog wr= .ok () w2):=hS;have qN:Hid ((loadVar 265 ⟨w.heap.size,0,none⟩).run prog w2= .ok (.agg (nV S)) w2):=IC (S:=S) ak;have HM:Hid (vg w E (.returned (.agg (nV S))) w2):=by
    refine⟨S,rfl,fK.trans ag (by simp),λb hb=> ?_⟩;have hr:=dB (hf.row b hb) ag (λg hg hm=>by
     have :=cZ (hf.row b hb) g hg;rw[ay] at hm;omega)
    rw[DA.out] at hr;obtain⟨g,ho,hg⟩:=fp.of_row hr;by_cases h0:(ez E b).length=0
    ·exact⟨w.heap.size,(ho.ereads rfl).anyG h0 _,aI _⟩
    ·exact⟨g,ho.ereads rfl,by have :=(hg h0).1;omega⟩
   clear HP hj U V hf fK hS ak ag;go_wp2_with(first|(with_reducible refine gL 265 HL.out ?_)|(with_reducible refine gS 265 HS.out ?_));exact aL (b9 results216 rfl qN.out) rfl HM.out
  |succ gk=>
   have ai:j<n:=by omega
   have bk:(j:Int)<(n:Int):=by omega
   have BI:(0:Int)<=(j:Int):=by omega
   obtain⟨aC,off,rfl,e0,e1⟩:=yu.out j ai;obtain⟨U,V,hf,fK⟩:=HP.out;have rb:=au U;have o7:=au V;have HF:=au hf;have iZ:=au fK;have c0:=(aO (w:=w) (a:=⟨g,off+j*2,none⟩) (fK.block g aC (by simp))).trans e0;have c1:=(aO (w:=w) (a:=⟨g,off+j*2+1,none⟩) (fK.block g aC (by simp))).trans e1;have aK:=au (HW.out j ai);have N6:Hid (∀b,ez (E.take (j+1)) b=if b=JS (eU E j,jl E j) then ez (E.take j) b++[(eU E j,jl E j)] else ez (E.take j) b):=λb=>by rw[aN.out j ai,SJ]
   have ac:qV (bl (eU E j))<4:=OW (eU E j,jl E j);have aB:JS (eU E j,jl E j)=qV (bl (eU E j)):=rfl;have bn:w.heap.size+1<wr.heap.size:=U.lt;rw[aB] at N6;clear e0 e1 HP U V hf fK aB;generalize eU E j=nm at *;generalize jl E j=ino at *;generalize qV (bl nm)=q at *;go_wp2_with fail;refine(aK.out _).mono ?_;rintro e J ⟨rfl,af⟩;have LS:=(bh.new wr #[.string nm,.int .i64 ino] 87).keep af (by simp);have GZ:Hid (az [] wr J):=((az.refl [] wr).alloc (.cells #[.string nm,.int .i64 ino] 87)).trans' af;have aA:=au (HF.out.keep GZ.out (by simp));have ae:=au (rb.out.keep GZ.out (by simp));have aX:=au (o7.out.keep GZ.out (by simp));have bf:w.heap.size+2<=J.heap.size:=by have :=GZ.out.size;omega
   have d0:∀o,(J.alloc o).drew.cell? ⟨wr.heap.size,0,none⟩=some (.string nm):=λo=>by rw[(LS.alloc o).drew.cell];rfl
   have d1:∀o,(J.alloc o).drew.cell? ⟨wr.heap.size,1,none⟩=some (.int .i64 ino):=λo=>by rw[(LS.alloc o).drew.cell];rfl
   have bg:J.cell? ⟨wr.heap.size,0,none⟩=some (.string nm):=by rw[LS.cell];rfl
   have bq:J.cell? ⟨wr.heap.size,1,none⟩=some (.int .i64 ino):=by rw[LS.cell];rfl
   have W:=aA.out.row q ac;obtain⟨aq,cq,aY,q1,q2⟩:=iV W;have bo:J.cell? ⟨w.heap.size+1,q,none⟩=some (S q):=by rw[ae.out.cell,IA S ac]
   have aW:∀o,(J.alloc o).drew.cell? ⟨w.heap.size+1,q,none⟩=some (S q):=λo=>by rw[(ae.out.alloc o).drew.cell,IA S ac]
   have aT:∀o,(J.alloc o).drew.frozen? ⟨w.heap.size+1,q,none⟩=false:=λo=>(ae.out.alloc o).drew.frozen _
   have bj:(0:Int)<=(q:Int):=by omega
   have bp:(q:Int)<4:=by omega
   have KS:=BP.out j q;have ma:=au W;have aZ:=au (iZ.out.trans' GZ.out);clear W af LS;generalize aG:S q=sq at *;subst aY;have ax:=au aG;clear aG;generalize hm:(ez (E.take j) q).length=m at *;have HM:=au hm;clear hm;unfold maxLen at q2;have aD:(Value.slice aq m cq).ownBlock≠some (w.heap.size+1):=λe=>by have :=cZ ma.out _ e;omega
   go_wp2_with fail
   go_region_law ((refine step_append_lies _ (by rfl) _ _ _ (by rfl) (w.heap.size+2) 87 i0 _ 2 24 underlying32 hi aV aR aS rfl (by omega) (.slice aq m cq) m _ (by rfl) ((ma.out.alloc _).drew) ⟨J.heap.size,0,none⟩ 1 1 [.string nm,.int .i64 ino] (by rfl) (by rfl) (jP J [_,_] _ _ rfl) (by simp[Value.oneCell']) (by omega) (by unfold maxLen;omega) (by omega) (by simp;omega) (J.heap.size+1) (by simp) ?_;intro EC bb w2 aa z ar OV;have aQ:=(z.cell_far ⟨w.heap.size+1,q,none⟩ (by simp;omega) (dK aD)).trans (aW _);have Zd:=(z.frozen_far ⟨w.heap.size+1,q,none⟩ (by simp;omega) (dK aD)).trans (aT _)))
   all_goals
    have HN:=au (LW (wa:=(J.alloc (.cells #[.string nm,.int .i64 ino] 87)).drew) (p:=(nm,ino)) (((az.refl [] J).alloc _).drew) (by simp) aA.out ae.out aX.out aZ.out ac HM.out aa (by rw[ax.out];exact z) (by rw[ax.out];exact ar) N6.out);clear aa z ar OV aQ Zd;go_wp2_with fail;go_roundg gk;case measure=>omega
    case rel=>
     obtain⟨S',h1,h2,h3,h4⟩:=HN.out;exact⟨j+1,S',by omega,by go_num,h1,h2,h3,h4⟩
def aeD (n:bP):Prop:=n.E.length<=24/\n.S=n.E.length/\n.B=List.replicate 13 0
theorem LY (n:bP)(v:Value)(g:Nat)(hB:n.B.length=13)(w:World)(hE:bC w v g n.E)(hN:∀k,k<n.E.length->(eU n.E k).size<=9223372036854775807):
  Calls prog 139 #[.agg (aR n v)] w λe w'=>e= .returned (.bool (decide (og n)))/\az [] w w':=by
 obtain⟨a,cap,rfl,aD,aj,yu⟩:=hE.open;have HN:=au hN;unfold maxLen at aj;obtain⟨Z,hZ⟩:∃Z,Z=aR n (.slice a n.E.length cap):=⟨_,rfl⟩;have V:QO Z n (.slice a n.E.length cap):=by rw[hZ];exact iX _ hB
 rw[<-hZ];have W:=bh.new w Z 111;have c3:(w.alloc (.cells Z 111)).cell? ⟨w.heap.size,3,none⟩=some (.int .i64 n.S):=by rw[W.cell];exact V.f3
 have ae:(w.alloc (.cells Z 111)).cell? ⟨w.heap.size,17,none⟩=some (.slice a n.E.length cap):=by rw[W.cell];exact V.f5
 have HK:Hid (az [] w (w.alloc (.cells Z 111))):=(az.refl [] w).alloc _;have oK:=au W;have HL:=au (fc (off:=4) W hB V.f4);have JT:Hid (∀wx:World,bh wx w.heap.size Z 111->wx.cell? ⟨w.heap.size,17,none⟩=some (.slice a n.E.length cap)):=λwx hb=>by rw[hb.cell];exact V.f5
 have GU:=au (λwx=>OG (a:=n.B) (b:=List.replicate 13 0) hB rfl wx);have aF:=BL;have aA:=oH;have G:Hid (og n↔aeD n/\∀k,k<n.E.length->Dw n.E k):=⟨λh=>⟨⟨h.1,h.2.1,h.2.2.1⟩,h.2.2.2⟩,λh=>⟨h.1.1,h.1.2.1,h.1.2.2,h.2⟩⟩;clear W V hZ hB hE hN;by_cases aC:24<n.E.length
 ·have J:Hid (decide (og n)=false):=aS λh=>by have :=h.1;omega
  clear G HN yu;generalize n.E.length=m at *;have N8:(24:Int)<(m:Int):=by omega
  go_enter func139,ntmps139;go_wp2_with fail;go_ret;exact⟨by rw[J.out];rfl,HK.out⟩
 ·by_cases hS:n.S=n.E.length
  ·obtain⟨t,ht⟩:∃t,decide (n.B=List.replicate 13 0)=t:=⟨_,rfl⟩
   rw[ht] at GU;have ax:=GU.out;rw[hS] at c3;have N8:¬(24:Int)<((n.E.length:Nat):Int):=by omega
   cases t
   ·have J:Hid (decide (og n)=false):=aS λh=>of_decide_eq_false ht h.2.2.1
    clear G HN yu ht GU JT;generalize (zs (List.replicate 13 0)).toArray=Z0 at *;generalize (zs n.B).toArray=ZB at *;generalize n.E.length=m at *;have av:((m:Int) != (m:Int))=false:=by simp
    go_enter func139,ntmps139;go_wp2_with((with_reducible show wpList _ _ _ (⟨_,.load 109 (.tmp 18),_,_,_,_⟩::_) _ _);refine eB (by simp[Region.wanted,yielded]) 109 (.tmp 18) rfl _ rfl _ HL.out ?_);go_ret;exact⟨by rw[J.out];rfl,HK.out⟩
   ·have HA:Hid (aeD n):=⟨by omega,hS,of_decide_eq_true ht⟩
    clear ht GU;generalize (zs (List.replicate 13 0)).toArray=Z0 at *;generalize (zs n.B).toArray=ZB at *;generalize hm:n.E.length=m at *;go_enter func139,ntmps139;go_wp2_with((with_reducible show wpList _ _ _ (⟨_,.load 109 (.tmp 18),_,_,_,_⟩::_) _ _);refine eB (by simp[Region.wanted,yielded]) 109 (.tmp 18) rfl _ rfl _ HL.out ?_);clear aA ax HL c3 ae;go_loopg [26] m (λgh s26 wx=>∃k:Nat,k+gh=m/\s26= .int .i64 (k:Int)/\Hid ((∀i,i<k->Dw n.E i)/\az [] (w.alloc (.cells Z 111)) wx))
    case atStart=>exact⟨0,by omega,rfl,by simp,az.refl _ _⟩
    case round=>
     obtain⟨k,hk,rfl,HR⟩:=hrel;cases gk with
     |zero=>
      obtain rfl:k=m:=by omega
      have HT:Hid (decide (og n)=true):=bq (G.out.2 ⟨HA.out,HR.out.1⟩);have iZ:=au (HK.out.trans' HR.out.2);clear HR hk G JT hm;go_wp2_with fail;go_ret;exact⟨by rw[HT.out];rfl,iZ.out⟩
     |succ gg=>
      have Iz:k<m:=by omega
      have aK:(k:Int)<(m:Int):=by omega
      have dt:(0:Int)<=(k:Int):=by omega
      obtain⟨hg,off,rfl,e0,e1⟩:=yu.out k Iz;have wM:=HK.out.trans' HR.out.2;have c0:wr.cell? ⟨g,off+k*2,none⟩=some (.string (eU n.E k)):=(aO (w:=w) (a:=⟨g,off+k*2,none⟩) (wM.block g hg (by simp))).trans e0;have c1:wr.cell? ⟨g,off+k*2+1,none⟩=some (.int .i64 (jl n.E k)):=(aO (w:=w) (a:=⟨g,off+k*2+1,none⟩) (wM.block g hg (by simp))).trans e1;have HG:=au (λwx=>JK (eU n.E k) (HN.out k Iz) wx);have U:Hid (Dw n.E k↔iC (bl (eU n.E k))=true/\(0<=jl n.E k/\jl n.E k<=31)/\(0<k->leB (eU n.E k) (eU n.E (k-1))=false)):=Iff.rfl;have jC:Hid (¬Dw n.E k->decide (og n)=false):=λh=>aS λhd=>h ((G.out.1 hd).2 k Iz)
      have nD:=au wM;have tG:=au HR.out.1;have ai:=au HR.out.2;have ae:=JT.out wr (oK.out.keep HR.out.2 (by simp));have z:Hid (∀q,k=q+1->wr.cell? ⟨g,off+q*2,none⟩=some (.string (eU n.E q))):=λq hq=>by
       obtain⟨-,aB,ar,f0,-⟩:=yu.out q (by omega);cases ar;exact(aO (w:=w) (a:=⟨g,off+q*2,none⟩) (wM.block g hg (by simp))).trans f0
      clear wM e0 e1 yu G HR JT;generalize Sd:eU n.E k=nm at *;generalize jl n.E k=ino at *;cases hgd:iC (bl nm)
      ·have J:Hid (decide (og n)=false):=jC.out λh=>by have :=(U.out.1 h).1;rw[hgd] at this;cases this
       rw[hgd] at HG;clear U jC hgd hk z hm;go_wp2_with fail;refine(HG.out _).mono ?_;rintro e w' ⟨rfl,rfl⟩;go_wp2_with fail;go_ret;exact⟨by rw[J.out];rfl,nD.out.alloc _⟩
      ·rw[hgd] at HG
       by_cases aL:ino<0
       ·have J:Hid (decide (og n)=false):=jC.out λh=>by have :=(U.out.1 h).2.1.1;omega
        clear U jC hgd hk z hm;go_wp2_with fail;refine(HG.out _).mono ?_;rintro e w' ⟨rfl,rfl⟩;go_wp2_with fail;go_ret;exact⟨by rw[J.out];rfl,nD.out.alloc _⟩
       ·by_cases aJ:32<=ino
        ·have J:Hid (decide (og n)=false):=jC.out λh=>by have :=(U.out.1 h).2.1.2;omega
         clear U jC hgd hk z hm;go_wp2_with fail;refine(HG.out _).mono ?_;rintro e w' ⟨rfl,rfl⟩;go_wp2_with fail;go_ret;exact⟨by rw[J.out];rfl,nD.out.alloc _⟩
        ·by_cases ah:k=0
         ·have af:Hid (∀i,i<k+1->Dw n.E i):=λi hi=>by
           obtain rfl:i=k:=by omega
           exact U.out.2 ⟨hgd,⟨by omega,by omega⟩,λh=>absurd h (by omega)⟩
          have aM:¬(0:Int)<(k:Int):=by omega
          have ak:decide (0<k)=false:=aS (by omega);clear U jC hgd z hm tG ah;go_wp2_with fail;refine(HG.out _).mono ?_;rintro e w' ⟨rfl,rfl⟩;go_wp2_with fail
          go_quiet (fail)
          go_wp2_with fail;go_roundg gg;case measure=>omega
          case rel=>exact⟨k+1,by omega,by go_num,af.out,(ai.out.alloc _).drewN _⟩
         ·obtain⟨q,hq⟩:∃q,k=q+1:=⟨k-1,by omega⟩
          have ag:=z.out q hq;have aN:∀o,(wr.alloc o).cell? ⟨g,off+q*2,none⟩=some (.string (eU n.E q)):=λo=>by
           rw[World.cell?_alloc_some _ _ _ (by rw[ag];rfl)];exact ag
          have aG:∀o,(wr.alloc o).cell? ⟨w.heap.size,17,none⟩=some (.slice (some ⟨g,off,none⟩) m cap):=λo=>by
           rw[World.cell?_alloc_some _ _ _ (by rw[ae];rfl)];exact ae
          clear ag;have fK:(0:Int)<(k:Int):=by omega
          have ak:decide (0<k)=true:=bq (by omega);have aP:(k:Int)-1=(q:Int):=by omega
          have aH:(q:Int)<(m:Int):=by omega
          have aI:(0:Int)<=(q:Int):=by omega
          have ac:∀b,leB nm (eU n.E q)=b->(Op.bytesLess nm.toList (eU n.E q).toList||(nm.toList==(eU n.E q).toList))=b:=λb h=>h
          have aa:Hid (Dw n.E k↔leB nm (eU n.E q)=false):=by
           show _↔_;rw[U.out,show k-1=q by omega];exact⟨λh=>h.2.2 (by omega),λh=>⟨hgd,⟨by omega,by omega⟩,λ_=>h⟩⟩
          generalize eU n.E q=pm at *;cases hle:leB nm pm
          ·have af:Hid (∀i,i<k+1->Dw n.E i):=λi hi=>by
            by_cases e:i=k
            ·subst e;exact aa.out.2 hle
            ·exact tG.out i (by omega)
           have ay:=ac _ hle;clear U aa jC hgd z hm tG ah ac hle hq;go_wp2_with fail;refine(HG.out _).mono ?_;rintro e w' ⟨rfl,rfl⟩;go_wp2_with fail
           go_quiet (fail)
           go_wp2_with fail;go_roundg gg;case measure=>omega
           case rel=>exact⟨k+1,by omega,by go_num,af.out,(ai.out.alloc _).drewN _⟩
          ·have J:Hid (decide (og n)=false):=jC.out λh=>by
            have :=aa.out.1 h;rw[hle] at this;cases this
           have ay:=ac _ hle;clear U aa jC hgd z hm tG ah ac hle hq hk;go_wp2_with fail;refine(HG.out _).mono ?_;rintro e w' ⟨rfl,rfl⟩;go_wp2_with fail
           go_quiet (fail)
           go_wp2_with fail;go_ret;exact⟨by rw[J.out];rfl,(nD.out.alloc _).drewN _⟩
  ·have J:Hid (decide (og n)=false):=aS λh=>hS h.2.1
   have e2:(n.S != ((n.E.length:Nat):Int))=true:=bne_iff_ne.2 hS;have N8:¬(24:Int)<((n.E.length:Nat):Int):=by omega
   clear G HN yu;generalize n.S=s at *;generalize n.E.length=m at *;go_enter func139,ntmps139;go_wp2_with fail;go_ret;exact⟨by rw[J.out];rfl,HK.out⟩
theorem nt (n:bP)(v:Value)(g:Nat)(hB:n.B.length=13)(w:World)(hE:bC w v g n.E)(hN:∀k,k<n.E.length->(eU n.E k).size<=9223372036854775807):
  Calls prog 96 #[.agg (aR n v)] w λe w'=>e= .returned (.bool (decide (bZ n)))/\az [] w w':=by
 have aa:Hid (∀J,Calls prog 138 #[.agg (aR n v)] J λe w'=>e= .returned (.bool (decide (qg n)))/\az [] J w'):=λJ=>by
  obtain⟨a,cap,hv,-⟩:=hE;subst hv;exact JR n a cap hB J
 have ac:Hid (∀J,az [] w J->Calls prog 139 #[.agg (aR n v)] J λe w'=>e= .returned (.bool (decide (og n)))/\az [] J w'):=λJ hk=>
  LY n v g hB J (hE.keep hk (by simp)) hN
 obtain⟨Z,hZ⟩:∃Z,Z=aR n v:=⟨_,rfl⟩;have U:QO Z n v:=by rw[hZ];exact iX _ hB
 rw[<-hZ] at aa ac ⊢;have G:=bh.new w Z 111;have c0:(w.alloc (.cells Z 111)).cell? ⟨w.heap.size,0,none⟩=some (.int .i64 n.F):=by rw[G.cell];exact U.f0
 have c1:(w.alloc (.cells Z 111)).cell? ⟨w.heap.size,1,none⟩=some (.int .i64 n.K):=by rw[G.cell];exact U.f1
 have c2:(w.alloc (.cells Z 111)).cell? ⟨w.heap.size,2,none⟩=some (.int .i64 n.L):=by rw[G.cell];exact U.f2
 have HK:Hid (az [] w (w.alloc (.cells Z 111))):=(az.refl [] w).alloc _;have HL:Hid ((loadVar 111 ⟨w.heap.size,0,none⟩).run prog (w.alloc (.cells Z 111))= .ok (.agg Z) (w.alloc (.cells Z 111))):=by
  have :=ct (n:=n) (v:=v) (by rw[<-hZ];exact G) hB;rw[<-hZ] at this;exact this
 clear G U hZ hE hN hB;by_cases hF:n.F=1\/n.F=2
 ·rcases hF with hF|hF
  all_goals
   rw[hF] at c0;by_cases af:n.L<0
   ·have W:Hid (decide (bZ n)=false):=aS λh=>by have :=h.2.1.1;omega
    generalize n.L=l at *;go_enter func96,ntmps96;go_wp2_with fail;go_ret;exact⟨by rw[W.out];rfl,HK.out⟩
   ·by_cases ae:65535<n.L
    ·have W:Hid (decide (bZ n)=false):=aS λh=>by have :=h.2.1.2;omega
     generalize n.L=l at *;go_enter func96,ntmps96;go_wp2_with fail;go_ret;exact⟨by rw[W.out];rfl,HK.out⟩
    ·by_cases QZ:n.K=1
     ·have HQ:Hid (decide (bZ n)=decide (qg n)):=decide_eq_decide.2 ⟨λh=>by
       rcases h.2.2 with h|h
       ·exact h.2
       ·omega,λh=>⟨by omega,⟨by omega,by omega⟩,.inl ⟨QZ,h⟩⟩⟩
      rw[QZ] at c1;generalize decide (qg n)=q at *;generalize n.L=l at *;go_enter func96,ntmps96;go_wp2_with(with_reducible refine gL 111 HL.out ?_);refine(aa.out _).mono ?_;rintro e w1 ⟨rfl,z⟩;have iU:=au (HK.out.trans' z);clear z;go_wp2_with fail;go_ret;exact⟨by rw[HQ.out];rfl,iU.out⟩
     ·by_cases V:n.K=2
      ·have HQ:Hid (decide (bZ n)=decide (og n)):=decide_eq_decide.2 ⟨λh=>by
        rcases h.2.2 with h|h
        ·omega
        ·exact h.2,λh=>⟨by omega,⟨by omega,by omega⟩,.inr ⟨V,h⟩⟩⟩
       rw[V] at c1;generalize decide (og n)=q at *;generalize n.L=l at *;go_enter func96,ntmps96;go_wp2_with(with_reducible refine gL 111 HL.out ?_);refine(ac.out _ HK.out).mono ?_;rintro e w1 ⟨rfl,z⟩;have iU:=au (HK.out.trans' z);clear z;go_wp2_with fail;go_ret;exact⟨by rw[HQ.out];rfl,iU.out⟩
      ·have W:Hid (decide (bZ n)=false):=aS λh=>by
        rcases h.2.2 with h|h
        ·exact QZ h.1
        ·exact V h.1
       have k1:(n.K==1)=false:=cQ.2 QZ;have k2:(n.K==2)=false:=cQ.2 V;generalize n.L=l at *;generalize n.K=kk at *;go_enter func96,ntmps96;go_wp2_with fail;go_ret;exact⟨by rw[W.out];rfl,HK.out⟩
 ·have W:Hid (decide (bZ n)=false):=aS λh=>hF h.1
  have f1:(n.F != 1)=true:=bne_iff_ne.2 λh=>hF (.inl h)
  have f2:(n.F != 2)=true:=bne_iff_ne.2 λh=>hF (.inr h)
  clear hF;generalize n.F=f at *;go_enter func96,ntmps96;go_wp2_with fail;go_ret;exact⟨by rw[W.out];rfl,HK.out⟩
end Go.Proofs.YtepbpdipenedhaaGreatDoor
