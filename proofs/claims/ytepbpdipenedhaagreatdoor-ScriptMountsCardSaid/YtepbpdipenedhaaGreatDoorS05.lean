/- Lemmas. -/
import Derived.Test.YtepbpdipenedhaaGreatDoorS04
import Derived.Deep.RegionHeld
set_option maxHeartbeats 8000000
set_option maxRecDepth 100000
namespace Go.Proofs.YtepbpdipenedhaaGreatDoor
open Go.Proofs.Tryz
open Go.RowKit
variable{s t:Int}{l:List Int}{w w':World}{v:Value}{T g h j n y:Nat}{E:List (ByteArray×Int)}{S:Nat->Value}{F:Nat->List (ByteArray×Int)}
def mA (n:bN):Int:=n.F+256*n.K+65536*n.L
structure uW (n:bN):Prop where
 f:0<=n.F/\n.F<256
 k:0<=n.K/\n.K<256
 l:0<=n.L/\n.L<65536
 s:0<=n.S/\n.S<9223372036854775808
def fV (n:bN) (l:List Int) (h:Int):List Int:=mA n::n.S::(l.take 5++[h])
theorem Yn (f k m:Nat)(h:f<256)(y:k<256)(z:m<65536):bits .or .u64 (f:Int) ((k:Int)*256)=((f+k*256:Nat):Int)/\bits .or .u64 ((f+k*256:Nat):Int) ((m:Int)*65536)=((f+k*256+m*65536:Nat):Int):=by
 constructor
 ·rw[show(k:Int)*256=((k*256:Nat):Int) by omega,u64_or_nat _ _ (by omega) (by omega),Nat.or_comm,nat_join 8 _ _ (by exact Nat.mul_mod_left _ _) h,Nat.add_comm]
 ·rw[show(m:Int)*65536=((m*65536:Nat):Int) by omega,u64_or_nat _ _ (by omega) (by omega),Nat.or_comm,nat_join 16 _ _ (by exact Nat.mul_mod_left _ _) (show f+k*256<65536 by omega),Nat.add_comm]
def lG (t s:Int) (l:List Int) (k:Nat):List Int:=t::s::(dn 0 l k++[0])
theorem rC (h:l.length=5){k:Nat}(y:k<=5):(lG t s l k).length=8:=by simp[lG,jG,h,y]
theorem Iw (h:l.length=5){k:Nat}(y:k<5):(lG t s l k).set (2+k) (l.getD k 0)=lG t s l (k+1):=by
 rw[lG,show 2+k=k+1+1 by omega,ai,ai,List.set_append_left _ _ (by rw[jG _ _ _ (by omega)];omega),jB 0 l k (by omega) (l.getD k 0) (by simp[show k<l.length by omega])];rfl
theorem Iy (h:l.length=5)(x:Int):(lG t s l 5).set 7 x=t::s::(l++[x]):=by
 rw[lG,show dn 0 l 5=l by rw[<-h];exact j5 0 l,ai,ai,cQ _ _ (by omega),h];rfl
def qE (n:bN):List Int:=mA n::n.S::List.replicate 6 0
theorem yF (n:bN):(qE n).length=8:=by simp[qE]
theorem AK (n:bN)(v:Value)(hB:n.B.length=13)(ht:uW n)(w:World):
  Calls prog 211 #[.agg (aU n v)] w λe w'=>e= .returned (.agg (aO (qE n)).toArray)/\ay [] w w':=by
 have z:=jL v hB;generalize aU n v=Z at *;have ac:=jx;have G:bf (w.alloc (.cells Z 111)) w.heap.size Z 111 :=bf.new _ _ _;have c0:∀h y,(((w.alloc (.cells Z 111)).alloc h).alloc y).cell? ⟨w.heap.size,0,none⟩=some (.int .i64 n.F):=λh y=>by rw[((G.alloc h).alloc y).cell];exact z.f0
 have c1:∀h y,(((w.alloc (.cells Z 111)).alloc h).alloc y).cell? ⟨w.heap.size,1,none⟩=some (.int .i64 n.K):=λh y=>by rw[((G.alloc h).alloc y).cell];exact z.f1
 have c2:∀h y,(((w.alloc (.cells Z 111)).alloc h).alloc y).cell? ⟨w.heap.size,2,none⟩=some (.int .i64 n.L):=λh y=>by rw[((G.alloc h).alloc y).cell];exact z.f2
 have c3:∀h y,(((w.alloc (.cells Z 111)).alloc h).alloc y).cell? ⟨w.heap.size,3,none⟩=some (.int .i64 n.S):=λh y=>by rw[((G.alloc h).alloc y).cell];exact z.f3
 obtain⟨tf,tk,tl,ts⟩:=ht;obtain⟨f,hf⟩:∃f:Nat,n.F=(f:Int):=⟨n.F.toNat,by omega⟩;obtain⟨k,hk⟩:∃k:Nat,n.K=(k:Int):=⟨n.K.toNat,by omega⟩;obtain⟨m,hm⟩:∃m:Nat,n.L=(m:Int):=⟨n.L.toNat,by omega⟩;obtain⟨s,hs⟩:∃s:Nat,n.S=(s:Int):=⟨n.S.toNat,by omega⟩;rw[hf] at c0 tf;rw[hk] at c1 tk;rw[hm] at c2 tl;rw[hs] at c3 ts;obtain⟨q1,q2⟩:=Yn f k m (by omega) (by omega) (by omega);have V:Hid (((f+k*256+m*65536:Nat):Int)=mA n):=by
  show _=_;rw[mA,hf,hk,hm];omega
 generalize f+k*256+m*65536=t at *;generalize f+k*256=t1 at *;have kH:Hid (qE n=(t:Int)::(s:Int)::List.replicate 6 0):=by
  show _=_;rw[qE,<-V.out,hs]
 clear hf hk hm hs V z hB;rw[kH.out];have BN:((t:Int)::(s:Int)::List.replicate 6 0).length=8:=by simp
 have J:bf (((w.alloc (.cells Z 111)).alloc (.cells (aO (List.replicate 8 0)).toArray 195)).alloc (.cells (((aO (List.replicate 8 0)).set 0 (.int .u64 (t:Int))).set 1 (.int .u64 (s:Int))).toArray 195)) (w.heap.size+1+1) (aO ((t:Int)::(s:Int)::List.replicate 6 0)).toArray 195 :=by
  have :=bf.new ((w.alloc (.cells Z 111)).alloc (.cells (aO (List.replicate 8 0)).toArray 195)) (((aO (List.replicate 8 0)).set 0 (.int .u64 (t:Int))).set 1 (.int .u64 (s:Int))).toArray 195;have e:((w.alloc (.cells Z 111)).alloc (.cells (aO (List.replicate 8 0)).toArray 195)).heap.size=w.heap.size+1+1:=by simp
  rw[e] at this;exact this
 have U:bf (((w.alloc (.cells Z 111)).alloc (.cells (aO (List.replicate 8 0)).toArray 195)).alloc (.cells (((aO (List.replicate 8 0)).set 0 (.int .u64 (t:Int))).set 1 (.int .u64 (s:Int))).toArray 195)) (w.heap.size+1) (aO (List.replicate 8 0)).toArray 195 :=by
  have :=(bf.new (w.alloc (.cells Z 111)) (aO (List.replicate 8 0)).toArray 195).alloc (.cells (((aO (List.replicate 8 0)).set 0 (.int .u64 (t:Int))).set 1 (.int .u64 (s:Int))).toArray 195);have e:(w.alloc (.cells Z 111)).heap.size=w.heap.size+1:=by simp
  rw[e] at this;exact this
 have HL:=ar (dX J BN);obtain⟨w2,hS,W,aa⟩:=bo (P:= prog) (ty:= 195) (cs:=aO ((t:Int)::(s:Int)::List.replicate 6 0)) (by rw[aZ,BN];exact il) U (by simp[aZ]) (eF _);have HS:=ar hS;have pd:=ar (dX W BN);have iA:Hid (ay [] w w2):=((((ay.refl _ _).alloc _).alloc _).alloc _).trans aa (by simp);clear J U hS W aa G;go_enter func211,ntmps211;go_wp2_with(first|(with_reducible refine gL 195 HL.out ?_)|(with_reducible refine gS 195 HS.out ?_));exact aL (dJ results211 rfl pd.out) rfl ⟨rfl,iA.out⟩
theorem zE (n:bN)(v:Value)(hB:n.B.length=13)(ht:uW n)(l:List Int)(hl:l.length=13)(hn:Ym l)(h:Int)(h0:0<=h/\h<9223372036854775808)(w:World):
  Calls prog 193 #[.agg (aU n v),.agg (zs l).toArray,.int .i64 h] w λe w'=>e= .returned (.agg (aO (fV n l h)).toArray)/\ay [] w w':=by
 have HH:=ar (AK n v hB ht);have aH:=jx;have vR:=ar (cC (((bf.new w (aU n v) 111).alloc (.cells (zs l).toArray 109)).alloc (.cells (aO (List.replicate 8 0)).toArray 195)) hB);have ae:bf (((w.alloc (.cells (aU n v) 111)).alloc (.cells (zs l).toArray 109)).alloc (.cells (aO (List.replicate 8 0)).toArray 195)) (w.heap.size+1) (zs l).toArray 109 :=by
  have :=(bf.new (w.alloc (.cells (aU n v) 111)) (zs l).toArray 109).alloc (.cells (aO (List.replicate 8 0)).toArray 195);have e:(w.alloc (.cells (aU n v) 111)).heap.size=w.heap.size+1:=by simp
  rw[e] at this;exact this
 have ak:bf (((w.alloc (.cells (aU n v) 111)).alloc (.cells (zs l).toArray 109)).alloc (.cells (aO (List.replicate 8 0)).toArray 195)) (w.heap.size+1+1) (aO (List.replicate 8 0)).toArray 195 :=by
  have :=bf.new ((w.alloc (.cells (aU n v) 111)).alloc (.cells (zs l).toArray 109)) (aO (List.replicate 8 0)).toArray 195;have e:((w.alloc (.cells (aU n v) 111)).alloc (.cells (zs l).toArray 109)).heap.size=w.heap.size+1+1:=by simp
  rw[e] at this;exact this
 have gH:Hid (ay [] w (((w.alloc (.cells (aU n v) 111)).alloc (.cells (zs l).toArray 109)).alloc (.cells (aO (List.replicate 8 0)).toArray 195))):=(((ay.refl _ _).alloc _).alloc _).alloc _;have oL:=ar ae;have p9:=ar ak;clear ae ak;have V:(l.take 5).length=5:=by simp[hl]
 obtain⟨t,hT⟩:∃t,t=mA n:=⟨_,rfl⟩;obtain⟨s,aa⟩:∃s,s=n.S:=⟨_,rfl⟩;have Yo:Hid (qE n=lG t s (l.take 5) 0):=by
  show _=_;rw[qE,lG,jA,V,hT,aa];rfl
 have kH:Hid (fV n l h=t::s::(l.take 5++[h])):=by
  show _=_;rw[fV,hT,aa]
 have Ka:Hid (∀i,i<5->(0<=(l.take 5).getD i 0/\(l.take 5).getD i 0<9223372036854775808)/\l.getD i 0=(l.take 5).getD i 0):=λi hi=>by
  have e:(l.take 5).getD i 0=l.getD i 0:=by simp[hi]
  rw[e];exact⟨hn i,rfl⟩
 have Rx:Hid (∀i,i<13->(zs l).toArray[i]? =some (.int .i64 (l.getD i 0))):=λi hi=>by rw[aC,fp (by omega)]
 have aI:=kX h0.1 h0.2;clear hn hB ht hT aa;rw[kH.out];generalize aU n v=Z at *;generalize (zs l).toArray=ZL at *;go_enter func193,ntmps193;go_wp2_with(with_reducible refine gL 111 vR.out ?_);refine(HH.out _).mono ?_;rintro e w1 ⟨rfl,J⟩;rw[Yo.out];obtain⟨w2,aA,G5,aD⟩:=bo (P:= prog) (ty:= 195) (cs:=aO (lG t s (l.take 5) 0)) (by rw[aZ,rC V (by omega)];exact il) (bf.new w1 (aO (List.replicate 8 0)).toArray 195) (by simp[aZ,rC V]) (eF _);have aK:w.heap.size+1+1<w1.heap.size:=bt p9.out.lt J.size;have ng:ay [] (((w.alloc (.cells Z 111)).alloc (.cells ZL 109)).alloc (.cells (aO (List.replicate 8 0)).toArray 195)) w2:=(J.alloc (.cells (aO (List.replicate 8 0)).toArray 195)).trans aD (by intro x hx;rw[au] at hx;have :=J.size;omega);have av:=ar (oL.out.keep ng (by simp));have ai:=ar (p9.out.keep ng (by simp));have qp:=ar (gH.out.trans' ng);have aG:=ar aA;have KQ:=ar G5;clear aA G5 aD ng J vR HH oL p9 gH;generalize hg:w1.heap.size=g at *;go_wp2_with(with_reducible refine gS 195 aG.out ?_);go_loopg [11] 5 (λgh NZ wx=>∃i:Nat,i+gh=5/\NZ= .int .i64 (i:Int)/\Hid (bf wx g (aO (lG t s (l.take 5) i)).toArray 195/\bf wx (w.heap.size+1+1) (aO (List.replicate 8 0)).toArray 195/\bf wx (w.heap.size+1) ZL 109/\ay [] w wx))
 case atStart=>exact⟨0,by omega,rfl,KQ.out,ai.out,av.out,qp.out⟩
 case round=>
  clear aH KQ ai av qp;obtain⟨i,hi,rfl,HP⟩:=hrel;obtain⟨z,G,U,eW⟩:=HP.out;cases gk with
  |zero=>
   obtain rfl:i=5:=by omega
   have W:wr.cell? ⟨g,7,none⟩=some (.int .u64 ((lG t s (l.take 5) 5).getD 7 0)):=by
    rw[z.cell,aC,cG (by rw[rC V (by omega)];omega)]
   have aF:wr.frozen? ⟨g,7,none⟩=false:=z.frozen 7;have ac:=z.set 7 (.int .u64 h);rw[ag,ku,Iy V] at ac;have BN:(t::s::(l.take 5++[h])).length=8:=by simp[V]
   have HL:=ar (dX ac BN);obtain⟨w4,hS,ax,ah⟩:=bo (P:= prog) (ty:= 195) (cs:=aO (t::s::(l.take 5++[h]))) (by rw[aZ,BN];exact il) (G.other (a:=⟨g,7,none⟩) (by show w.heap.size+1+1≠g;omega) (.int .u64 h)) (by simp[aZ,BN]) (eF _);have HS:=ar hS;have pd:=ar (dX ax BN);have iA:=ar ((eW.setCell (p:=⟨g,7,none⟩) (.inr (by show w.heap.size<=g;omega)) (.int .u64 h)).trans ah (by intro x hx;rw[au] at hx;omega));clear hS ax ah HP hi ac z G U eW;generalize (lG t s (l.take 5) 5).getD 7 0=y at *;go_wp2_with(first|(with_reducible refine gL 195 HL.out ?_)|(with_reducible refine gS 195 HS.out ?_));exact aL (dJ results193 rfl pd.out) rfl ⟨rfl,iA.out⟩
  |succ gg=>
   have af:i<5:=by omega
   have aM:(i:Int)<5:=by omega
   have aN:(0:Int)<=(i:Int):=by omega
   obtain⟨aB,az⟩:=Ka.out i af;have aJ:wr.cell? ⟨w.heap.size+1,i,none⟩=some (.int .i64 ((l.take 5).getD i 0)):=by
    rw[U.cell,Rx.out i (by omega),az]
   have hw:=kX aB.1 aB.2;have W:wr.cell? ⟨g,2+i,none⟩=some (.int .u64 ((lG t s (l.take 5) i).getD (2+i) 0)):=by
    rw[z.cell,aC,cG (by rw[rC V (by omega)];omega)]
   have aF:wr.frozen? ⟨g,2+i,none⟩=false:=z.frozen _;have HR:Hid (bf (wr.setCell ⟨g,2+i,none⟩ (.int .u64 ((l.take 5).getD i 0))) g (aO (lG t s (l.take 5) (i+1))).toArray 195/\bf (wr.setCell ⟨g,2+i,none⟩ (.int .u64 ((l.take 5).getD i 0))) (w.heap.size+1+1) (aO (List.replicate 8 0)).toArray 195/\bf (wr.setCell ⟨g,2+i,none⟩ (.int .u64 ((l.take 5).getD i 0))) (w.heap.size+1) ZL 109/\ay [] w (wr.setCell ⟨g,2+i,none⟩ (.int .u64 ((l.take 5).getD i 0)))):=by
    refine⟨?_,G.other (by show w.heap.size+1+1≠g;omega) _,U.other (by show w.heap.size+1≠g;omega) _,eW.setCell (.inr (by show w.heap.size<=g;omega)) _⟩;have :=z.set (2+i) (.int .u64 ((l.take 5).getD i 0));rw[ag,ku,Iw V af] at this;exact this
   clear HP z G U eW az;generalize (l.take 5).getD i 0=x at *;generalize (lG t s (l.take 5) i).getD (2+i) 0=y at *;go_wp2_with fail;go_roundg gg;case measure=>omega
   case rel=>exact⟨i+1,by omega,by go_num,HR.out⟩
def dM (E:List (ByteArray×Int)):List Int:=E.flatMap λp=>[((jq (bl p.1):Nat):Int),p.2]
theorem jr (E:List (ByteArray×Int)):(dM E).length=E.length*2:=by
 induction E with
 |nil=>rfl
 |cons p E ih=>simp[dM] at ih ⊢;omega
theorem Dx (E F:List (ByteArray×Int)):dM (E++F)=dM E++dM F:=by simp[dM]
theorem rD (E:List (ByteArray×Int)):∀k,k<E.length->(dM E).getD (k*2) 0=((jq (bl (dZ E k)):Nat):Int)/\(dM E).getD (k*2+1) 0=iC E k:=by
 induction E with
 |nil=>intro k h;simp at h
 |cons p E ih=>
  intro k h;have y:dM (p::E)=((jq (bl p.1):Nat):Int)::p.2::dM E:=rfl;cases k with
  |zero=>rw[y];exact⟨rfl,rfl⟩
  |succ k=>
   have :=ih k (by simpa using h);rw[y,show(k+1)*2=k*2+1+1 by omega,Ic,Ie];exact this
theorem BO (E:List (ByteArray×Int))(n:Nat)(h:n<E.length):E.take (n+1)=E.take n++[(dZ E n,iC E n)]:=by
 rw[bz h];have :E.getD n (ByteArray.empty,0)=E[n]:=by simp[h]
 rw[dZ,iC,this]
theorem yG (E:List (ByteArray×Int))(j:Nat)(h:j<E.length):dM (E.take (j+1))=dM (E.take j)++[((jq (bl (dZ E j)):Nat):Int),iC E j]:=by
 rw[BO E j h,Dx];rfl
structure su (E:List (ByteArray×Int)):Prop where
 len:E.length<=10000
 size:∀k,k<E.length->(dZ E k).size<=9223372036854775807
 ino:∀k,k<E.length->0<=iC E k/\iC E k<9223372036854775808
theorem uX (hE:br w v g E)(ho:su E):
  Calls prog 212 #[v] w (iK w (dM E)):=by
 obtain⟨a,cap,rfl,au,ae,uL⟩:=hE.open;unfold maxLen at ae;obtain⟨i0,hi,af,aj,ag⟩:=cr Tryz.info_u64;have ak:=ho.len;have Z:=wX (2*E.length) (by omega) (2*(E.length:Int)) (by omega) 0 (.inl rfl) w;rw[show((0:Nat):Int)=0 from rfl] at Z;have Xc:Hid ((w.alloc (.cells (madeCells #[.int .u64 0] (2*E.length)) 56)).ownsRow w.heap.size 56 1 (.slice (some ⟨w.heap.size,0,none⟩) 0 (2*E.length)) 0 (aO (dM (E.take 0)))):=
  ⟨rfl,.inr ⟨w.heap.size,2*E.length,madeCells #[.int .u64 0] (2*E.length),rfl,aG _,bf.new _ _ _,by omega,by unfold maxLen;omega,by simp[madeCells],by simp[dM,aO]⟩⟩
 have gH:Hid (ay [] w (w.alloc (.cells (madeCells #[.int .u64 0] (2*E.length)) 56))):=(ay.refl _ _).alloc _;have HW:Hid (∀j,j<E.length->∀V,Calls prog 221 #[.string (dZ E j)] V λe w'=>e= .returned (.tuple #[.int .u64 (jq (bl (dZ E j)):Nat),.bool (gA (bl (dZ E j)))])/\ay [] V w'):=λj U V=>
  FU _ (ho.size _ U) V
 have AH:Hid (∀j,j<E.length->0<=iC E j/\iC E j<9223372036854775808):=λj U=>ho.ino _ U
 have Yp:Hid (∀j,j<E.length->aO (dM (E.take (j+1)))=aO (dM (E.take j))++[.int .u64 ((jq (bl (dZ E j)):Nat):Int),.int .u64 (iC E j)]):=λj U=>by
  rw[yG E j U,ma];rfl
 have Al:Hid (E.take E.length=E):=gY;have Xd:Hid ((dM E).length=E.length*2):=jr E;clear hE ho;generalize hn:E.length=n at *;clear hn;generalize (madeCells #[.int .u64 0] (2*n))=MC at *;go_enter func212,ntmps212;go_wp2_with fail;clear Z;go_loopg [3,14] n (λgh s3 s14 V=>∃j:Nat,j+gh=n/\s14= .int .i64 (j:Int)/\Hid (V.ownsRow w.heap.size 56 1 s3 (2*j) (aO (dM (E.take j)))/\ay [] w V))
 case atStart=>exact⟨0,by omega,rfl,Xc.out,gH.out⟩
 case round=>
  clear Xc gH;obtain⟨j,U,rfl,W⟩:=hrel;cases gk with
  |zero=>
   obtain rfl:j=n:=by omega
   have HM:Hid (iK w (dM E) (.returned u3) wr):=by
    obtain⟨J,hk⟩:=W.out;rw[Al.out] at J;obtain⟨gg,Xe,hg⟩:=eQ.of_row J;by_cases h0:2*j=0
    ·exact⟨u3,w.heap.size,rfl,Xe.reads.anyG (by
      have :(dM E).length=0:=by rw[Xd.out];omega
      rw[bc this];rfl) _,aG _,hk⟩
    ·exact⟨u3,gg,rfl,Xe.reads,(hg h0).1,hk⟩
   clear W U;go_wp2_with fail;go_ret;exact HM.out
  |succ gk=>
   have G:j<n:=by omega
   have az:(j:Int)<(n:Int):=by omega
   have zz:(0:Int)<=(j:Int):=by omega
   obtain⟨aa,off,rfl,e0,e1⟩:=uL.out j G;have ac:=ar W.out.1;have iA:=ar W.out.2;have eW:=W.out.2;have c0:=(aK (w:=w) (a:=⟨g,off+j*2,none⟩) (eW.block g aa (by simp))).trans e0;have c1:=(aK (w:=w) (a:=⟨g,off+j*2+1,none⟩) (eW.block g aa (by simp))).trans e1;have ah:=ar (HW.out j G);obtain⟨n0,n1⟩:=AH.out j G;have hw:=kX n0 n1;have Kb:=ar (Yp.out j G);have aA:=eW.size;clear e0 e1 W eW;generalize dZ E j=nm at *;generalize iC E j=ino at *;obtain⟨a3,ai,rfl,q1,q2⟩:=ic ac.out;generalize hT:aO (dM (E.take j))=T at *;have HT:=ar hT;clear hT;go_wp2_with fail;refine(ah.out _).mono ?_;rintro e w1 ⟨rfl,z⟩;have Qy:=(bf.new wr #[.string nm,.int .i64 ino] 87).keep z (by simp);have Ag:=ar (ct (ct ac.out ((ay.refl [] wr).alloc (.cells #[.string nm,.int .i64 ino] 87)) (by simp)) z (by simp));have d1:w1.cell? ⟨wr.heap.size,1,none⟩=some (.int .i64 ino):=by rw[Qy.cell];rfl
   have jl:=ar ((iA.out.alloc (.cells #[.string nm,.int .i64 ino] 87)).trans' z);have av:w.heap.size<=w1.heap.size:=jl.out.size;clear z Qy;generalize jq (bl nm)=wv at *;have ax:2*j<=20000:=by omega
   go_wp2_with(at_builtin;refine dw _ rfl _ _ 71 rfl w.heap.size 56 i0 (.int .u64 0) 1 8 underlying71 hi af aj ag rfl (by decide) (.slice a3 (2*j) ai) (2*j) _ rfl (Ag.out.alloc _) ⟨w1.heap.size,0,none⟩ 2 2 [.int .u64 (wv:Int),.int .u64 ino] rfl rfl ?c1 ?c2 (by unfold maxLen;omega) (by omega) (by simp;omega) ?_);case c1=>exact iX _ [_,_] _ _ rfl
   case c2=>simp[Value.oneCell']
   intro v' w2 y h _;have MH:=ar y;have fF:=ar ((jl.out.alloc _).grown h (cz Ag.out));clear y h;go_wp2_with fail;go_roundg gk;case measure=>omega
   case rel=>
    refine⟨j+1,by omega,by go_num,?_,fF.out⟩;have :=MH.out;rw[show 2*(j+1)=2*j+2 by omega,Kb.out];exact this
structure U8 (W:Nat) (w1 w2:World):Prop where
 st:(storeVar 203 ⟨w1.heap.size,0,none⟩ (.agg (mV (jW W)).toArray)).run prog (w1.alloc (.cells (mV (List.replicate 8 0)).toArray 203))= .ok () w2
 c7:w2.cell? ⟨w1.heap.size,7,none⟩=some (.int .u8 (pU W 7:Nat))
 conv:pU W 7<=7->(convert 31 9 (.slice (some ⟨w1.heap.size,0,none⟩) (pU W 7) 8)).run prog w2= .ok (.string (sF ((jW W).take (pU W 7)))) w2
 keeps:ay [] w1 w2
theorem U9 (W:Nat)(h:World):∃y,U8 W h y:=by
 obtain⟨y,hs,G,Z⟩:=tD (l:=List.replicate 8 0) (by simp) (kS W) (bf.new h (mV (List.replicate 8 0)).toArray 203);have U:∀j,j<8->y.cell? ⟨h.heap.size,j,none⟩=some (.int .u8 (pU W j:Nat)):=λj J=>by
  rw[G.cell,<-sV W j J];simpa using xf (l:=jW W) (j:=j) (by rw[kS];omega)
 refine⟨y,hs,U 7 (by omega),λh7=> ?_,((ay.refl [] h).alloc _).trans Z (by simp)⟩;have V:(((jW W).take (pU W 7)).map UInt8.ofNat).length=pU W 7:=by simp[kS];omega
 have :=run_convert_bytes_back (P:= prog) y 31 9 5 ⟨h.heap.size,0,none⟩ 8 (((jW W).take (pU W 7)).map UInt8.ofNat) underlying31 underlying5 underlying9 λj J=>by
  rw[V] at J;have z:(⟨h.heap.size,0,none⟩:Addr).add j=⟨h.heap.size,j,none⟩:=by unfold Addr.add;split<;>simp_all
  rw[z,U j (by omega)];have G:=yg W j;simp[jW,Nat.mod_eq_of_lt G]
 rw[V] at this;exact this
theorem Iz (b n:Nat)(y:n<=7)(w:World):(Instr.sliceAt 203 (.pointer (some ⟨b,0,none⟩)) none (some (.int .i64 (n:Int))) none).run prog w= .ok (.slice (some ⟨b,0,none⟩) n 8) w:=by
 have h:n=0\/n=1\/n=2\/n=3\/n=4\/n=5\/n=6\/n=7:=by omega
 rcases h with rfl|rfl|rfl|rfl|rfl|rfl|rfl|rfl<;>(show Sem.run _ _ _=_;kernel_rfl)
theorem Va (W:Nat)(w:World):
  Calls prog 220 #[.int .u64 (W:Int)] w λe w'=>e= .returned (.tuple #[.string (sF ((jk W).getD [])),.bool (jk W).isSome])/\ay [] w w':=by
 have HB:=ar (BC W w);have ac:=yg W 7;go_enter func220,ntmps220;go_wp2_with fail;refine HB.out.mono ?_;rintro e w1 ⟨rfl,V⟩;obtain⟨w2,hm⟩:=U9 W w1;have c7:=hm.c7;have Z:=ar hm;have HK:=ar (V.trans hm.keeps (by simp));clear hm V HB;by_cases h7:pU W 7<=7
 ·have aa:=Z.out.conv h7
  have U:∀c∈(jW W).take (pU W 7),c<256:=Mt (Ms W) _;have z:=FU (sF ((jW W).take (pU W 7))) (by rw[Ew];simp[kS];omega) w2;rw[MB U] at z;unfold jq at z;have G:Hid (jk W=if gA ((jW W).take (pU W 7))=true/\ot ((jW W).take (pU W 7))=W then some ((jW W).take (pU W 7)) else none):=by
   show jk W=_;unfold jk;simp only[h7,true_and]
  generalize (jW W).take (pU W 7)=l at *;clear U;generalize pU W 7=n at *;have z:=ar z;have af:=λwz=>Iz w1.heap.size n h7 wz
  have ae:decide (7<(n:Int))=false:=by simp;omega
  cases hg:gA l
  ·rw[hg,aA (by simp)] at z
   rw[hg,aA (by simp)] at G;clear hg;go_wp2_with(first|(with_reducible refine gS 203 Z.out.st ?_)|(go_at_call 221;refine z.out.mono ?_;rintro e w3 ⟨rfl,y⟩;have J:=ar y;clear y));go_ret2;exact⟨by rw[G.out];rfl,HK.out.trans J.out (by simp)⟩
  ·rw[hg,aB rfl] at z
   rw[hg] at G;clear hg;by_cases hw:ot l=W
   ·rw[aB ⟨rfl,hw⟩] at G
    rw[hw] at z;clear hw;go_wp2_with(first|(with_reducible refine gS 203 Z.out.st ?_)|(go_at_call 221;refine z.out.mono ?_;rintro e w3 ⟨rfl,y⟩;have J:=ar y;clear y));go_ret2;exact⟨by rw[G.out];rfl,HK.out.trans J.out (by simp)⟩
   ·rw[aA (λh=>hw h.2)] at G
    have e1:((ot l:Int) != (W:Int))=true:=by simp;omega
    clear hw;go_wp2_with(first|(with_reducible refine gS 203 Z.out.st ?_)|(go_at_call 221;refine z.out.mono ?_;rintro e w3 ⟨rfl,y⟩;have J:=ar y;clear y));go_ret2;exact⟨by rw[G.out];rfl,HK.out.trans J.out (by simp)⟩
 ·have G:Hid (jk W=none):=by
   show jk W=none;unfold jk;rw[aA (λh=>h7 h.1)]
  generalize pU W 7=n at *;go_wp2_with(first|(with_reducible refine gS 203 Z.out.st ?_));go_ret2;exact⟨by rw[G.out];rfl,HK.out⟩
def jM (L:List Int) (n:Nat):List (ByteArray×Int):=(List.range n).map λk=>(sF ((jk (L.getD (k*2) 0).toNat).getD []),L.getD (k*2+1) 0)
def nD (L:List Int) (n:Nat):Prop:=∀k,k<n->(jk (L.getD (k*2) 0).toNat).isSome=true/\L.getD (k*2+1) 0<32
theorem iD (L:List Int)(n:Nat):(jM L n).length=n:=by simp[jM]
theorem yH (L:List Int)(n e:Nat)(h:e<n):dZ (jM L n) e=sF ((jk (L.getD (e*2) 0).toNat).getD [])/\iC (jM L n) e=L.getD (e*2+1) 0:=by
 have :(jM L n).getD e (ByteArray.empty,0)=(sF ((jk (L.getD (e*2) 0).toNat).getD []),L.getD (e*2+1) 0):=by
  rw[jM,aj,bC,bV h];rfl
 rw[dZ,iC,this];exact⟨rfl,rfl⟩
theorem uY (L:List Int)(n e:Nat)(h:e<n):(jM L n)[e]'(by rw[iD];exact h)=(sF ((jk (L.getD (e*2) 0).toNat).getD []),L.getD (e*2+1) 0):=by simp[jM]
theorem Tryz.info_entry:(prog.info? 87).map (λi=>(i.zero,i.size,i.bytes))=some (some (.agg #[.string ⟨#[]⟩,.int .i64 0]),2,24):=by kernel_rfl
theorem N0 (n:Nat)(V:n<=100000)(m:Int)(J:m=(n:Int))(w:World):(Instr.makeSlice 32 (.int .i64 m) (.int .i64 m)).run prog w=
  .ok (.slice (some ⟨w.heap.size,0,none⟩) n n) (w.alloc (.cells (madeCells #[.string ⟨#[]⟩,.int .i64 0] (n*2)) 87)):=by
 subst J;obtain⟨U,G,h,y,z⟩:=cr Tryz.info_entry;have :=run_make (P:= prog) w 32 87 U _ underlying32 G h .i64 .i64 (n:Int) (n:Int) (by omega) (by omega) (by rw[z];omega) (by omega);rw[y,aJ] at this;exact this
theorem zF (n:Nat):(madeCells #[Value.string ⟨#[]⟩,Value.int .i64 0] (n*2)).toList=dH (List.replicate n (ByteArray.empty,0)):=by
 apply bW;intro j;simp only[madeCells,Array.toList_map,Array.toList_range,bC];by_cases z:j<n*2
 ·rw[bV z]
  have y:=na (List.replicate n (ByteArray.empty,(0:Int))) (j/2) (by simp;omega);have G:dZ (List.replicate n (ByteArray.empty,(0:Int))) (j/2)=ByteArray.empty:=by
   simp[dZ,bb];split<;>rfl
  have J:iC (List.replicate n (ByteArray.empty,(0:Int))) (j/2)=0:=by
   simp[iC,bb];split<;>rfl
  rw[G,J] at y;rcases (show j%2=0\/j%2=1 by omega) with h|h
  ·rw[show j/2*2=j by omega] at y
   rw[y.1];simp[h];rfl
  ·rw[show j/2*2+1=j by omega] at y
   rw[y.2];simp[h]
 ·rw[aP (by simpa using z),aP (by rw[jb,bj];omega)];rfl
theorem N1 (w:World)(n:Nat)(y:n<=100000):eQ (w.alloc (.cells (madeCells #[.string ⟨#[]⟩,.int .i64 0] (n*2)) 87)) (.slice (some ⟨w.heap.size,0,none⟩) n n) w.heap.size 87 2 n (dH (List.replicate n (ByteArray.empty,0))):=by
 have h:(madeCells #[Value.string ⟨#[]⟩,Value.int .i64 0] (n*2)).size=n*2:=by rw[<-cV,zF,jb,bj]
 refine⟨by rw[jb,bj],_,n,rfl,aG _,by unfold maxLen;omega,λ_=>⟨rfl,_,bf.new _ _ _,h,?_⟩⟩;rw[zF,aW (by rw[jb,bj];omega)]
theorem KR (l:List (ByteArray×Int))(a:ByteArray)(x:Int):∀k,((dH l).set (k*2) (.string a)).set (k*2+1) (.int .i64 x)=dH (l.set k (a,x)):=by
 induction l with
 |nil=>intro k;rfl
 |cons p l ih=>
  intro k;have h:∀(p:ByteArray×Int) l,dH (p::l)= .string p.1:: .int .i64 p.2::dH l:=λ_ _=>rfl
  cases k with
  |zero=>rfl
  |succ k=>rw[h,ai,h,<-ih k,show(k+1)*2=k*2+1+1 by omega];rfl
theorem eQ.ent{l:List (ByteArray×Int)}(h:eQ w v g T 2 n (dH l))(k:Nat)(a:ByteArray)(x:Int):
  eQ ((w.setCell ⟨g,k*2,none⟩ (.string a)).setCell ⟨g,k*2+1,none⟩ (.int .i64 x)) v g T 2 n (dH (l.set k (a,x))):=by
 have :=(h.set (k*2) (.string a)).set (k*2+1) (.int .i64 x);rw[KR] at this;exact this
def mi (w:World) (L:List Int) (n:Nat) (e:Ending) (w':World):Prop:=
 (∃g,e= .returned (.tuple #[.slice (some ⟨g,0,none⟩) n n,.bool true])/\eQ w' (.slice (some ⟨g,0,none⟩) n n) g 87 2 n (dH (jM L n))/\w.heap.size<=g/\nD L n/\ay [] w w')\/
 (e= .returned (.tuple #[.slice none 0 0,.bool false])/\¬nD L n/\ay [] w w')
theorem sw{L:List Int}(h:Reads w v g (aO L))(hL:L.length<=1000)(n:Nat)(hn:n=L.length/2)(ae:∀k,0<=L.getD k 0/\L.getD k 0<18446744073709551616):
  Calls prog 210 #[v] w (mi w L n):=by
 obtain⟨a,cap,rfl,h1,h2,HC⟩:=gy h;have H:=ar h;have hq:((L.length:Int)).tdiv 2=(n:Int):=by rw[hn,Int.ofNat_tdiv];rfl
 have ai:=N0 n (by omega) (n:Int) rfl w;have aa:Hid (eQ (w.alloc (.cells (madeCells #[.string ⟨#[]⟩,.int .i64 0] (n*2)) 87)) (.slice (some ⟨w.heap.size,0,none⟩) n n) w.heap.size 87 2 n (dH (dn (ByteArray.empty,0) (jM L n) 0))):=by
  have :=N1 w n (by omega);rw[jA,iD];exact this
 have gH:Hid (ay [] w (w.alloc (.cells (madeCells #[.string ⟨#[]⟩,.int .i64 0] (n*2)) 87))):=(ay.refl _ _).alloc _;have pd:Hid (2*n<=L.length):=by show _<=_;omega
 have aB:n<=500:=by omega
 have sD:=ar ae;generalize hm:L.length=m at *;clear h ae hn hL hm;generalize madeCells #[Value.string ⟨#[]⟩,Value.int .i64 0] (n*2)=MC at *;go_enter func210,ntmps210;go_wp2_with fail;clear ai;go_loopg [15] n (λgh s15 wx=>∃k:Nat,k+gh=n/\s15= .int .i64 (k:Int)/\Hid (eQ wx (.slice (some ⟨w.heap.size,0,none⟩) n n) w.heap.size 87 2 n (dH (dn (ByteArray.empty,0) (jM L n) k))/\(∀j,j<k->(jk (L.getD (j*2) 0).toNat).isSome=true/\L.getD (j*2+1) 0<32)/\ay [] w wx))
 case atStart=>exact⟨0,by omega,rfl,aa.out,λj hj=>by omega,gH.out⟩
 case round=>
  clear aa gH;obtain⟨k,hk,rfl,HP⟩:=hrel;cases gk with
  |zero=>
   obtain rfl:k=n:=by omega
   have HM:Hid (mi w L k (.returned (.tuple #[.slice (some ⟨w.heap.size,0,none⟩) k k,.bool true])) wr):=by
    obtain⟨ho,hj,eW⟩:=HP.out;have e:=j5 (ByteArray.empty,(0:Int)) (jM L k);rw[iD] at e;rw[e] at ho;exact .inl ⟨_,rfl,ho,aG _,hj,eW⟩
   clear HP hk;go_wp2_with fail;go_ret2;exact HM.out
  |succ gk=>
   have G:k<n:=by omega
   have aA:(k:Int)<(n:Int):=by omega
   have eo:(0:Int)<=(k:Int):=by omega
   obtain⟨ho,J,eW⟩:=HP.out;have qz:=ar J;have iA:=ar eW;have aj:=ar ho;obtain⟨ac,off,rfl,c0⟩:=HC.out (2*k) (by have :=pd.out;omega);obtain⟨-,au,ak,c1⟩:=HC.out (2*k+1) (by have :=pd.out;omega);cases ak;have d0:=(aK (w:=w) (a:=⟨g,off+2*k,none⟩) (eW.block g ac (by simp))).trans c0;have Z:Hid (∀wx,ay [] wr wx->wx.cell? ⟨g,off+(2*k+1),none⟩=some (.int .u64 (L.getD (k*2+1) 0))):=λwx ah=>by
    have :=(aK (w:=w) (a:=⟨g,off+(2*k+1),none⟩) ((eW.trans' ah).block g ac (by simp))).trans c1;rw[this,Nat.mul_comm 2 k]
   have hW:=sD.out (2*k);have hI:=sD.out (k*2+1);obtain⟨W,U⟩:∃W:Nat,L.getD (2*k) 0=(W:Int):=⟨(L.getD (2*k) 0).toNat,by omega⟩;rw[U] at d0;have HW:Hid ((L.getD (k*2) 0).toNat=W):=by show _=_;rw[Nat.mul_comm k 2,U];omega
   have V:=ar (Va W wr);have EA:2*(k:Int)+1<(m:Int):=by have :=pd.out;omega
   have ah:2*(k:Int)<(m:Int):=by have :=pd.out;omega
   have xj:=ar (uY L n k G);rw[HW.out] at xj;have av:=hI.2;have ax:=hI.1;clear c0 c1 hW hI HP ho J eW U;generalize ag:L.getD (k*2+1) 0=ino at *;have N2:=ar ag;clear ag;generalize af:(jk W).isSome=Dy at *;have Ry:=ar af;clear af;generalize sF ((jk W).getD [])=nm at *;have jc:Hid (¬(Dy=true/\ino<32)->¬nD L n):=λh hh=>by
    have :=hh k G;rw[HW.out,Ry.out,N2.out] at this;exact h this
   cases Dy
   ·have HN:Hid (¬nD L n):=jc.out (by simp)
    go_wp2_with fail;refine V.out.mono ?_;rintro e w6 ⟨rfl,y⟩;have d1:=Z.out w6 y;have oF:=ar (iA.out.trans' y);clear y;go_wp2_with fail;go_ret2;exact .inr ⟨rfl,HN.out,oF.out⟩
   ·by_cases kg:32<=ino
    ·have HN:Hid (¬nD L n):=jc.out λh=>by have :=h.2;omega
     go_wp2_with fail;refine V.out.mono ?_;rintro e w6 ⟨rfl,y⟩;have d1:=Z.out w6 y;have oF:=ar (iA.out.trans' y);clear y;go_wp2_with fail;go_ret2;exact .inr ⟨rfl,HN.out,oF.out⟩
    ·have az:wrap64 ino=ino:=by unfold wrap64;omega
     have z:(dn (ByteArray.empty,(0:Int)) (jM L n) k).length=n:=by rw[jG _ _ _ (by rw[iD];omega),iD]
     go_wp2_with fail;refine V.out.mono ?_;rintro e w6 ⟨rfl,y⟩;have d1:=Z.out w6 y;have nM:=ar (iA.out.trans' y);have Yq:=aj.out.keepIf y (λ_=>by simp);obtain⟨-,-,hc,hf⟩:=Yq.cell (by omega);have e0:=(hc (k*2) (by omega)).trans (na (dn (ByteArray.empty,0) (jM L n) k) k (by rw[z];exact G)).1;have e1:=(hc (k*2+1) (by omega)).trans (na (dn (ByteArray.empty,0) (jM L n) k) k (by rw[z];exact G)).2;have f0:=hf (k*2);have f1:=hf (k*2+1);have HE:=ar (jB (ByteArray.empty,(0:Int)) (jM L n) k (by rw[iD];exact G) (nm,ino) xj.out);have HP:=ar (Yq.ent k nm ino);have F4:Hid (∀j,j<k+1->(jk (L.getD (j*2) 0).toNat).isSome=true/\L.getD (j*2+1) 0<32):=λj hj=>by
      by_cases e:j=k
      ·subst e
       rw[HW.out,Ry.out,N2.out];exact⟨rfl,by omega⟩
      ·exact qz.out j (by omega)
     clear y Yq hc hf z jc;generalize dZ (dn (ByteArray.empty,(0:Int)) (jM L n) k) k=o1 at *;generalize iC (dn (ByteArray.empty,(0:Int)) (jM L n) k) k=o2 at *;go_wp2_with fail;go_roundg gk;case measure=>omega
     case rel=>
      refine⟨k+1,by omega,by go_num,?_,F4.out,(nM.out.setCell (.inr (aG _)) _).setCell (.inr (aG _)) _⟩;rw[<-HE.out];exact HP.out
def KS (l:List Nat):List Value:=l.map λn:Nat=>Value.int .u64 (n:Int)
theorem IA (l:List Nat):(KS l).length=l.length:=by simp[KS]
theorem Rz{l:List Nat}(h:j<l.length):(KS l)[j]? =some (.int .u64 (l.getD j 0:Nat)):=by simp[KS,h]
theorem sx{β:Type}(f:β->Nat->β)(l:List Nat)(h:β)(k:Nat)(y:k<l.length):(l.take (k+1)).foldl f h=f ((l.take k).foldl f h) (l.getD k 0):=by
 rw[bz y,List.foldl_append];simp[y]
theorem Vb{c:Nat}(y:h<4294967296)(z:c<256):bits .xor .u32 (h:Int) (c:Int)*16777619%4294967296=((WT h c:Nat):Int):=by
 rw[u32_xor_nat h c y (by omega),WT];rfl
theorem RA{gb:Nat}{xs:List Nat}(h:Reads w v gb (KS xs)):
  Calls prog 124 #[v] w λe w'=>e= .returned (.int .u32 (Hh xs:Nat))/\ay [] w w':=by
 obtain⟨a,cap,rfl,h1,h2,h3⟩:=h;rw[IA] at *;unfold maxLen at h2;have H3:Hid (∀k,k<xs.length->gb<w.heap.size/\∃off,a=some ⟨gb,off,none⟩/\w.cell? ⟨gb,off+k,none⟩=some (.int .u64 (xs.getD k 0:Nat))):=λk hk=>by
  obtain⟨V,off,ho,G⟩:=h3 (by intro e;have :=b8 List.length e;rw[IA,b9] at this;omega);exact⟨V,off,ho,(G k hk).trans (Rz hk)⟩
 clear h3;go_enter func124,ntmps124;go_wp2_with fail;go_loopg [3,10] xs.length (λg s3 UT wx=>∃k:Nat,k+g=xs.length/\UT= .int .i64 (k:Int)/\s3= .int .u32 (((xs.take k).foldl Nt 2166136261:Nat):Int)/\Hid (ay [] w wx))
 case atStart=>exact⟨0,by omega,rfl,rfl,ay.refl _ _⟩
 case round=>
  obtain⟨k,hk,rfl,rfl,HK⟩:=hrel;cases gk with
  |zero=>
   obtain rfl:k=xs.length:=by omega
   have ac:¬(xs.length:Int)<(xs.length:Int):=by omega
   rw[aW (aG _)];go_wp2_with fail;go_ret;exact⟨rfl,HK.out⟩
  |succ g=>
   have ac:(k:Int)<(xs.length:Int):=by omega
   obtain⟨V,off,rfl,G⟩:=H3.out k (by omega);have aa:wr.cell? ⟨gb,off+k,none⟩=some (.int .u64 (xs.getD k 0:Nat)):=by
    rw[aK (w:=w) (HK.out.block gb V (by simp))];exact G
   have hh:=uU (xs.take k) 2166136261 (by decide);have HT:=ar (sx Nt xs 2166136261 k (by omega));generalize (xs.take k).foldl Nt 2166136261=h at *;generalize xs.getD k 0=x at *;have HB:=ar (BC x wr);clear G;go_wp2_with(go_at_call 148;refine HB.out.mono ?_;rintro e w2 ⟨rfl,z⟩;have fF:=ar (HK.out.trans z (by simp));clear z);obtain⟨wo,rfl⟩:∃wo:World,wo=wr:=⟨_,rfl⟩;clear aa;go_loopg [3,16] 8 (λZ s3 s16 wx=>∃y:Nat,y+Z=8/\s16= .int .i64 (y:Int)/\s3= .int .u32 ((((jW x).take y).foldl WT h:Nat):Int)/\wx=w2)
   case atStart=>exact⟨0,by omega,rfl,rfl,rfl⟩
   case round=>
    obtain⟨y,z,rfl,rfl,rfl⟩:=hrel;cases gk with
    |zero=>
     obtain rfl:y=8:=by omega
     rw[aW (by rw[kS];omega)];go_wp2_with fail;go_roundg g;case measure=>omega
     case rel=>exact⟨k+1,by omega,by go_num,by rw[HT.out];rfl,fF.out⟩
    |succ Z=>
     have N3:(y:Int)<8:=by omega
     have Ad:=zC (jW x) (kS x) y (by omega);have U:=ar (sx WT (jW x) h y (by rw[kS];omega));have W:=wT ((jW x).take y) h hh;have J:(jW x).getD y 0<256:=by rw[sV x y (by omega)];exact yg _ _
     generalize ((jW x).take y).foldl WT h=h' at *;generalize (jW x).getD y 0=c at *;have HF:=ar (Vb W J);go_wp2_with fail;go_roundg Z;case measure=>omega
     case rel=>
      refine⟨y+1,by omega,by go_num,?_,rfl⟩;rw[U.out,HF.out]
def oG (l:List Nat):Nat:=if gA l=true then Hh [ot l]%4 else 0
theorem N4 (s:ByteArray)(Z:s.size<=9223372036854775807)(w:World):Calls prog 230 #[.string s] w λe w'=>e= .returned (.int .i64 (oG (bl s):Nat))/\ay [] w w':=by
 have y:=FU s Z w;unfold jq at y;unfold oG;have y:=ar y;cases hg:gA (bl s)
 ·rw[hg,aA (by simp)] at y
  rw[aA (by simp)];clear hg;go_enter func230,ntmps230;go_wp2_with(go_at_call 221;refine y.out.mono ?_;rintro e z ⟨rfl,h⟩;have J:=ar h;clear h);go_ret;exact⟨rfl,J.out⟩
 ·rw[hg,aB rfl] at y
  rw[aB rfl];clear hg;generalize ot (bl s)=W at *;have hq:=FA [W];have U:=λ(z:World)=>RA (w:=z.alloc (.cells #[.int .u64 (W:Int)] 56)) (v:= .slice (some ⟨z.heap.size,0,none⟩) 1 1) (gb:=z.heap.size) (xs:=[W])
   (eQ.reads (T:= 56) (n:=1) ⟨rfl,_,1,rfl,aG _,by unfold maxLen;omega,λ_=>⟨rfl,_,bf.new _ _ _,rfl,rfl⟩⟩)
  have U:=ar U;generalize Hh [W]=q at *;go_enter func230,ntmps230;go_wp2_with(first|(go_at_call 221;refine y.out.mono ?_;rintro e z ⟨rfl,h⟩;have J:=ar h;clear h)|(go_at_call 124;refine(U.out _).mono ?_;rintro e w2 ⟨rfl,G⟩;have V:=ar G;clear G));go_ret;exact⟨rfl,(J.out.alloc _).trans V.out (by simp)⟩
def F5 (p:ByteArray×Int):Nat:=oG (bl p.1)
theorem KT (p:ByteArray×Int):F5 p<4:=by
 unfold F5 oG;split
 ·exact gi _ (by decide)
 ·decide
def dF (E:List (ByteArray×Int)) (b:Nat):List (ByteArray×Int):=E.filter λp=>F5 p==b
theorem N5 (E:List (ByteArray×Int))(p:ByteArray×Int)(b:Nat):dF (E++[p]) b=if b=F5 p then dF E b++[p] else dF E b:=by
 unfold dF;rw[fM];by_cases h:b=F5 p
 ·subst h;simp
 ·have :(F5 p==b)=false:=by simp;omega
  simp[this,h]
theorem jf (E:List (ByteArray×Int))(b:Nat):(dF E b).length<=E.length:=fH _ _
structure Four (w:World) (base:Nat) (S:Nat->Value) (F:Nat->List (ByteArray×Int)):Prop where
 row:∀b,b<4->w.ownsRow base 87 2 (S b) (F b).length (dH (F b))
 ne:∀b c,b<4->c<4->b≠c->∀g,(S b).ownBlock=some g->(S c).ownBlock≠some g
def mj (S:Nat->Value):Array Value:= #[S 0,S 1,S 2,S 3]
theorem EB (S:Nat->Value){q:Nat}(h:q<4):(mj S)[q]? =some (S q):=by
 rcases (show q=0\/q=1\/q=2\/q=3 by omega) with rfl|rfl|rfl|rfl<;>rfl
theorem N6 (S:Nat->Value){q:Nat}(h:q<4)(v:Value):(mj S).setIfInBounds q v=mj λb=>if b=q then v else S b:=by
 rcases (show q=0\/q=1\/q=2\/q=3 by omega) with rfl|rfl|rfl|rfl<;>rfl
theorem Four.keep(h:Four w y S F){l:List Nat}(J:ay l w w')(U:∀x,x∈l->x<y):Four w' y S F:=
 ⟨λb z=>ct (h.row b z) J λg V G=>by have :=cz (h.row b z) g V;have :=U g G;omega,h.ne⟩
theorem Four.nil(w:World)(h:Nat):Four w h (λ_=> .slice none 0 0) λ_=>[]:=
 ⟨λ_ _=>⟨rfl,.inl ⟨rfl,rfl⟩⟩,λ_ _ _ _ _ g y=>by cases y⟩
theorem vS{sz:Nat}{xs:List Value}(h:w.ownsRow y T sz v n xs):∀k,v.ownBlock=some k->k<w.heap.size:=by
 intro k z;obtain⟨-,V⟩:=h;rcases V with ⟨G,-⟩|⟨W,cap,J,G,-,U,-⟩
 ·rw[G] at z;cases z
 ·rw[G] at z
  cases z;exact(Array.getElem?_eq_some_iff.1 U).1
theorem Four.grow(h:Four w y S F){q:Nat}(hq:q<4){v:Value}{p:ByteArray×Int}{g:Nat}
  (W:w'.ownsRow y 87 2 v ((F q).length+1) (dH (F q++[p]))) (J:w.grownBy w' (S q).ownBlock) (hv:v.ownBlock=some g) (ac:(S q).ownBlock=some g\/g=w.heap.size):
  Four w' y (λb=>if b=q then v else S b) λb=>if b=q then F b++[p] else F b:=by
 refine⟨λb G=> ?_,λb c G hc af x hx=> ?_⟩
 ·show w'.ownsRow y _ 2 (if b=q then v else S b) (if b=q then F b++[p] else F b).length (dH (if b=q then F b++[p] else F b))
  by_cases e:b=q
  ·subst e
   rw[aB rfl,aB rfl,aD];exact W
  ·rw[aA e,aA e]
   obtain⟨h0,Z⟩:=h.row b G;refine⟨h0,?_⟩;rcases Z with ⟨e1,U⟩|⟨g2,cap,aa,e1,U,hh,e3⟩
   ·exact .inl ⟨e1,U⟩
   ·refine .inr ⟨g2,cap,aa,e1,U,?_,e3⟩
    rw[<-hh];refine J.block g2 (Array.getElem?_eq_some_iff.1 hh).1 λe4=> ?_
    exact h.ne b q G hq e g2 (by rw[e1];rfl) e4.symm
 ·have V:∀b,b<4->b≠q->(S b).ownBlock≠some g:=λb G ae hx=>by
   rcases ac with Z|Z
   ·exact h.ne b q G hq ae g hx Z
   ·have :=vS (h.row b G) g hx
    omega
  show(if c=q then v else S c).ownBlock≠some x;have z:(if b=q then v else S b).ownBlock=some x:=hx;by_cases e:b=q
  ·rw[aB e,hv] at z
   cases z;rw[aA (by omega)];exact V c hc (by omega)
  ·rw[aA e] at z
   by_cases U:c=q
   ·rw[aB U,hv]
    intro h3;cases h3;exact V b G e z
   ·rw[aA U]
    exact h.ne b c G hc af x z
theorem N7 (w:World):(zeroValue 265).run prog w= .ok (.agg (mj λ_=> .slice none 0 0)) w:=by kernel_rfl
theorem EC:(prog.info? 265).map (·.size)=some 4:=by kernel_rfl
theorem ED (h:bf w g (mj S) T):(loadVar 265 ⟨g,0,none⟩).run prog w= .ok (.agg (mj S)) w:=
 bE g 0 [S 0,S 1,S 2,S 3] underlying265 rfl EC λj y=>by
  rw[h.cell,aV];unfold mj;rw[aC]
theorem IB{J wa U:World}{Z4:Array Value}{q m G:Nat}{p:ByteArray×Int}(z:ay [] J wa)(af:wa.heap.size=J.heap.size+1)
  (hf:Four J (w.heap.size+2) S (dF (E.take j))) (W:bf J (w.heap.size+1) (mj S) 265) (V:bf J w.heap.size Z4 265) (eW:ay [] w J) (hq:q<4)
  (hm:(dF (E.take j) q).length=m) (Z:U.ownsRow (w.heap.size+2) 87 2 (.slice (some ⟨G,0,none⟩) (m+1) h) (m+1) (dH (dF (E.take j) q)++[.string p.1,.int .i64 p.2]))
  (y:wa.grownBy U (S q).ownBlock) (ac:(S q).ownBlock=some G\/G=J.heap.size+1) (ae:∀b,dF (E.take (j+1)) b=if b=q then dF (E.take j) b++[p] else dF (E.take j) b):
  ∃S',bf (U.setCell ⟨w.heap.size+1,q,none⟩ (.slice (some ⟨G,0,none⟩) (m+1) h)) (w.heap.size+1) (mj S') 265/\bf (U.setCell ⟨w.heap.size+1,q,none⟩ (.slice (some ⟨G,0,none⟩) (m+1) h)) w.heap.size Z4 265/\
   Four (U.setCell ⟨w.heap.size+1,q,none⟩ (.slice (some ⟨G,0,none⟩) (m+1) h)) (w.heap.size+2) S' (dF (E.take (j+1)))/\ay [] w (U.setCell ⟨w.heap.size+1,q,none⟩ (.slice (some ⟨G,0,none⟩) (m+1) h)):=by
 have ag:=hf.keep z (by simp);have xc:∀k,(S q).ownBlock=some k->w.heap.size+2<=k:=cz (hf.row q hq);have BP:=(y.block (w.heap.size+1) (W.keep z (by simp)).lt (λe=>by have :=xc _ e.symm;omega)).trans (W.keep z (by simp));have aa:=(y.block w.heap.size (V.keep z (by simp)).lt (λe=>by have :=xc _ e.symm;omega)).trans (V.keep z (by simp));have hF:=ag.grow (p:=p) (v:= .slice (some ⟨G,0,none⟩) (m+1) h) (g:=G) hq (by rw[hm,lN];exact Z) y rfl (by rw[af];exact ac);have hS:(λb=>if b=q then dF (E.take j) b++[p] else dF (E.take j) b)=dF (E.take (j+1)):=by
  funext b
  exact(ae b).symm
 rw[hS] at hF;refine⟨_,?_,bf.other aa (by simp) _,hF.keep ((ay.refl [w.heap.size+1] U).setCell (p:=⟨w.heap.size+1,q,none⟩) (.inl (by simp)) _) (by intro x hx;rw[au] at hx;omega),?_⟩
 ·have :=bf.set BP q (.slice (some ⟨G,0,none⟩) (m+1) h)
  rw[N6 S hq] at this;exact this
 ·exact((eW.trans' z).grown y (λk hk=>by have :=xc k hk;omega)).setCell (.inr (by show w.heap.size<=w.heap.size+1;omega)) _
def rE (w:World) (E:List (ByteArray×Int)) (e:Ending) (w':World):Prop:=
 ∃S:Nat->Value,e= .returned (.agg (mj S))/\ay [] w w'/\∀b,b<4->∃g,br w' (S b) g (dF E b)/\w.heap.size<=g
theorem EE (hE:br w v g E)(aW:E.length<=10000)(az:∀k,k<E.length->(dZ E k).size<=9223372036854775807):
  Calls prog 216 #[v] w (rE w E):=by
 obtain⟨a,cap,rfl,aY,aD,uL⟩:=hE.open;unfold maxLen at aD;obtain⟨i0,hi,aN,aV,aO⟩:=cr Tryz.info_entry;have aj:=N7;obtain⟨z,ae⟩:∃z,z=mj λ_=> .slice none 0 0:=⟨_,rfl⟩
 rw[<-ae] at aj;have ah:=ar ae;clear ae;have p9:Hid (bf ((w.alloc (.cells z 265)).alloc (.cells z 265)) (w.heap.size+1) z 265):=by
  have :=bf.new (w.alloc (.cells z 265)) z 265;have e:(w.alloc (.cells z 265)).heap.size=w.heap.size+1:=by simp
  rw[e] at this;exact this
 have oL:Hid (bf ((w.alloc (.cells z 265)).alloc (.cells z 265)) w.heap.size z 265):=(bf.new w _ _).alloc _;have gH:Hid (ay [] w ((w.alloc (.cells z 265)).alloc (.cells z 265))):=((ay.refl _ _).alloc _).alloc _;have HW:Hid (∀j,j<E.length->∀wx,Calls prog 230 #[.string (dZ E j)] wx λe w'=>e= .returned (.int .i64 (oG (bl (dZ E j)):Nat))/\ay [] wx w'):=λj hj wx=>N4 _ (az j hj) wx
 have Yp:Hid (∀j,j<E.length->E.take (j+1)=E.take j++[(dZ E j,iC E j)]):=λj hj=>BO E j hj
 have Dd:Hid (∀j b,(dF (E.take j) b).length<=E.length):=λj b=>cJ (jf _ _) (by rw[aI];omega)
 have Al:Hid (E.take E.length=E):=gY;clear hE az;generalize hn:E.length=n at *;clear hn;go_enter func216,ntmps216;go_wp2_with fail;clear aj;go_loopg [9] n (λgh s9 wx=>∃(j:Nat) (S:Nat->Value),j+gh=n/\s9= .int .i64 (j:Int)/\Hid (bf wx (w.heap.size+1) (mj S) 265/\bf wx w.heap.size z 265/\Four wx (w.heap.size+2) S (dF (E.take j))/\ay [] w wx))
 case atStart=>
  refine⟨0,λ_=> .slice none 0 0,by omega,rfl,?_,oL.out,?_,gH.out⟩
  ·rw[<-ah.out];exact p9.out
  ·have :dF (E.take 0)=λ_=>[]:=by funext b;rfl
   rw[this];exact Four.nil _ _
 case round=>
  clear oL p9 gH;obtain⟨j,S,hj,rfl,HP⟩:=hrel;cases gk with
  |zero=>
   obtain rfl:j=n:=by omega
   obtain⟨J,V,Z,eW⟩:=HP.out;have HL:=ar (ED J);have aH:z.size=4:=by rw[ah.out];rfl
   obtain⟨w2,hS,aA,ac⟩:=bo (P:= prog) (ty:= 265) (cs:=[S 0,S 1,S 2,S 3]) EC V (by rw[aH];rfl) (λu hu=>by
    simp only[aQ,aS,bD] at hu;rcases hu with rfl|rfl|rfl|rfl
    ·obtain⟨a,c,h,-⟩:=ic (Z.row 0 (by omega));rw[h];rfl
    ·obtain⟨a,c,h,-⟩:=ic (Z.row 1 (by omega));rw[h];rfl
    ·obtain⟨a,c,h,-⟩:=ic (Z.row 2 (by omega));rw[h];rfl
    ·obtain⟨a,c,h,-⟩:=ic (Z.row 3 (by omega));rw[h];rfl)
   have HS:Hid ((storeVar 265 ⟨w.heap.size,0,none⟩ (.agg (mj S))).run prog wr= .ok () w2):=hS;have pd:Hid ((loadVar 265 ⟨w.heap.size,0,none⟩).run prog w2= .ok (.agg (mj S)) w2):=ED (S:=S) aA;have HM:Hid (rE w E (.returned (.agg (mj S))) w2):=by
    refine⟨S,rfl,eW.trans ac (by simp),λb hb=> ?_⟩;have hr:=ct (Z.row b hb) ac (λg hg hm=>by
     have :=cz (Z.row b hb) g hg;rw[au] at hm;omega)
    rw[Al.out] at hr;obtain⟨g,ho,hg⟩:=eQ.of_row hr;by_cases h0:(dF E b).length=0
    ·exact⟨w.heap.size,(ho.ereads rfl).anyG h0 _,aG _⟩
    ·exact⟨g,ho.ereads rfl,by have :=(hg h0).1;omega⟩
   clear HP hj J V Z eW hS aA ac;go_wp2_with(first|(with_reducible refine gL 265 HL.out ?_)|(with_reducible refine gS 265 HS.out ?_));exact aL (dJ results216 rfl pd.out) rfl HM.out
  |succ gk=>
   have af:j<n:=by omega
   have bh:(j:Int)<(n:Int):=by omega
   have zz:(0:Int)<=(j:Int):=by omega
   obtain⟨ag,off,rfl,e0,e1⟩:=uL.out j af;obtain⟨J,V,Z,eW⟩:=HP.out;have p9:=ar J;have oL:=ar V;have HF:=ar Z;have iA:=ar eW;have c0:=(aK (w:=w) (a:=⟨g,off+j*2,none⟩) (eW.block g ag (by simp))).trans e0;have c1:=(aK (w:=w) (a:=⟨g,off+j*2+1,none⟩) (eW.block g ag (by simp))).trans e1;have aP:=ar (HW.out j af);have Kb:Hid (∀b,dF (E.take (j+1)) b=if b=F5 (dZ E j,iC E j) then dF (E.take j) b++[(dZ E j,iC E j)] else dF (E.take j) b):=λb=>by rw[Yp.out j af,N5]
   have Vc:oG (bl (dZ E j))<4:=KT (dZ E j,iC E j);have ak:F5 (dZ E j,iC E j)=oG (bl (dZ E j)):=rfl;have bb:w.heap.size+1<wr.heap.size:=J.lt;rw[ak] at Kb;clear e0 e1 HP J V Z eW ak;generalize dZ E j=nm at *;generalize iC E j=ino at *;generalize oG (bl nm)=q at *;go_wp2_with fail;refine(aP.out _).mono ?_;rintro e G ⟨rfl,aa⟩;have Qy:=(bf.new wr #[.string nm,.int .i64 ino] 87).keep aa (by simp);have Dz:Hid (ay [] wr G):=((ay.refl [] wr).alloc (.cells #[.string nm,.int .i64 ino] 87)).trans' aa;have aC:=ar (HF.out.keep Dz.out (by simp));have Vd:=ar (p9.out.keep Dz.out (by simp));have aT:=ar (oL.out.keep Dz.out (by simp));have bk:w.heap.size+2<=G.heap.size:=by have :=Dz.out.size;omega
   have d0:∀o,(G.alloc o).drew.cell? ⟨wr.heap.size,0,none⟩=some (.string nm):=λo=>by rw[(Qy.alloc o).drew.cell];rfl
   have d1:∀o,(G.alloc o).drew.cell? ⟨wr.heap.size,1,none⟩=some (.int .i64 ino):=λo=>by rw[(Qy.alloc o).drew.cell];rfl
   have bn:G.cell? ⟨wr.heap.size,0,none⟩=some (.string nm):=by rw[Qy.cell];rfl
   have ba:G.cell? ⟨wr.heap.size,1,none⟩=some (.int .i64 ino):=by rw[Qy.cell];rfl
   have W:=aC.out.row q Vc;obtain⟨aq,cq,aU,q1,q2⟩:=ic W;have aZ:G.cell? ⟨w.heap.size+1,q,none⟩=some (S q):=by rw[Vd.out.cell,EB S Vc]
   have aJ:∀o,(G.alloc o).drew.cell? ⟨w.heap.size+1,q,none⟩=some (S q):=λo=>by rw[(Vd.out.alloc o).drew.cell,EB S Vc]
   have aR:∀o,(G.alloc o).drew.frozen? ⟨w.heap.size+1,q,none⟩=false:=λo=>(Vd.out.alloc o).drew.frozen _
   have bj:(0:Int)<=(q:Int):=by omega
   have bc:(q:Int)<4:=by omega
   have bg:=Dd.out j q;have kH:=ar W;have aM:=ar (iA.out.trans' Dz.out);clear W aa Qy;generalize aB:S q=sq at *;subst aU;have ax:=ar aB;clear aB;generalize hm:(dF (E.take j) q).length=m at *;have HM:=ar hm;clear hm;unfold maxLen at q2;have av:(Value.slice aq m cq).ownBlock≠some (w.heap.size+1):=λe=>by have :=cz kH.out _ e;omega
   go_wp2_with fail
   go_region_law ((refine step_append_lies _ (by rfl) _ _ _ (by rfl) (w.heap.size+2) 87 i0 _ 2 24 underlying32 hi aN aV aO rfl (by omega) (.slice aq m cq) m _ (by rfl) ((kH.out.alloc _).drew) ⟨G.heap.size,0,none⟩ 1 1 [.string nm,.int .i64 ino] (by rfl) (by rfl) (iX G [_,_] _ _ rfl) (by simp[Value.oneCell']) (by omega) (by unfold maxLen;omega) (by omega) (by simp;omega) (G.heap.size+1) (by simp) ?_;intro Br aX w2 U y ai N3;have aF:=(y.cell_far ⟨w.heap.size+1,q,none⟩ (by simp;omega) (eu av)).trans (aJ _);have Uf:=(y.frozen_far ⟨w.heap.size+1,q,none⟩ (by simp;omega) (eu av)).trans (aR _)))
   all_goals
    have HN:=ar (IB (wa:=(G.alloc (.cells #[.string nm,.int .i64 ino] 87)).drew) (p:=(nm,ino)) (((ay.refl [] G).alloc _).drew) (by simp) aC.out Vd.out aT.out aM.out Vc HM.out U (by rw[ax.out];exact y) (by rw[ax.out];exact ai) Kb.out);clear U y ai N3 aF Uf;go_wp2_with fail;go_roundg gk;case measure=>omega
    case rel=>
     obtain⟨S',h1,h2,h3,h4⟩:=HN.out;exact⟨j+1,S',by omega,by go_num,h1,h2,h3,h4⟩
def aaO (n:bN):Prop:=n.E.length<=24/\n.S=n.E.length/\n.B=List.replicate 13 0
theorem IC (n:bN)(v:Value)(g:Nat)(hB:n.B.length=13)(w:World)(hE:br w v g n.E)(hN:∀k,k<n.E.length->(dZ n.E k).size<=9223372036854775807):
  Calls prog 139 #[.agg (aU n v)] w λe w'=>e= .returned (.bool (decide (mz n)))/\ay [] w w':=by
 obtain⟨a,cap,rfl,az,ag,uL⟩:=hE.open;have HN:=ar hN;unfold maxLen at ag;obtain⟨Z,hZ⟩:∃Z,Z=aU n (.slice a n.E.length cap):=⟨_,rfl⟩;have G:My Z n (.slice a n.E.length cap):=by rw[hZ];exact jL _ hB
 rw[<-hZ];have z:=bf.new w Z 111;have c3:(w.alloc (.cells Z 111)).cell? ⟨w.heap.size,3,none⟩=some (.int .i64 n.S):=by rw[z.cell];exact G.f3
 have aa:(w.alloc (.cells Z 111)).cell? ⟨w.heap.size,17,none⟩=some (.slice a n.E.length cap):=by rw[z.cell];exact G.f5
 have HK:Hid (ay [] w (w.alloc (.cells Z 111))):=(ay.refl [] w).alloc _;have nW:=ar z;have HL:=ar (eN (off:=4) z hB G.f4);have F7:Hid (∀V:World,bf V w.heap.size Z 111->V.cell? ⟨w.heap.size,17,none⟩=some (.slice a n.E.length cap)):=λV hb=>by rw[hb.cell];exact G.f5
 have Dv:=ar (λV=>KF (a:=n.B) (b:=List.replicate 13 0) hB rfl V);have Yl:=yC;have aj:=mH;have Yr:Hid (mz n↔aaO n/\∀k,k<n.E.length->Ah n.E k):=⟨λh=>⟨⟨h.1,h.2.1,h.2.2.1⟩,h.2.2.2⟩,λh=>⟨h.1.1,h.1.2.1,h.1.2.2,h.2⟩⟩;clear z G hZ hB hE hN;by_cases ax:24<n.E.length
 ·have y:Hid (decide (mz n)=false):=aM λh=>by have :=h.1;omega
  clear Yr HN uL;generalize n.E.length=m at *;have Kc:(24:Int)<(m:Int):=by omega
  go_enter func139,ntmps139;go_wp2_with fail;go_ret;exact⟨by rw[y.out];rfl,HK.out⟩
 ·by_cases hS:n.S=n.E.length
  ·obtain⟨t,ht⟩:∃t,decide (n.B=List.replicate 13 0)=t:=⟨_,rfl⟩
   rw[ht] at Dv;have au:=Dv.out;rw[hS] at c3;have Kc:¬(24:Int)<((n.E.length:Nat):Int):=by omega
   cases t
   ·have y:Hid (decide (mz n)=false):=aM λh=>of_decide_eq_false ht h.2.2.1
    clear Yr HN uL ht Dv F7;generalize (zs (List.replicate 13 0)).toArray=Z0 at *;generalize (zs n.B).toArray=ZB at *;generalize n.E.length=m at *;have ak:((m:Int) != (m:Int))=false:=by simp
    go_enter func139,ntmps139;go_wp2_with((with_reducible show wpList _ _ _ (⟨_,.load 109 (.tmp 18),_,_,_,_⟩::_) _ _);refine dC (by simp[Region.wanted,yielded]) 109 (.tmp 18) rfl _ rfl _ HL.out ?_);go_ret;exact⟨by rw[y.out];rfl,HK.out⟩
   ·have HA:Hid (aaO n):=⟨by omega,hS,of_decide_eq_true ht⟩
    clear ht Dv;generalize (zs (List.replicate 13 0)).toArray=Z0 at *;generalize (zs n.B).toArray=ZB at *;generalize hm:n.E.length=m at *;go_enter func139,ntmps139;go_wp2_with((with_reducible show wpList _ _ _ (⟨_,.load 109 (.tmp 18),_,_,_,_⟩::_) _ _);refine dC (by simp[Region.wanted,yielded]) 109 (.tmp 18) rfl _ rfl _ HL.out ?_);clear aj au HL c3 aa;go_loopg [26] m (λgh s26 V=>∃k:Nat,k+gh=m/\s26= .int .i64 (k:Int)/\Hid ((∀i,i<k->Ah n.E i)/\ay [] (w.alloc (.cells Z 111)) V))
    case atStart=>exact⟨0,by omega,rfl,by simp,ay.refl _ _⟩
    case round=>
     obtain⟨k,hk,rfl,HR⟩:=hrel;cases gk with
     |zero=>
      obtain rfl:k=m:=by omega
      have HT:Hid (decide (mz n)=true):=bh (Yr.out.2 ⟨HA.out,HR.out.1⟩);have iA:=ar (HK.out.trans' HR.out.2);clear HR hk Yr F7 hm;go_wp2_with fail;go_ret;exact⟨by rw[HT.out];rfl,iA.out⟩
     |succ gg=>
      have EA:k<m:=by omega
      have aJ:(k:Int)<(m:Int):=by omega
      have eo:(0:Int)<=(k:Int):=by omega
      obtain⟨hg,off,rfl,e0,e1⟩:=uL.out k EA;have yI:=HK.out.trans' HR.out.2;have c0:wr.cell? ⟨g,off+k*2,none⟩=some (.string (dZ n.E k)):=(aK (w:=w) (a:=⟨g,off+k*2,none⟩) (yI.block g hg (by simp))).trans e0;have c1:wr.cell? ⟨g,off+k*2+1,none⟩=some (.int .i64 (iC n.E k)):=(aK (w:=w) (a:=⟨g,off+k*2+1,none⟩) (yI.block g hg (by simp))).trans e1;have HG:=ar (λV=>FT (dZ n.E k) (HN.out k EA) V);have J:Hid (Ah n.E k↔gA (bl (dZ n.E k))=true/\(0<=iC n.E k/\iC n.E k<=31)/\(0<k->leB (dZ n.E k) (dZ n.E (k-1))=false)):=Iff.rfl;have U:Hid (¬Ah n.E k->decide (mz n)=false):=λh=>aM λhd=>h ((Yr.out.1 hd).2 k EA)
      have qp:=ar yI;have qz:=ar HR.out.1;have af:=ar HR.out.2;have aa:=F7.out wr (nW.out.keep HR.out.2 (by simp));have Yt:Hid (∀q,k=q+1->wr.cell? ⟨g,off+q*2,none⟩=some (.string (dZ n.E q))):=λq hq=>by
       obtain⟨-,aA,av,f0,-⟩:=uL.out q (by omega);cases av;exact(aK (w:=w) (a:=⟨g,off+q*2,none⟩) (yI.block g hg (by simp))).trans f0
      clear yI e0 e1 uL Yr HR F7;generalize UE:dZ n.E k=nm at *;generalize iC n.E k=ino at *;cases hgd:gA (bl nm)
      ·have y:Hid (decide (mz n)=false):=U.out λh=>by have :=(J.out.1 h).1;rw[hgd] at this;cases this
       rw[hgd] at HG;clear J U hgd hk Yt hm;go_wp2_with fail;refine(HG.out _).mono ?_;rintro e w' ⟨rfl,rfl⟩;go_wp2_with fail;go_ret;exact⟨by rw[y.out];rfl,qp.out.alloc _⟩
      ·rw[hgd] at HG
       by_cases aC:ino<0
       ·have y:Hid (decide (mz n)=false):=U.out λh=>by have :=(J.out.1 h).2.1.1;omega
        clear J U hgd hk Yt hm;go_wp2_with fail;refine(HG.out _).mono ?_;rintro e w' ⟨rfl,rfl⟩;go_wp2_with fail;go_ret;exact⟨by rw[y.out];rfl,qp.out.alloc _⟩
       ·by_cases aB:32<=ino
        ·have y:Hid (decide (mz n)=false):=U.out λh=>by have :=(J.out.1 h).2.1.2;omega
         clear J U hgd hk Yt hm;go_wp2_with fail;refine(HG.out _).mono ?_;rintro e w' ⟨rfl,rfl⟩;go_wp2_with fail;go_ret;exact⟨by rw[y.out];rfl,qp.out.alloc _⟩
        ·by_cases ae:k=0
         ·have ac:Hid (∀i,i<k+1->Ah n.E i):=λi hi=>by
           obtain rfl:i=k:=by omega
           exact J.out.2 ⟨hgd,⟨by omega,by omega⟩,λh=>absurd h (by omega)⟩
          have aI:¬(0:Int)<(k:Int):=by omega
          have ah:decide (0<k)=false:=aM (by omega);clear J U hgd Yt hm qz ae;go_wp2_with fail;refine(HG.out _).mono ?_;rintro e w' ⟨rfl,rfl⟩;go_wp2_with fail
          go_quiet (fail)
          go_wp2_with fail;go_roundg gg;case measure=>omega
          case rel=>exact⟨k+1,by omega,by go_num,ac.out,(af.out.alloc _).drewN _⟩
         ·obtain⟨q,hq⟩:∃q,k=q+1:=⟨k-1,by omega⟩
          have Yu:=Yt.out q hq;have aF:∀o,(wr.alloc o).cell? ⟨g,off+q*2,none⟩=some (.string (dZ n.E q)):=λo=>by
           rw[World.cell?_alloc_some _ _ _ (by rw[Yu];rfl)];exact Yu
          have aG:∀o,(wr.alloc o).cell? ⟨w.heap.size,17,none⟩=some (.slice (some ⟨g,off,none⟩) m cap):=λo=>by
           rw[World.cell?_alloc_some _ _ _ (by rw[aa];rfl)];exact aa
          clear Yu;have eW:(0:Int)<(k:Int):=by omega
          have ah:decide (0<k)=true:=bh (by omega);have aH:(k:Int)-1=(q:Int):=by omega
          have aD:(q:Int)<(m:Int):=by omega
          have aL:(0:Int)<=(q:Int):=by omega
          have W:∀b,leB nm (dZ n.E q)=b->(Op.bytesLess nm.toList (dZ n.E q).toList||(nm.toList==(dZ n.E q).toList))=b:=λb h=>h
          have Ve:Hid (Ah n.E k↔leB nm (dZ n.E q)=false):=by
           show _↔_;rw[J.out,show k-1=q by omega];exact⟨λh=>h.2.2 (by omega),λh=>⟨hgd,⟨by omega,by omega⟩,λ_=>h⟩⟩
          generalize dZ n.E q=pm at *;cases hle:leB nm pm
          ·have ac:Hid (∀i,i<k+1->Ah n.E i):=λi hi=>by
            by_cases e:i=k
            ·subst e;exact Ve.out.2 hle
            ·exact qz.out i (by omega)
           have ai:=W _ hle;clear J Ve U hgd Yt hm qz ae W hle hq;go_wp2_with fail;refine(HG.out _).mono ?_;rintro e w' ⟨rfl,rfl⟩;go_wp2_with fail
           go_quiet (fail)
           go_wp2_with fail;go_roundg gg;case measure=>omega
           case rel=>exact⟨k+1,by omega,by go_num,ac.out,(af.out.alloc _).drewN _⟩
          ·have y:Hid (decide (mz n)=false):=U.out λh=>by
            have :=Ve.out.1 h;rw[hle] at this;cases this
           have ai:=W _ hle;clear J Ve U hgd Yt hm qz ae W hle hq hk;go_wp2_with fail;refine(HG.out _).mono ?_;rintro e w' ⟨rfl,rfl⟩;go_wp2_with fail
           go_quiet (fail)
           go_wp2_with fail;go_ret;exact⟨by rw[y.out];rfl,(qp.out.alloc _).drewN _⟩
  ·have y:Hid (decide (mz n)=false):=aM λh=>hS h.2.1
   have e2:(n.S != ((n.E.length:Nat):Int))=true:=bne_iff_ne.2 hS;have Kc:¬(24:Int)<((n.E.length:Nat):Int):=by omega
   clear Yr HN uL;generalize n.S=s at *;generalize n.E.length=m at *;go_enter func139,ntmps139;go_wp2_with fail;go_ret;exact⟨by rw[y.out];rfl,HK.out⟩
theorem lO (n:bN)(v:Value)(g:Nat)(hB:n.B.length=13)(w:World)(hE:br w v g n.E)(hN:∀k,k<n.E.length->(dZ n.E k).size<=9223372036854775807):
  Calls prog 96 #[.agg (aU n v)] w λe w'=>e= .returned (.bool (decide (bR n)))/\ay [] w w':=by
 have aa:Hid (∀G,Calls prog 138 #[.agg (aU n v)] G λe w'=>e= .returned (.bool (decide (p8 n)))/\ay [] G w'):=λG=>by
  obtain⟨a,cap,hv,-⟩:=hE;subst hv;exact F3 n a cap hB G
 have ac:Hid (∀G,ay [] w G->Calls prog 139 #[.agg (aU n v)] G λe w'=>e= .returned (.bool (decide (mz n)))/\ay [] G w'):=λG hk=>
  IC n v g hB G (hE.keep hk (by simp)) hN
 obtain⟨Z,hZ⟩:∃Z,Z=aU n v:=⟨_,rfl⟩;have J:My Z n v:=by rw[hZ];exact jL _ hB
 rw[<-hZ] at aa ac ⊢;have z:=bf.new w Z 111;have c0:(w.alloc (.cells Z 111)).cell? ⟨w.heap.size,0,none⟩=some (.int .i64 n.F):=by rw[z.cell];exact J.f0
 have c1:(w.alloc (.cells Z 111)).cell? ⟨w.heap.size,1,none⟩=some (.int .i64 n.K):=by rw[z.cell];exact J.f1
 have c2:(w.alloc (.cells Z 111)).cell? ⟨w.heap.size,2,none⟩=some (.int .i64 n.L):=by rw[z.cell];exact J.f2
 have W:Hid (ay [] w (w.alloc (.cells Z 111))):=(ay.refl [] w).alloc _;have HL:Hid ((loadVar 111 ⟨w.heap.size,0,none⟩).run prog (w.alloc (.cells Z 111))= .ok (.agg Z) (w.alloc (.cells Z 111))):=by
  have :=cC (n:=n) (v:=v) (by rw[<-hZ];exact z) hB;rw[<-hZ] at this;exact this
 clear z J hZ hE hN hB;by_cases hF:n.F=1\/n.F=2
 ·rcases hF with hF|hF
  all_goals
   rw[hF] at c0;by_cases ae:n.L<0
   ·have V:Hid (decide (bR n)=false):=aM λh=>by have :=h.2.1.1;omega
    generalize n.L=l at *;go_enter func96,ntmps96;go_wp2_with fail;go_ret;exact⟨by rw[V.out];rfl,W.out⟩
   ·by_cases af:65535<n.L
    ·have V:Hid (decide (bR n)=false):=aM λh=>by have :=h.2.1.2;omega
     generalize n.L=l at *;go_enter func96,ntmps96;go_wp2_with fail;go_ret;exact⟨by rw[V.out];rfl,W.out⟩
    ·by_cases MJ:n.K=1
     ·have HQ:Hid (decide (bR n)=decide (p8 n)):=decide_eq_decide.2 ⟨λh=>by
       rcases h.2.2 with h|h
       ·exact h.2
       ·omega,λh=>⟨by omega,⟨by omega,by omega⟩,.inl ⟨MJ,h⟩⟩⟩
      rw[MJ] at c1;generalize decide (p8 n)=q at *;generalize n.L=l at *;go_enter func96,ntmps96;go_wp2_with(with_reducible refine gL 111 HL.out ?_);refine(aa.out _).mono ?_;rintro e w1 ⟨rfl,y⟩;have jl:=ar (W.out.trans' y);clear y;go_wp2_with fail;go_ret;exact⟨by rw[HQ.out];rfl,jl.out⟩
     ·by_cases U:n.K=2
      ·have HQ:Hid (decide (bR n)=decide (mz n)):=decide_eq_decide.2 ⟨λh=>by
        rcases h.2.2 with h|h
        ·omega
        ·exact h.2,λh=>⟨by omega,⟨by omega,by omega⟩,.inr ⟨U,h⟩⟩⟩
       rw[U] at c1;generalize decide (mz n)=q at *;generalize n.L=l at *;go_enter func96,ntmps96;go_wp2_with(with_reducible refine gL 111 HL.out ?_);refine(ac.out _ W.out).mono ?_;rintro e w1 ⟨rfl,y⟩;have jl:=ar (W.out.trans' y);clear y;go_wp2_with fail;go_ret;exact⟨by rw[HQ.out];rfl,jl.out⟩
      ·have V:Hid (decide (bR n)=false):=aM λh=>by
        rcases h.2.2 with h|h
        ·exact MJ h.1
        ·exact U h.1
       have k1:(n.K==1)=false:=cj.2 MJ;have k2:(n.K==2)=false:=cj.2 U;generalize n.L=l at *;generalize n.K=kk at *;go_enter func96,ntmps96;go_wp2_with fail;go_ret;exact⟨by rw[V.out];rfl,W.out⟩
 ·have V:Hid (decide (bR n)=false):=aM λh=>hF h.1
  have f1:(n.F != 1)=true:=bne_iff_ne.2 λh=>hF (.inl h)
  have f2:(n.F != 2)=true:=bne_iff_ne.2 λh=>hF (.inr h)
  clear hF;generalize n.F=f at *;go_enter func96,ntmps96;go_wp2_with fail;go_ret;exact⟨by rw[V.out];rfl,W.out⟩
end Go.Proofs.YtepbpdipenedhaaGreatDoor
