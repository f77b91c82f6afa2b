/- Lemmas. -/
import Derived.Test.YtcecbdeamjigiaaGreatDoorChecked
import Derived.Lib.BufferWrite
import Derived.Laws.IdiomStrings
import Derived.Test.YtcecbdeamjigiaaGreatDoorH02
import Derived.RangeFuncNested
import Derived.RangeFuncBound
import Derived.Shelf.Abstract
import Derived.Shelf.RegionOpen
import Derived.OwnWalkIn
import Derived.TacticsInMore
import Derived.LoopNIn
import Derived.LoopIn
set_option maxHeartbeats 2000000
set_option maxRecDepth 100000
namespace Go.Proofs.YtcecbdeamjigiaaGreatDoor
open Go.RowKit
variable{a l:List Int}{T b c f g j k off t:Nat}{E:List (ByteArray×Int)}{w:World}{v:Value}{P:Program}{Z tmps:Array Value}{s:ByteArray}{y:Array Oper}{o:Oper}{Q:Exit->Act->World->Prop}
def zs (l:List Int):List Value:=l.map (Value.int .i64)
theorem dJ (l:List Int):(zs l).length=l.length:=by simp[zs]
theorem eR (h:j<l.length):(zs l)[j]? =some (.int .i64 (l.getD j 0)):=by simp[zs,h]
theorem KB (l:List Int)(j:Nat)(x:Int):(zs l).set j (.int .i64 x)=zs (l.set j x):=by simp[zs,List.map_set]
theorem x9 (xs h:List Int):zs (xs++h)=zs xs++zs h:=by simp[zs]
theorem jY (l:List Int):∀u∈zs l,u.oneCell'=true:=by
 intro u h;simp only[zs,bB] at h;obtain⟨x,-,rfl⟩:=h;rfl
def dK (E:List (ByteArray×Int)):List Value:=E.flatMap λp=>[.string p.1,.int .i64 p.2]
def eh (E:List (ByteArray×Int)) (j:Nat):ByteArray:=(E.getD j (ByteArray.empty,0)).1
def gT (E:List (ByteArray×Int)) (j:Nat):Int:=(E.getD j (ByteArray.empty,0)).2
theorem Hp (p:ByteArray×Int)(E:List (ByteArray×Int))(j:Nat):eh (p::E) (j+1)=eh E j:=rfl
theorem Hq (p:ByteArray×Int)(E:List (ByteArray×Int))(j:Nat):gT (p::E) (j+1)=gT E j:=rfl
theorem Ru (h:k<E.length):(eh E k,gT E k)∈E:=by
 have :E.getD k (ByteArray.empty,0)=E[k]:=by simp[h]
 rw[eh,gT,this];exact bp h
theorem Rv{F:List (ByteArray×Int)}(U:E.length=F.length)(h:∀k,k<E.length->eh E k=eh F k/\gT E k=gT F k):E=F:=by
 apply cr U;intro k y G;have :=h k y;have J:E.getD k (ByteArray.empty,0)=E[k]:=by simp[y]
 have z:F.getD k (ByteArray.empty,0)=F[k]:=by simp[G]
 rw[eh,eh,gT,gT,J,z] at this;exact Prod.ext this.1 this.2
theorem iE (E:List (ByteArray×Int)):(dK E).length=E.length*2:=by
 induction E with
 |nil=>rfl
 |cons p E ih=>simp[dK] at ih ⊢;omega
theorem kU (E F:List (ByteArray×Int)):dK (E++F)=dK E++dK F:=by simp[dK]
theorem mo (E:List (ByteArray×Int)):∀k,k<E.length->(dK E)[k*2]? =some (.string (eh E k))/\(dK E)[k*2+1]? =some (.int .i64 (gT E k)):=by
 induction E with
 |nil=>intro k h;simp at h
 |cons p E ih=>
  intro k h;have y:dK (p::E)= .string p.1:: .int .i64 p.2::dK E:=rfl;cases k with
  |zero=>rw[y];exact⟨rfl,rfl⟩
  |succ k=>
   have :=ih k (by simpa using h);rw[y,show(k+1)*2=k*2+1+1 by omega,Hp,Hq];simp only[dS];exact this
theorem ra (E:List (ByteArray×Int)):∀u∈dK E,u.oneCell'=true:=by
 intro u h;simp only[dK,List.mem_flatMap,aS,aV,bL] at h;obtain⟨p,-,rfl|rfl⟩:=h<;>rfl
def bz (w:World) (v:Value) (g:Nat) (E:List (ByteArray×Int)):Prop:=
 ∃a cap,v= .slice a E.length cap/\E.length<=cap/\cap<=maxLen/\(E.length≠0->g<w.heap.size/\∃off,a=some ⟨g,off,none⟩/\
  ∀j,j<E.length->w.cell? ⟨g,off+j*2,none⟩=some (.string (eh E j))/\w.cell? ⟨g,off+j*2+1,none⟩=some (.int .i64 (gT E j)))
theorem bz.keep{w':World}(h:bz w v g E){l:List Nat}(J:ay l w w')(hg:E.length≠0->g∉l):bz w' v g E:=by
 obtain⟨a,cap,h1,Z,h3,h4⟩:=h;refine⟨a,cap,h1,Z,h3,λU=> ?_⟩;obtain⟨y,off,W,G⟩:=h4 U;refine⟨bC y J.size,off,W,λj V=> ?_⟩;have z:=J.block g y (hg U);exact⟨(aL (w:=w) (w':=w') (a:=⟨g,off+j*2,none⟩) z).trans (G j V).1,(aL (w:=w) (w':=w') (a:=⟨g,off+j*2+1,none⟩) z).trans (G j V).2⟩
theorem bz.open(h:bz w v g E):∃a cap,v= .slice a E.length cap/\E.length<=cap/\cap<=maxLen/\
  Hid (∀k,k<E.length->g<w.heap.size/\∃off,a=some ⟨g,off,none⟩/\w.cell? ⟨g,off+k*2,none⟩=some (.string (eh E k))/\w.cell? ⟨g,off+k*2+1,none⟩=some (.int .i64 (gT E k))):=by
 obtain⟨a,cap,J,G,Z,W⟩:=h;refine⟨a,cap,J,G,Z,λk V=> ?_⟩;obtain⟨y,off,U,z⟩:=W (by omega);exact⟨y,off,U,z k V⟩
theorem bz.apart(h:bz w v g E){l:List Nat}(G:∀x,x∈l->w.heap.size<=x):E.length≠0->g∉l:=λy J=>by
 obtain⟨a,cap,V,U,W,z⟩:=h;have :=(z y).1;have :=G g J;omega
theorem bz.nil(w:World)(g:Nat):bz w (.slice none 0 0) g []:=⟨none,0,rfl,by simp,by simp[maxLen],λh=>absurd rfl h⟩
theorem bz.anyG(h:bz w v g E)(y:E.length=0)(J:Nat):bz w v J E:=by
 obtain⟨a,cap,G,z,U,V⟩:=h;exact⟨a,cap,G,z,U,λh=>absurd y h⟩
theorem eE.ereads{n:Nat}(h:eE w v g T 2 n (dK E))(V:n=E.length):bz w v g E:=by
 subst V;obtain⟨a,cap,J,Z,W⟩:=h.val;refine⟨a,cap,J,Z,W,λU=> ?_⟩;obtain⟨hg,⟨G,y,-,-⟩,z,-⟩:=h.cell U;rw[J] at y;cases y;refine⟨hg,0,rfl,λj hj=> ?_⟩;rw[aX,z (j*2) (by omega),z (j*2+1) (by omega)];exact mo E j hj
structure bM where
 F:Int
 K:Int
 L:Int
 S:Int
 B:List Int
 E:List (ByteArray×Int)
def lL (n:bM) (v:Value):List Value:= .int .i64 n.F:: .int .i64 n.K:: .int .i64 n.L:: .int .i64 n.S::(zs n.B++[v])
def aU (n:bM) (v:Value):Array Value:=(lL n v).toArray
theorem fC (n:bM)(v:Value):(lL n v).length=n.B.length+5:=by simp[lL,dJ]
theorem ya{n:bM}(v:Value){k:Nat}(h:k<n.B.length):(aU n v)[4+k]? =some (.int .i64 (n.B.getD k 0)):=by
 rw[aU,aC,lL,show 4+k=k+1+1+1+1 by omega];simp only[dS];rw[aW (by rw[dJ];exact h),eR h]
theorem vk{n:bM}(v:Value)(h:n.B.length=13):(aU n v)[17]? =some v:=by
 rw[aU,aC,lL];simp only[dS];rw[aM (by rw[dJ,h];omega),dJ,h];rfl
structure Mv (Z:Array Value) (n:bM) (v:Value):Prop where
 f0:Z[0]? =some (.int .i64 n.F)
 f1:Z[1]? =some (.int .i64 n.K)
 f2:Z[2]? =some (.int .i64 n.L)
 f3:Z[3]? =some (.int .i64 n.S)
 f4:∀k,k<13->Z[4+k]? =some (.int .i64 (n.B.getD k 0))
 f5:Z[17]? =some v
 len:n.B.length=13
 eq:Z=aU n v
theorem jo{n:bM}(v:Value)(h:n.B.length=13):Mv (aU n v) n v:=
 ⟨rfl,rfl,rfl,rfl,λ_ y=>ya v (by omega),vk v h,h,rfl⟩
theorem zk{m:List Int}(G:l.length=m.length)(h:∀k,k<l.length->l.getD k 0=m.getD k 0):l=m:=by
 apply cr G;intro k y z;have :=h k y;simpa[aj,y,z] using this
theorem mq (w:World)(d:Nat)(t e:TypeId)(len:Nat)(k k':IntKind)(a b:List Int)(ht:P.underlying t=some (.array len e))(he:P.underlying e=some (.int k'))(Z:(P.info? e).map (·.size)=some 1)
  (ha:a.length=len) (hb:b.length=len):
  (Op.equalIn (d+2) t (.agg (a.map (Value.int k)).toArray) (.agg (b.map (Value.int k)).toArray)).run P w= .ok (decide (a=b)) w:=by
 have Xr:∀(l:List Int) (i:Nat) (z:World),i<l.length->(part e (l.map (Value.int k)).toArray i).run P z= .ok (.int k (l.getD i 0)) z:=by
  intro l i z hi;have J:(isAgg e).run P z= .ok false z:=by
   unfold isAgg;rw[bV,cY he z];rfl
  unfold part;rw[bV,J];simp[hi]
 have ae:∀z:World,(sizeOf e).run P z= .ok 1 z:=by
  intro z;cases hq:P.info? e with
  |none=>simp[hq] at Z
  |some i=>simp[sizeOf,typeInfo,hq] at Z ⊢;exact Z
 have aa:∀(x y:Int) (z:World),(Op.equalIn (d+1) e (.int k x) (.int k y)).run P z= .ok (x==y) z:=λx y z=>run_equalIn_int z d e k k' x y he
 rw[Op.equalIn];simp only[bV,cY ht,b9,ae,Std.Legacy.Range.forIn_eq_forIn_range',Std.Legacy.Range.size,Nat.sub_zero,fw,Nat.div_one,jT];have W:∀(m s:Nat),s+m=len->Sem.run P (forIn (List.range' s m) ((none:Option Bool),()) λi _=>do
      let x <-part e (List.map (Value.int k) a).toArray i
      let y <-part e (List.map (Value.int k) b).toArray i
      let r <-Op.equalIn (d+1) e x y
      if (!r)=true then pure (ForInStep.done (some false,())) else pure (ForInStep.yield (none,()))) w= .ok (if a.drop s=b.drop s then none else some false,()) w:=by
  intro m;induction m with
  |zero=>
   intro s hs;rw[dm (by omega),dm (by omega),aB rfl];simp
  |succ m ih=>
   intro s hs;have V:s<a.length:=by omega
   have U:s<b.length:=by omega
   rw[List.range'_succ,List.forIn_cons];simp only[bV,Xr a s w V,Xr b s w U,b9,aa];rw[eH V,eH U];have g1:a.getD s 0=a[s]:=by simp[V]
   have g2:b.getD s 0=b[s]:=by simp[U]
   by_cases G:a[s]=b[s]
   ·rw[g1,g2,G]
    have :=ih (s+1) (by omega);simp only[BEq.rfl,Bool.not_true,Bool.false_eq_true,if_false,eM,b9,List.cons.injEq,true_and];exact this
   ·have ac:(a[s]==b[s])=false:=by simpa using G
    rw[g1,g2,ac];simp;intro hd;rw[eH V,eH U] at hd;exact absurd (List.cons.inj hd).1 G
 rw[W len 0 (by omega)];by_cases h:a=b
 ·simp[h]
 ·simp[h]
theorem jx (t e:TypeId)(len:Nat)(V:IntKind)(Z:Array Value)(k:Nat)(v:Value)(ht:P.underlying t=some (.array len e))(U:P.underlying e=some (.int V))(J:(P.info? e).map (·.size)=some 1)
  (hk:k<len) (hv:Z[k]? =some v) (w:World):(Instr.index t (.agg Z) (.int .i64 (k:Int))).run P w= .ok v w:=by
 have z:∀G:World,(sizeOf e).run P G= .ok 1 G:=by
  intro G;cases hq:P.info? e with
  |none=>simp[hq] at J
  |some i=>simp[sizeOf,typeInfo,hq] at J ⊢;exact J
 have y:(isAgg e).run P w= .ok false w:=by
  unfold isAgg;rw[bV,cY U w];rfl
 have W:(0:Int)<=(k:Int)/\(k:Int)<(len:Int):=by omega
 unfold Instr.index;simp[cY ht,W,z,part,y,hv,asIntOf];intro h;omega
theorem jf:(Tryz.prog.info? 108).map (·.size)=some 13:=by kernel_rfl
theorem Mw:(Tryz.prog.info? 248).map (·.size)=some 8:=by kernel_rfl
theorem gH:(Tryz.prog.info? 188).map (·.size)=some 8:=by kernel_rfl
theorem Rw:(Tryz.prog.info? 247).map (·.size)=some 13:=by kernel_rfl
theorem gZ:(Tryz.prog.info? 110).map (·.size)=some 18:=by kernel_rfl
theorem lz:(Tryz.prog.info? 3).map (·.size)=some 1:=by kernel_rfl
theorem lV (w:World):(zeroValue 108).run Tryz.prog w= .ok (.agg (zs (List.replicate 13 0)).toArray) w:=by kernel_rfl
theorem FB (w:World):(zeroValue 248).run Tryz.prog w= .ok (.agg (zs (List.replicate 8 0)).toArray) w:=by kernel_rfl
theorem jd (w:World):(zeroValue 188).run Tryz.prog w= .ok (.agg (aR (List.replicate 8 0)).toArray) w:=by kernel_rfl
theorem Rx (w:World):(zeroValue 247).run Tryz.prog w= .ok (.agg (aR (List.replicate 13 0)).toArray) w:=by kernel_rfl
def cB:bM:=⟨0,0,0,0,List.replicate 13 0,[]⟩
theorem eV (w:World):(zeroValue 110).run Tryz.prog w= .ok (.agg (aU cB (.slice none 0 0))) w:=by kernel_rfl
theorem KC{b:List Int}(y:a.length=13)(h:b.length=13)(w:World):(Op.equalIn 10000 108 (.agg (zs a).toArray) (.agg (zs b).toArray)).run Tryz.prog w= .ok (decide (a=b)) w:=
 mq w 9998 108 3 13 .i64 .i64 a b Tryz.underlying108 Tryz.underlying3 lz y h
theorem Xs{b:List Int}(y:a.length=8)(h:b.length=8)(w:World):(Op.equalIn 10000 248 (.agg (zs a).toArray) (.agg (zs b).toArray)).run Tryz.prog w= .ok (decide (a=b)) w:=
 mq w 9998 248 3 8 .i64 .i64 a b Tryz.underlying248 Tryz.underlying3 lz y h
theorem El{b:List Int}(y:a.length=8)(h:b.length=8)(w:World):(Op.equalIn 10000 188 (.agg (aR a).toArray) (.agg (aR b).toArray)).run Tryz.prog w= .ok (decide (a=b)) w:=
 mq w 9998 188 55 8 .u64 .u64 a b Tryz.underlying188 Tryz.underlying55 mP y h
theorem yb: Tryz.prog.eqGuardType Tryz.prog.depth 108 =false:=by kernel_rfl
theorem Hr: Tryz.prog.eqGuardType Tryz.prog.depth 248 =false:=by kernel_rfl
theorem pZ: Tryz.prog.eqGuardType Tryz.prog.depth 188 =false:=by kernel_rfl
theorem Em (h:k<13)(y:Z[k]? =some v)(w:World):(Instr.index 108 (.agg Z) (.int .i64 (k:Int))).run Tryz.prog w= .ok v w:=
 jx 108 3 13 .i64 Z k v Tryz.underlying108 Tryz.underlying3 lz h y w
theorem Ry (h:k<8)(y:Z[k]? =some v)(w:World):(Instr.index 248 (.agg Z) (.int .i64 (k:Int))).run Tryz.prog w= .ok v w:=
 jx 248 3 8 .i64 Z k v Tryz.underlying248 Tryz.underlying3 lz h y w
theorem Rz (h:k<8)(y:Z[k]? =some v)(w:World):(Instr.index 188 (.agg Z) (.int .i64 (k:Int))).run Tryz.prog w= .ok v w:=
 jx 188 55 8 .u64 Z k v Tryz.underlying188 Tryz.underlying55 mP h y w
theorem En (h:k<13)(y:Z[k]? =some v)(w:World):(Instr.index 247 (.agg Z) (.int .i64 (k:Int))).run Tryz.prog w= .ok v w:=
 jx 247 55 13 .u64 Z k v Tryz.underlying247 Tryz.underlying55 mP h y w
theorem eD (z:bm w g Z T)(h:l.length=13)(G:∀k,k<13->Z[off+k]? =some (.int .i64 (l.getD k 0))):
  (loadVar 108 ⟨g,off,none⟩).run Tryz.prog w= .ok (.agg (zs l).toArray) w:=
 bT g off (zs l) Tryz.underlying108 rfl (by rw[dJ,h];exact jf) λj y=>by
  rw[dJ,h] at y;rw[z.cell,G j y,eR (by omega)]
theorem ea (h:bm w g (aR l).toArray T)(y:l.length=8):
  (loadVar 188 ⟨g,0,none⟩).run Tryz.prog w= .ok (.agg (aR l).toArray) w:=
 bT g 0 (aR l) Tryz.underlying188 rfl (by rw[bc,y];exact gH) λj _=>by
  rw[h.cell,aX,aC]
theorem Hs (h:bm w g (aR l).toArray T)(y:l.length=13):
  (loadVar 247 ⟨g,0,none⟩).run Tryz.prog w= .ok (.agg (aR l).toArray) w:=
 bT g 0 (aR l) Tryz.underlying247 rfl (by rw[bc,y];exact Rw) λj _=>by
  rw[h.cell,aX,aC]
theorem Mx (z:bm w g Z T)(h:l.length=8)(G:∀k,k<8->Z[off+k]? =some (.int .i64 (l.getD k 0))):
  (loadVar 248 ⟨g,off,none⟩).run Tryz.prog w= .ok (.agg (zs l).toArray) w:=
 bT g off (zs l) Tryz.underlying248 rfl (by rw[dJ,h];exact Mw) λj y=>by
  rw[dJ,h] at y;rw[z.cell,G j y,eR (by omega)]
theorem cH{n:bM}(h:bm w g (aU n v) T)(y:n.B.length=13):
  (loadVar 110 ⟨g,0,none⟩).run Tryz.prog w= .ok (.agg (aU n v)) w:=
 bT g 0 (lL n v) Tryz.underlying110 rfl (by rw[fC,y];exact gZ) λj _=>by
  rw[h.cell,aX,aU,aC]
theorem br{ty:Nat}{cs:List Value}{h:Array Value}(G:(P.info? ty).map (·.size)=some cs.length)(y:bm w g h T)(J:h.size=cs.length)(z:∀v∈cs,v.oneCell'=true):
  ∃w',(storeVar ty ⟨g,0,none⟩ (.agg cs.toArray)).run P w= .ok () w'/\bm w' g cs.toArray T/\ay [g] w w':=by
 refine⟨_,ig g 0 cs h G y (by omega) z,?_,(ay.refl _ _).setRow (by simp) _⟩;have e:(h.toList.take 0++cs++h.toList.drop (0+cs.length)).toArray=cs.toArray:=by
  rw[dm (by simp;omega)];simp
 rw[e];exact jK y
theorem jg{n:bM}(y:v.oneCell'=true):∀u∈lL n v,u.oneCell'=true:=by
 intro u h;simp only[lL,aS,aP,aV,bL] at h;rcases h with rfl|rfl|rfl|rfl|h|rfl
 all_goals first|rfl|exact y|exact jY _ u h
def mi (l:List Nat):List Value:=l.map λc:Nat=>Value.int .u8 (c:Int)
theorem tT (l:List Nat):(mi l).length=l.length:=by simp[mi]
theorem wN{l:List Nat}(h:j<l.length):(mi l)[j]? =some (.int .u8 (l.getD j 0:Nat)):=by simp[mi,h]
theorem Vb (l:List Nat):∀u∈mi l,u.oneCell'=true:=by
 intro u h;simp only[mi,bB] at h;obtain⟨x,-,rfl⟩:=h;rfl
theorem YJ{α:Type}{l:List α}(h:l.length=8):∃G Z y W V z J U,l=[G,Z,y,W,V,z,J,U]:=by
 match l,h with
 | [G,Z,y,W,V,z,J,U],_=>exact⟨G,Z,y,W,V,z,J,U,rfl⟩
theorem zm (l:List Nat)(h:l.length=8)(k:Nat)(W:k<8)(w:World):(Instr.index 196 (.agg (mi l).toArray) (.int .i64 (k:Int))).run Tryz.prog w= .ok (.int .u8 (l.getD k 0:Nat)) w:=by
 obtain⟨J,x1,z,x3,Z,G,U,V,rfl⟩:=YJ h;have y:k=0\/k=1\/k=2\/k=3\/k=4\/k=5\/k=6\/k=7:=by omega
 rcases y with rfl|rfl|rfl|rfl|rfl|rfl|rfl|rfl<;>(show Sem.run _ _ _=_;kernel_rfl)
theorem Bp (n:Nat)(h:n<18446744073709551616):IntKind.u64.wrap (n:Int)=(n:Int):=by rw[fu];omega
theorem Vc (k:Nat):2^(8*k)=256^k:=by rw[Nat.pow_mul]
theorem Bq (z:c<256)(G:k<8):c*256^k<18446744073709551616:=by
 have h:256^k<=256^7:=gM (by decide) (by omega);have y:(256:Nat)^7=72057594037927936:=rfl;rw[y] at h;have :=Nat.mul_le_mul (show c<=255 by omega) h;omega
theorem Vd (y:c<256)(h:k<8):IntKind.u64.wrap (IntKind.u64.wrap (c:Int)*2^(8*k))=((c*256^k:Nat):Int):=by
 rw[Bp c (by omega),show(2:Int)^(8*k)=((256^k:Nat):Int) by rw[<-Vc];simp,<-Int.natCast_mul,Bp _ (Bq y h)]
theorem Ve{l:List Nat}(U:l.length=8)(h:∀c∈l,c<256){k:Nat}(y:k<8):
  bits .or .u64 ((jv (l.take k):Nat):Int) (IntKind.u64.wrap (IntKind.u64.wrap ((l.getD k 0:Nat):Int)*2^(8*k)))=((jv (l.take (k+1)):Nat):Int):=by
 have z:l.getD k 0<256:=by
  rw[aj,aD (by omega)];exact h _ (bp _)
 have G:=A5 (Mp h k);rw[aI,cy (by omega)] at G;have J:256^k<=256^7:=gM (by decide) (by omega);rw[show(256:Nat)^7=72057594037927936 from rfl] at J;rw[Vd z y,u64_or_nat _ _ (by omega) (Bq z y),zU l k (by omega),Nat.or_comm,nat_join (8*k) _ _ (by rw[Vc];exact Nat.mul_mod_left _ _) (by rw[Vc];exact G),Nat.add_comm]
theorem Vf (l:List Nat)(z:l.length=8)(hb:∀c∈l,c<256)(w:World):
  Calls Tryz.prog 149 #[.agg (mi l).toArray] w λe w'=>e= .returned (.int .u64 (jv l:Nat))/\ay [] w w':=by
 have V:=λk W=>zm l z k W
 have U:∀y:World,(∀j,j<8->y.cell? ⟨w.heap.size,j,none⟩=(mi l)[j]?)->(loadVar 196 ⟨w.heap.size,0,none⟩).run Tryz.prog y= .ok (.agg (mi l).toArray) y:=λy hc=>
  bT w.heap.size 0 (mi l) Tryz.underlying196 rfl (by rw[tT,z];kernel_rfl) λj J=>by
   rw[tT,z] at J;rw[aX];exact hc j J
 have Z:=ar (U (w.alloc (.cells (mi l).toArray 196)) λj J=>by rw[(bm.new w (mi l).toArray 196).cell];simp);have G:=ar V;clear U V;go_enter Tryz.func149,Tryz.ntmps149;go_wp2_with(with_reducible refine gL 196 Z.out ?_);clear Z;go_loop [3,7] (λs3 s7=>∃k:Nat,k<=8/\s7= .int .i64 (k:Int)/\s3= .int .u64 (jv (l.take k):Nat)) (λ_ i=>8-(intOf i).toNat)
 case atStart=>exact⟨0,by omega,rfl,rfl⟩
 case round=>
  obtain⟨k,W,rfl,rfl⟩:=hrel;by_cases h:k<8
  ·have hx:=G.out k h
   have NI:(k:Int)<8:=by omega
   have HO:=ar (Ve z hb h);generalize l.getD k 0=c at *;go_wp2_with fail
   go_round
   case rel=>
    refine⟨k+1,by omega,by go_num,?_⟩;rw[<-HO.out]
   case measure=>simp[intOf];omega
  ·have NI:¬(k:Int)<8:=by omega
   obtain rfl:k=8:=by omega
   rw[aQ (by omega)];go_wp2_with fail;go_ret;exact⟨rfl,(ay.refl _ _).alloc _⟩
theorem Tryz.info_bytes:(Tryz.prog.info? 196).map (·.size)=some 8:=by kernel_rfl
def lW (W k:Nat):List Nat:=(List.range 8).map λj=>if j<k then nO W j else 0
theorem Eo (W:Nat):lW W 8=jH W:=by
 unfold lW jH;apply dQ;intro j h;rw[aB (by simpa using h)]
theorem NM (W k:Nat)(z:k<8):(mi (lW W k)).set k (.int .u8 (nO W k:Nat))=mi (lW W (k+1)):=by
 apply b8;intro j;rw[er];simp only[mi,lW,bD,bJ,eJ];by_cases h:k=j
 ·subst h
  simp[z]
 ·rw[aA h]
  by_cases y:j<8
  ·simp only[y,b7,e9]
   simp only[show j<k+1↔j<k by omega]
  ·simp[y]
theorem p7 (W k:Nat):(lW W k).length=8:=by simp[lW]
theorem Vg (W k:Nat):(W:Int)/2^(8*k)%256=((nO W k:Nat):Int):=by
 rw[show(2:Int)^(8*k)=((256^k:Nat):Int) by rw[<-Vc];simp];rfl
theorem Br{l:List Nat}(y:l.length=8)(h:bm w b (mi l).toArray 196):(loadVar 196 ⟨b,0,none⟩).run Tryz.prog w= .ok (.agg (mi l).toArray) w:=
 bT b 0 (mi l) Tryz.underlying196 rfl (by rw[tT,y];exact Tryz.info_bytes) λj _=>by rw[h.cell];simp
theorem sY{l m:List Nat}(z:l.length=8)(y:m.length=8)(h:bm w b (mi l).toArray 196):
  ∃w',(storeVar 196 ⟨b,0,none⟩ (.agg (mi m).toArray)).run Tryz.prog w= .ok () w'/\bm w' b (mi m).toArray 196/\ay [b] w w':=by
 have G:=ig (P:= Tryz.prog) (ty:= 196) b 0 (mi m) _ (by rw[tT,y];exact Tryz.info_bytes) h (by simp[tT,z,y]) (Vb m);refine⟨_,G,?_,(ay.refl _ _).setRow (by simp) _⟩;have :=setRow_heap _ b _ (List.take 0 (mi l).toArray.toList++mi m++List.drop (0+(mi m).length) (mi l).toArray.toList).toArray _ _ h;unfold bm;rw[this];simp[dm,tT,z,y]
theorem vr (W:Nat):(#[.int .u8 0,.int .u8 0,.int .u8 0,.int .u8 0,.int .u8 0,.int .u8 0,.int .u8 0,.int .u8 0]:Array Value)=(mi (lW W 0)).toArray:=by
 simp[mi,lW,List.range,List.range.loop]
theorem Bt (W:Nat)(w:World):
  Calls Tryz.prog 145 #[.int .u64 (W:Int)] w λe w'=>e= .returned (.agg (mi (jH W)).toArray)/\ay [] w w':=by
 go_enter Tryz.func145,Tryz.ntmps145;go_wp2_with fail;go_loopg [5] 8 (λg s5 z=>∃k:Nat,k+g=8/\s5= .int .i64 (k:Int)/\Hid (bm z (w.heap.size+1) (mi (lW W k)).toArray 196/\bm z w.heap.size (mi (lW W 0)).toArray 196/\ay [] w z))
 case atStart=>
  refine⟨0,by omega,rfl,?_,?_,((ay.refl _ _).alloc _).alloc _⟩
  ·have :=bm.new (w.alloc (.cells (mi (lW W 0)).toArray 196)) (mi (lW W 0)).toArray 196
   simpa[vr W] using this
  ·have :=(bm.new w (mi (lW W 0)).toArray 196).alloc (.cells (mi (lW W 0)).toArray 196)
   simpa[vr W] using this
 case round=>
  obtain⟨k,qP,rfl,y⟩:=hrel;cases gk with
  |zero=>
   obtain rfl:k=8:=by omega
   have J:=ar (Br (p7 W 8) y.out.1);obtain⟨w2,U,h,V⟩:=sY (p7 W 0) (p7 W 8) y.out.2.1;have G:=ar U;rw[Eo] at h;have HB:Hid (∀j,j<8->w2.cell? ⟨w.heap.size,j,none⟩=some (.int .u8 (nO W j:Nat))):=λj hj=>by
    rw[h.cell,<-sJ W j hj];simpa using wN (l:=jH W) (j:=j) (by rw[kh];omega)
   have Z:=ar (y.out.2.2.trans V (by simp));clear U h V y;rw[Eo] at J G;go_wp2_with(first|(with_reducible refine gL 196 J.out ?_)|(with_reducible refine gS 196 G.out ?_));have h:=HB.out;exact aK (v:= .agg (mi (jH W)).toArray) (by simp[results,Tryz.results145,go_sem,h 0,h 1,h 2,h 3,h 4,h 5,h 6,h 7,mi,jH,List.range,List.range.loop]) rfl ⟨rfl,Z.out⟩
  |succ g=>
   have aa:(k:Int)<8:=by omega
   have hc:wr.cell? ⟨w.heap.size+1,k,none⟩=some (.int .u8 ((lW W k).getD k 0:Nat)):=by
    rw[y.out.1.cell];simpa using wN (l:=lW W k) (j:=k) (by rw[p7];omega)
   have hf:wr.frozen? ⟨w.heap.size+1,k,none⟩=false:=y.out.1.frozen _;generalize (lW W k).getD k 0=c at *;go_wp2_with fail;go_roundg g;case measure=>omega
   case rel=>
    refine⟨k+1,by omega,by go_num,?_⟩;rw[Vg];refine⟨?_,y.out.2.1.other (by simp) _,y.out.2.2.setCell (.inr (by simp)) _⟩;have :=y.out.1.set k (.int .u8 (nO W k:Nat));rw[ag,NM W k (by omega)] at this;exact this
def bl (s:ByteArray):List Nat:=s.data.toList.map UInt8.toNat
theorem jZ (s:ByteArray):(bl s).length=s.size:=by simp[bl]
theorem wO (s:ByteArray):∀c∈bl s,c<256:=by
 intro c h;simp only[bl,bB] at h;obtain⟨x,-,rfl⟩:=h;exact x.toNat_lt
theorem YK (s:ByteArray)(k:Nat)(h:k<s.size):(bl s).getD k 0=s[k].toNat:=by
 simp[bl,h];rfl
theorem FC{t:ByteArray}(h:bl s=bl t):s=t:=by
 apply ByteArray.ext;apply Array.toList_inj.1;have :=List.map_inj_right (f:=UInt8.toNat) (λa b e=>UInt8.toNat_inj.1 e) |>.1 h;exact this
theorem Ht (c:Nat)(w:World):Calls Tryz.prog 186 #[.int .u8 (c:Int)] w λe w'=>e= .returned (.bool (kM c))/\w=w':=by
 by_cases z:33<=c
 ·by_cases y:c<=126
  ·by_cases h:c=47
   ·subst h
    go_enter Tryz.func186,Tryz.ntmps186;go_wp2;go_ret;exact⟨rfl,rfl⟩
   ·have e:kM c=true:=by simp[kM,z,y,h]
    have G:((c:Int) != 47)=true:=by simp;omega
    rw[e];clear e h;go_enter Tryz.func186,Tryz.ntmps186;go_wp2;go_ret;exact⟨rfl,rfl⟩
  ·have e:kM c=false:=by simp[kM,y]
   rw[e];go_enter Tryz.func186,Tryz.ntmps186;go_wp2;go_ret;exact⟨rfl,rfl⟩
 ·have e:kM c=false:=by simp[kM,z]
  rw[e];go_enter Tryz.func186,Tryz.ntmps186;go_wp2;go_ret;exact⟨rfl,rfl⟩
theorem Di (l:List Nat)(k:Nat)(h:k<l.length):(l.take (k+1)).all kM=((l.take k).all kM&&kM (l.getD k 0)):=by
 rw[bt h,List.all_append];simp[h]
theorem all_false{l:List Nat}(h:k<l.length)(y:kM (l.getD k 0)=false):l.all kM=false:=by
 rw[List.all_eq_false];refine⟨l.getD k 0,?_,by rw[y];simp⟩;rw[aj,aD h];exact bp _
theorem RA (h:s≠⟨#[46]⟩)(U:s≠⟨#[46,46]⟩)(G:1<=s.size)(z:s.size<=7):fN (bl s)=(bl s).all kM:=by
 have J:(bl s != [46])=true:=by
  simp only[bne_iff_ne,ne_eq];intro e;exact h (FC (t:=⟨#[46]⟩) e)
 have y:(bl s != [46,46])=true:=by
  simp only[bne_iff_ne,ne_eq];intro e;exact U (FC (t:=⟨#[46,46]⟩) e)
 simp[fN,jZ,G,z,J,y]
theorem RB{l:List UInt8}(h:s≠⟨l.toArray⟩):(s.toList==l)=false:=by
 rw[gX];simp only[cg,ne_eq];intro e;apply h;apply ByteArray.ext;apply Array.toList_inj.1;rw[e]
theorem FD (s:ByteArray)(hs:s.size<=9223372036854775807)(w:World):Calls Tryz.prog 167 #[.string s] w λe w'=>e= .returned (.bool (fN (bl s)))/\w=w':=by
 by_cases y:s=⟨#[46]⟩
 ·subst y
  go_enter Tryz.func167,Tryz.ntmps167;go_wp2;go_ret;exact⟨rfl,rfl⟩
 by_cases z:s=⟨#[46,46]⟩
 ·subst z
  go_enter Tryz.func167,Tryz.ntmps167;go_wp2;go_ret;exact⟨rfl,rfl⟩
 by_cases W:1<=s.size
 ·by_cases V:s.size<=7
  ·rw[RA y z W V]
   have q1:(s.toList == [46])=false:=RB (l:=[46]) y;have q2:(s.toList == [46,46])=false:=RB (l:=[46,46]) z;have q3:decide ((s.size:Int)<1)=false:=by simp;omega
   have q4:decide (7<(s.size:Int))=false:=by simp;omega
   clear y z;go_enter Tryz.func167,Tryz.ntmps167;go_wp2;go_loop [22] (λi=>∃k:Nat,k<=s.size/\i= .int .i64 (k:Int)/\Hid (((bl s).take k).all kM=true)) (λi=>s.size-(intOf i).toNat)
   case atStart=>exact⟨0,et _,rfl,rfl⟩
   case round=>
    obtain⟨k,hk,rfl,U⟩:=hrel;by_cases h:k<s.size
    ·have NI:(k:Int)<(s.size:Int):=by omega
     have G:=ar (Ht (s[k].toNat) w);have Z:=ar (YK s k h);have HT:=ar (Di (bl s) k (by rw[jZ];exact h));cases hb:kM s[k].toNat
     ·have J:=ar (all_false (l:=bl s) (k:=k) (by rw[jZ];exact h) (by rw[Z.out];exact hb))
      rw[hb] at G;clear hb;go_wp2_with(go_at_call 186;refine G.out.mono ?_;rintro e w' ⟨rfl,rfl⟩);go_ret;exact⟨by rw[J.out];rfl,rfl⟩
     ·rw[hb] at G
      have J:=ar hb;clear hb;go_wp2_with(go_at_call 186;refine G.out.mono ?_;rintro e w' ⟨rfl,rfl⟩)
      go_round
      case rel=>exact⟨k+1,by omega,by go_num,by rw[HT.out,Z.out,J.out,U.out];rfl⟩
      case measure=>simp[intOf];omega
    ·obtain rfl:k=s.size:=by omega
     have NI:¬(s.size:Int)<(s.size:Int):=by omega
     rw[aQ (by rw[jZ];exact aG _)] at U;go_wp2_with fail;go_ret;exact⟨by rw[U.out];rfl,rfl⟩
  ·have e:fN (bl s)=false:=by simp[fN,jZ,V]
   rw[e];clear e y z;go_enter Tryz.func167,Tryz.ntmps167;go_wp2;go_ret;exact⟨rfl,rfl⟩
 ·have e:fN (bl s)=false:=by simp[fN,jZ,W]
  rw[e];clear e y z;go_enter Tryz.func167,Tryz.ntmps167;go_wp2;go_ret;exact⟨rfl,rfl⟩
def sg (l:List Nat):ByteArray:=⟨(l.map UInt8.ofNat).toArray⟩
theorem My{l:List Nat}(h:∀c∈l,c<256):bl (sg l)=l:=by
 simp only[bl,sg,List.map_map]
 conv=>rhs;rw[<-List.map_id l]
 apply dQ;intro c y;simp[Nat.mod_eq_of_lt (h c y)]
theorem Az (s:ByteArray):sg (bl s)=s:=FC (My (wO s))
theorem Ep (l:List Nat):(sg l).size=l.length:=by simp[sg,ByteArray.size]
theorem Tryz.info_byte:(Tryz.prog.info? 5).map (·.size)=some 1:=by kernel_rfl
def iY (l:List Nat):Nat:=if fN l=true then nH l else 0
theorem Vh{l:List Nat}(h:l.length<=7):(mi (l++List.replicate (8-l.length) 0)).set 7 (.int .u8 (l.length:Int))=mi (wm l):=by
 have e:List.replicate (8-l.length) 0=List.replicate (7-l.length) 0++[0]:=by rw[show 8-l.length=7-l.length+1 by omega,List.replicate_succ']
 rw[e,<-bf,wm];generalize z:l++List.replicate (7-l.length) 0=A;have y:A.length=7:=by rw[<-z];simp;omega
 simp only[mi,dZ,List.map_cons,List.map_nil];rw[cZ _ _ (by simp[y])];simp[y]
theorem copied(h:s.size<=7)(y:bm w b (mi (List.replicate 8 0)).toArray 196):∃w',
  (Builtin.copy_ #[31,9] 3 #[.slice (some ⟨b,0,none⟩) 8 8,.string s]).run Tryz.prog w= .ok (goInt s.size) w'/\bm w' b (mi (bl s++List.replicate (8-s.size) 0)).toArray 196/\ay [b] w w':=by
 have G:=Lib.run_copy_row_string (P:= Tryz.prog) w 31 9 3 5 b 0 8 8 s _ _ Tryz.underlying31 Tryz.info_byte y (by omega) (by simp[mi];omega);refine⟨_,G,?_,(ay.refl _ _).setRow (by simp) _⟩;unfold bm;rw[setRow_heap _ b _ _ _ _ y];have J:List.take 0 (mi (List.replicate 8 0)).toArray.toList++Lib.byteCells s.data.toList++List.drop (0+s.size) (mi (List.replicate 8 0)).toArray.toList=mi (bl s++List.replicate (8-s.size) 0):=by
  have z:mi (List.replicate 8 0)=List.replicate 8 (Value.int .u8 0):=by simp only[mi,je];rfl
  rw[z,aX,eX,bW,gY];simp only[mi,bl,Lib.byteCells,dZ,List.map_map,je];rfl
 rw[J]
theorem FE (s:ByteArray)(hs:s.size<=9223372036854775807)(w:World):Calls Tryz.prog 218 #[.string s] w λe w'=>e= .returned (.tuple #[.int .u64 (iY (bl s):Nat),.bool (fN (bl s))])/\ay [] w w':=by
 have G:=ar (FD s hs w);unfold iY;cases hg:fN (bl s)
 ·rw[hg] at G
  clear hg;go_enter Tryz.func218,Tryz.ntmps218;go_wp2_with(go_at_call 167;refine G.out.mono ?_;rintro e w' ⟨rfl,rfl⟩);go_ret2;exact⟨rfl,ay.refl _ _⟩
 ·rw[hg] at G
  rw[aB rfl];obtain⟨l1,l2⟩:=ml hg;rw[jZ] at l1 l2;clear hg;obtain⟨U,W,z,V⟩:=copied l2 (bm.new w (mi (List.replicate 8 0)).toArray 196);have aa:U.cell? ⟨w.heap.size,7,none⟩=some (.int .u8 ((bl s++List.replicate (8-s.size) 0).getD 7 0:Nat)):=by
   rw[z.cell];simpa using wN (l:=bl s++List.replicate (8-s.size) 0) (j:=7) (by simp[jZ];omega)
  have Z:U.frozen? ⟨w.heap.size,7,none⟩=false:=z.frozen 7;have h:=z.set 7 (.int .u8 (s.size:Int));rw[ag,<-jZ,Vh (by rw[jZ];exact l2),jZ] at h;have HL:=ar (Br (sK (by rw[jZ];exact l2)) h);have HC:=ar W;have HK:=ar ((((ay.refl [] w).alloc (.cells (mi (List.replicate 8 0)).toArray 196)).trans V (by simp)).setCell (p:=⟨w.heap.size,7,none⟩) (.inr (aG _)) (.int .u8 (s.size:Int)));have J:=λwz=>Vf (wm (bl s)) (sK (by rw[jZ];exact l2)) (Fl (by rw[jZ];exact l2) (wO s)) wz
  rw[uW (by rw[jZ];exact l2)] at J;have J:=ar J;generalize (bl s++List.replicate (8-s.size) 0).getD 7 0=c at *;clear W z h V;go_enter Tryz.func218,Tryz.ntmps218;go_wp2_with(first|(go_at_call 167;refine G.out.mono ?_;rintro e w' ⟨rfl,rfl⟩)|((with_reducible show wpList _ _ _ (⟨some 10,_,_,_,_,_⟩::_) _ _);refine gj rfl (.tmp 8) (.tmp 9) 31 9 rfl _ _ rfl rfl HC.out ?_)|(with_reducible refine gL 196 HL.out ?_)|(go_at_call 149;refine(J.out _).mono ?_;rintro e w' ⟨rfl,y⟩;have nK:=ar y;clear y));go_ret2;exact⟨rfl,HK.out.trans nK.out (by simp)⟩
def kp (l:List Int):Prop:=∀k,k<13->(0<=l.getD k 0/\l.getD k 0<256)/\(l.getD k 0≠0->∀j,j<k->l.getD j 0≠l.getD k 0)
instance (l:List Int):Decidable (kp l):=by unfold kp;infer_instance
def iz (l:List Int) (c:Nat):List Int:=l.take c++List.replicate (13-c) 0
theorem mr (h:l.length=13){c:Nat}(y:c<=13):(iz l c).length=13:=by simp[iz,h];omega
theorem n4 (z:l.length=13){c:Nat}(y:c<=13)(k:Nat):(iz l c).getD k 0=if k<c then l.getD k 0 else 0:=by
 simp only[iz,aj,fK,aI,bN,aY];by_cases h:k<c
 ·rw[aB (by omega),aB h,aB h]
 ·rw[aA (by omega),aA h]
  split<;>rfl
def aZ (n:Nat):Nat:=(n+3)/4
def bY (n:Nat):Nat:=(n+63)/64
def RD (a b:ByteArray):Bool:=Op.bytesLess a.toList b.toList||(a.toList==b.toList)
def mW (n:bM):Prop:=(0<=n.S/\n.S<=832)/\n.E.length=0/\n.B=iz n.B (bY n.S.toNat)/\kp n.B
def z7 (E:List (ByteArray×Int)) (k:Nat):Prop:=fN (bl (eh E k))=true/\(0<=gT E k/\gT E k<=31)/\(0<k->RD (eh E k) (eh E (k-1))=false)
def lM (n:bM):Prop:=n.E.length<=24/\n.S=n.E.length/\n.B=List.replicate 13 0/\∀k,k<n.E.length->z7 n.E k
def bP (n:bM):Prop:=(n.F=1\/n.F=2)/\(0<=n.L/\n.L<=65535)/\(n.K=1/\mW n\/n.K=2/\lM n)
instance (n:bM):Decidable (mW n):=by unfold mW;infer_instance
instance (E:List (ByteArray×Int)) (k:Nat):Decidable (z7 E k):=by unfold z7;infer_instance
instance (n:bM):Decidable (lM n):=by unfold lM;infer_instance
instance (n:bM):Decidable (bP n):=by unfold bP;infer_instance
def oB (l:List Int) (k:Nat):List Bool:=(List.range 256).map λc=>decide (∃j,j<k/\l.getD j 0=((c:Nat):Int))
theorem tU (l:List Int)(k:Nat):(oB l k).length=256:=by rw[oB,bJ,eJ]
theorem NN (l:List Int)(k c:Nat)(h:c<256):(oB l k).getD c false=decide (∃j,j<k/\l.getD j 0=((c:Nat):Int)):=by
 rw[oB,aj,bD,b7 h];rfl
theorem Bu (l:List Int):List.replicate 256 false=oB l 0:=by
 apply cr (by rw[bh,tU]);intro j z y;rw[List.getElem_replicate];simp only[oB,fx,List.getElem_range];exact(aT λ⟨i,h,_⟩=>by omega).symm
theorem KD (l:List Int)(k c:Nat)(h:l.getD k 0=((c:Nat):Int)):(oB l k).set c true=oB l (k+1):=by
 apply cr (by rw[cG,tU,tU]);intro j U J;rw[List.getElem_set];simp only[oB,fx,List.getElem_range];by_cases e:c=j
 ·subst e
  rw[aB rfl];exact(bj ⟨k,by omega,h⟩).symm
 ·rw[aA e]
  refine decide_eq_decide.2 ⟨λ⟨i,G,y⟩=>⟨i,by omega,y⟩,λ⟨i,G,y⟩=> ?_⟩;by_cases z:i=k
  ·subst z
   rw[h] at y;exact absurd (Int.ofNat_inj.1 y) e
  ·exact⟨i,by omega,y⟩
theorem dC{rest:List Oper}{a:Act}(G:Region.wanted o (yielded y a.tmps)=true)(ty:TypeId)(x:Operand)(W:o.op= .load ty x)(z:Addr)
  (V:a.eval x= .pointer (some z)) (v:Value) (J:(loadVar ty z).run P w= .ok v w) (h:wpList P y Q rest (a.put o.dst v) w):wpList P y Q (o::rest) a w:=
 wpList_step λ_ U=>by
  rw[aB G];unfold Oper.wp execOp;simp only[W,V,Instr.loadAt,Instr.sureAddr,bV,eM,b9,J];exact U _ _ h
theorem jV{a:Act}{K:Act->World->Prop}{E:Prop}(z:o.guard=none)(ty:TypeId)(x:Operand)(W:o.op= .load ty x)(G:Addr)
  (V:a.eval x= .pointer (some G)) (v:Value) (J:(loadVar ty G).run P w= .ok v w) (h:K (a.put o.dst v) w):if Region.wanted o (yielded y a.tmps)=true then Oper.wp P o a w K Q else E:=by
 have U:Region.wanted o (yielded y a.tmps)=true:=by simp[Region.wanted,z]
 rw[aB U];unfold Oper.wp execOp;simp only[W,V,Instr.loadAt,Instr.sureAddr,bV,eM,b9,J];exact h
theorem Bv{ty:TypeId}{k:IntKind}(G:P.underlying ty=some (.int k))(y:bm w g Z T)(J:Z[off]? =some v):(loadVar ty ⟨g,off,none⟩).run P w= .ok v w:=by
 have h:(isAgg ty).run P w= .ok false w:=by
  unfold isAgg;rw[bV,cY G w];rfl
 have z:w.cell? ⟨g,off,none⟩=some v:=by rw[y.cell,J]
 simp[loadVar,h,z]
theorem rb (h:Addr)(w:World):(asAddr (.pointer (some h))).run P w= .ok h w:=rfl
theorem dP{G:Func}{a:Nat}{z:Addr}(h:G.results= #[.cell a t])(y:tmps.getD a undef= .pointer (some z))(J:(loadVar t z).run P w= .ok v w):
  (results G tmps).run P w= .ok v w:=by
 rw[fU] at y;unfold results;rw[h];simp[y,rb,J]
theorem bE{U:Func}{a:Nat}{G:Addr}{x y:Value}(h:U.results= #[.cell a t,.tmp b,.tmp c])(z:tmps.getD a undef= .pointer (some G))(W:(loadVar t G).run P w= .ok v w)
  (J:tmps.getD b undef=x) (V:tmps.getD c undef=y):(results U tmps).run P w= .ok (.tuple #[v,x,y]) w:=by
 rw[fU] at z J V;unfold results;rw[h];simp[z,rb,W,J,V]
theorem Dj (b c:Nat)(y:c<13)(w:World):(Instr.sliceAt 108 (.pointer (some ⟨b,0,none⟩)) (some (.int .i64 (c:Int))) none none).run Tryz.prog w= .ok (.slice (some ⟨b,c,none⟩) (13-c) (13-c)) w:=by
 have h:c=0\/c=1\/c=2\/c=3\/c=4\/c=5\/c=6\/c=7\/c=8\/c=9\/c=10\/c=11\/c=12:=by omega
 rcases h with rfl|rfl|rfl|rfl|rfl|rfl|rfl|rfl|rfl|rfl|rfl|rfl|rfl
 all_goals (show Sem.run _ _ _=_;kernel_rfl)
theorem Bw (b:Nat)(w:World):∃off cap,(Instr.sliceAt 108 (.pointer (some ⟨b,0,none⟩)) (some (.int .i64 (13:Nat))) none none).run Tryz.prog w= .ok (.slice (some ⟨b,off,none⟩) 0 cap) w:=
 ⟨0,0,by show Sem.run _ _ _=_;kernel_rfl⟩
theorem KE (b c:Nat)(G:c<=13)(w:World):∃off cap,(Instr.sliceAt 108 (.pointer (some ⟨b,0,none⟩)) (some (.int .i64 (c:Int))) none none).run Tryz.prog w= .ok (.slice (some ⟨b,off,none⟩) (13-c) cap) w/\(c<13->off=c):=by
 by_cases h:c<13
 ·exact⟨c,13-c,Dj b c h w,λ_=>rfl⟩
 ·obtain rfl:c=13:=by omega
  obtain⟨off,cap,z⟩:=Bw b w;exact⟨off,cap,z,λy=>absurd y h⟩
theorem Hu (b c:Nat)(y:c<=13)(w:World):(Instr.sliceAt 108 (.pointer (some ⟨b,0,none⟩)) none (some (.int .i64 (c:Int))) none).run Tryz.prog w= .ok (.slice (some ⟨b,0,none⟩) c 13) w:=by
 have h:c=0\/c=1\/c=2\/c=3\/c=4\/c=5\/c=6\/c=7\/c=8\/c=9\/c=10\/c=11\/c=12\/c=13:=by omega
 rcases h with rfl|rfl|rfl|rfl|rfl|rfl|rfl|rfl|rfl|rfl|rfl|rfl|rfl|rfl
 all_goals (show Sem.run _ _ _=_;kernel_rfl)
theorem set_tail(l:List Int)(c:Nat)(h:l.length=13)(y:c<=13):((zs l).take c++zs (List.replicate (13-c) 0)++(zs l).drop (c+(zs (List.replicate (13-c) 0)).length)).toArray=(zs (iz l c)).toArray:=by
 rw[dm (by rw[dJ,dJ,bh,h];omega),bq];unfold iz;rw[x9];simp[zs]
theorem Dk (n:Nat):(Builtin.zeroCells (Value.int .i64 0).cells n).toList=zs (List.replicate n 0):=by
 have e:(Value.int IntKind.i64 0).cells= #[Value.int .i64 0]:=rfl;rw[e];apply cr
 ·simp[Builtin.zeroCells,zs]
 ·intro j y h
  simp[Builtin.zeroCells,zs,Nat.mod_one]
theorem KF{cap:Nat}(y:bm w b (zs l).toArray T)(J:l.length=13)(V:c<=13)(Z:c<13->off=c):∃w',(∀ty,(Builtin.clear_ #[134] ty #[.slice (some ⟨b,off,none⟩) (13-c) cap]).run Tryz.prog w= .ok (.tuple #[]) w')/\bm w' b (zs (iz l c)).toArray T/\ay [b] w w':=by
 by_cases h:c<13
 ·obtain rfl:=Z h
  have z:=run_storeCells_at Tryz.prog b off T (zs (List.replicate (13-off) 0)) 0 (zs l).toArray w y (by simp[dJ,J];omega) (jY _);refine⟨_,λty=> ?_,?_,(ay.refl _ _).setRow (g:=b) (by simp) ((zs l).take off++zs (List.replicate (13-off) 0)++(zs l).drop (off+(zs (List.replicate (13-off) 0)).length)).toArray⟩
  ·have G:(Builtin.zeroCells (Value.int .i64 0).cells (13-off)).toList=zs (List.replicate (13-off) 0):=Dk _
   have U:(zeroValue 3).run Tryz.prog w= .ok (.int .i64 0) w:=by kernel_rfl
   obtain⟨m,W⟩:∃m,13-off=m+1:=⟨12-off,by omega⟩;unfold Builtin.clear_;rw[W] at G z ⊢;simp only[bV,cY Tryz.underlying134,b9,aC,List.getElem?_cons_zero,U,G];simp only[dH] at z;rw[z];simp
  ·rw[set_tail l off J V]
   exact jK y
 ·obtain rfl:c=13:=by omega
  refine⟨w,λty=> ?_,?_,ay.refl _ _⟩
  ·unfold Builtin.clear_
   simp[cY Tryz.underlying134]
  ·rw[show iz l 13=l by unfold iz;rw[aQ (by omega)];simp]
   exact y
end Go.Proofs.YtcecbdeamjigiaaGreatDoor
namespace Go.Proofs.YtcecbdeamjigiaaGreatDoor
open Go.RowKit Go.Shelf
variable{a l:List Int}{T b c f g j k off t:Nat}{E:List (ByteArray×Int)}{w:World}{v:Value}{P:Program}{Z tmps:Array Value}{s:ByteArray}{y:Array Oper}{o:Oper}{Q:Exit->Act->World->Prop}
attribute [local go_sem] Oper.semAt_some
theorem RF (a:Option Addr)(len cap:Nat)(w:World):Calls Tryz.prog 228 #[.slice a len cap,.int .i64 3] w λe w'=>
  e= .returned (.func (.func 234) #[] #[.pointer (some ⟨w.heap.size,0,none⟩),.pointer (some ⟨w.heap.size+1,0,none⟩)])/\
   w'=(w.alloc (.cells #[.slice a len cap] 32)).alloc (.cells #[.int .i64 3] 3):=by
 have h:=bm.new (w.alloc (.cells #[.slice a len cap] 32)) #[.int .i64 3] 3;have y:(w.alloc (.cells #[.slice a len cap] 32)).heap.size=w.heap.size+1:=by simp
 rw[y] at h;have z:((w.alloc (.cells #[.slice a len cap] 32)).alloc (.cells #[.int .i64 3] 3)).cell? ⟨w.heap.size+1,0,none⟩=some (.int .i64 3):=by rw[h.cell];rfl
 clear h;go_enter Tryz.func228,Tryz.ntmps228;go_wp2_with fail;go_ret;exact⟨rfl,rfl⟩
def Xt (a:Option Addr) (len x:Nat):Value:=
 match a with
 |some ⟨g,off,_⟩=> .slice (some ⟨g,off+x*3*2,none⟩) (min 3 (len-3*x)) (min 3 (len-3*x))
 |none=> .slice none 0 0
def KpC (y z:Nat) (W h:World):Prop:=h.heap[y]? =W.heap[y]? /\h.heap[z]? =W.heap[z]?
theorem NP (n l bs G g off len cap:Nat)(hn:1<=n)(ai:len<=10000)(nz:len<=cap)(J Jx:List Nat->World->Prop)(B:Nat)(hJ:AbidesFrom B J)
  (hY:∀h x W,J h W->h.length<(len+2)/3->YieldAt Fence.wide (n-1) Tryz.prog l #[Xt (some ⟨g,off,none⟩) len x] W λe Z=>
   (e= .returned (.bool true)/\J (h++[x]) Z/\KpC bs G W Z)\/(e= .returned (.bool false)/\Jx (h++[x]) Z))
  (W:World) (tV:bm W bs #[.slice (some ⟨g,off,none⟩) len cap] 32) (J7:bm W G #[.int .i64 3] 3) (h0:J [] W):
  CallsIn Fence.wide n Tryz.prog 234 #[.func (.yield l) #[] #[],.pointer (some ⟨bs,0,none⟩),.pointer (some ⟨G,0,none⟩)] W λe Z=>(∃v,e= .returned v)/\
   ((∃ys,ys=List.range ((len+2)/3)/\J ys Z)\/(∃h,True/\Jx h Z)):=by
 refine callsIn_of_wp Tryz.func234 rfl trivial ?_ rfl;simp only[Tryz.ntmps234,bU,bH,cp,Nat.reduceAdd,Nat.reduceSub,Array.replicate_succ,Array.replicate_zero,List.push_toArray,List.append_toArray,bW,List.cons_append]
 gi_wp2
 gi_loopw [4] (λi wr=>∃k:Nat,k<=(len+2)/3/\i= .int .i64 ((k*3:Nat):Int)/\J (List.range k) wr/\KpC bs G W wr)
  (λi _=>len+3-(intOf i).toNat)
 case atStart=>exact⟨0,et _,rfl,h0,rfl,rfl⟩
 case round=>
  obtain⟨k,hk,rfl,z,dc,aa⟩:=hrel;have cs:wr.cell? ⟨bs,0,none⟩=some (.slice (some ⟨g,off,none⟩) len cap):=(aL (a:=⟨bs,0,none⟩) dc).trans (by rw[tV.cell];rfl);have cn:wr.cell? ⟨G,0,none⟩=some (.int .i64 3):=(aL (a:=⟨G,0,none⟩) aa).trans (by rw[J7.cell];rfl);obtain⟨i,hi⟩:∃i:Nat,i=k*3:=⟨_,rfl⟩;rw[<-hi];by_cases ak:i<len
  ·have af:J (List.range k) wr.drew:=hJ _ _ _ none z ⟨rfl,rfl,rfl,aG _,λ_ _ _=>rfl⟩ (λr e=>by cases e)
   obtain⟨fn,tmps,ae,aj,hy,hR⟩:=hY _ k wr.drew af (by rw[eJ];omega);obtain⟨m,hm⟩:∃m:Nat,m=min 3 (len-i):=⟨_,rfl⟩;have hv:Xt (some ⟨g,off,none⟩) len k= .slice (some ⟨g,off+i*2,none⟩) m m:=by
    show Value.slice (some ⟨g,off+k*3*2,none⟩) (min 3 (len-3*k)) (min 3 (len-3*k))=_;rw[hm,hi,Nat.mul_comm 3 k]
   rw[hv] at hy;clear hv hY tV J7;have NI:(i:Int)<(len:Int):=by omega
   have ay:(0:Int)<=(i:Int):=by omega
   have aD:(i:Int)<=(len:Int):=by omega
   have Mz:cap≠i:=by omega
   have av:(i:Int)<=((i+m:Nat):Int):=by omega
   have ax:((i+m:Nat):Int)<=(cap:Int):=by omega
   have aw:i+m≠i:=by omega
   have aF:i+m-i=m:=by omega
   have az:wrap64 ((i:Int)+3)=(i:Int)+3:=by unfold wrap64;omega
   have HI:=ar hi;have ac:=ar z;have lX:Hid (len+3-(i+3)<len+3-i/\k+1<=(len+2)/3):=by show _/\_;omega
   clear hk hJ z hi;obtain⟨y,ap,aq,aC,aB,aA⟩:∃y:Int,(i:Int)+(m:Int)=y/\wrap64 y=y/\(i:Int)<=y/\y<=(cap:Int)/\y.toNat=i+m:=⟨_,rfl,by unfold wrap64;omega,by omega,by omega,by omega⟩;obtain⟨r,hr⟩:∃r:Nat,r=len-i:=⟨_,rfl⟩;rw[<-hr] at hm;have Hv:(len:Int)-(i:Int)=(r:Int):=by omega
   have U:((3:Int)<=(r:Int)/\m=3)\/(¬(3:Int)<=(r:Int)/\m=r):=by omega
   have tX:=hr.symm;clear hr hm;rcases U with ⟨U,rfl⟩|⟨U,rfl⟩
   all_goals
    gi_wp2
    gi_region
    all_goals try clear tX
    gi_wp2
    refine hR.mono ?_;rintro e W3 (⟨rfl,ag,V⟩|⟨rfl,ah⟩)
    ·have au:W3.cell? ⟨G,0,none⟩=some (.int .i64 3):=(aL (w:=wr.drew) (a:=⟨G,0,none⟩) V.2).trans cn
     gi_wp2
     go_roundw
     case rel=>exact⟨k+1,lX.out.2,by rw[HI.out];simp;omega,by rw[dL];exact ag,V.1.trans dc,V.2.trans aa⟩
     case measure=>have :=lX.out.1;simp[intOf];omega
    ·gi_wp2
     refine aK (results_none rfl _ _ _) rfl ?_;exact⟨⟨_,rfl⟩,.inr ⟨_,trivial,ah⟩⟩
  ·have NI:¬(i:Int)<(len:Int):=by omega
   obtain rfl:k=(len+2)/3:=by omega
   have ac:=ar z;clear hY tV J7 hi hk z hJ
   gi_wp2
   go_end0;exact⟨⟨_,rfl⟩,.inl ac.out⟩
theorem NQ (n l h U:Nat)(a:Option Addr)(cap:Nat)(J V:List Nat->World->Prop)(W:World)(tV:bm W h #[.slice a 0 cap] 32)(Z:J [] W):
  CallsIn Fence.wide n Tryz.prog 234 #[.func (.yield l) #[] #[],.pointer (some ⟨h,0,none⟩),.pointer (some ⟨U,0,none⟩)] W λe z=>(∃v,e= .returned v)/\
   ((∃G,G=List.range 0/\J G z)\/(∃y,True/\V y z)):=by
 have cs:W.cell? ⟨h,0,none⟩=some (.slice a 0 cap):=by rw[tV.cell];rfl
 refine callsIn_of_wp Tryz.func234 rfl trivial ?_ rfl;simp only[Tryz.ntmps234,bU,bH,cp,Nat.reduceAdd,Nat.reduceSub,Array.replicate_succ,Array.replicate_zero,List.push_toArray,List.append_toArray,bW,List.cons_append]
 gi_wp2
 gi_loopw [4] (λi wr=>i= .int .i64 0/\wr=W) (λ_ _=>0)
 case atStart=>exact⟨rfl,rfl⟩
 case round=>
  obtain⟨rfl,rfl⟩:=hrel
  gi_wp2
  go_end0;exact⟨⟨_,rfl⟩,.inl ⟨_,rfl,Z⟩⟩
theorem Hw (n:Nat)(hn:1<=n)(a:Option Addr)(len cap:Nat)(G:len<=10000)(nz:len<=cap)(ha:len≠0->∃g off,a=some ⟨g,off,none⟩)(z y:Nat)(w:World)
  (tV:bm w z #[.slice a len cap] 32) (J7:bm w y #[.int .i64 3] 3):
  SeqStopsK Fence.wide n Tryz.prog 234 #[.pointer (some ⟨z,0,none⟩),.pointer (some ⟨y,0,none⟩)] (λx=> #[Xt a len x]) (KpC z y) (λys=>ys=List.range ((len+2)/3)) (λ_=>True) ((len+2)/3) w:=by
 intro l J Z W hW hJ aa hY hj;have U:bm W z #[.slice a len cap] 32 :=(hW.block z tV.lt).trans tV;have V:bm W y #[.int .i64 3] 3 :=(hW.block y J7.lt).trans J7;by_cases h:len=0
 ·subst h
  exact NQ n l z y a cap J Z W U hj
 ·obtain⟨g,off,rfl⟩:=ha h
  exact NP n l z y g off len cap hn G nz J Z _ hJ hY W U V hj
end Go.Proofs.YtcecbdeamjigiaaGreatDoor
namespace Go.Proofs.YtcecbdeamjigiaaGreatDoor
open Go.RowKit
variable{a l:List Int}{T b c f g j k off t:Nat}{E:List (ByteArray×Int)}{w:World}{v:Value}{P:Program}{Z tmps:Array Value}{s:ByteArray}{y:Array Oper}{o:Oper}{Q:Exit->Act->World->Prop}
def zn (x:Int):Prop:=0<x/\x<256
instance (x:Int):Decidable (zn x):=by unfold zn;infer_instance
def jy (l:List Int) (j:Nat):Prop:=0<j/\j<13/\zn (l.getD j 0)/\zn (l.getD (j-1) 0)/\l.getD j 0=l.getD (j-1) 0+1
instance (l:List Int) (j:Nat):Decidable (jy l j):=by unfold jy;infer_instance
def lA (l:List Int):Nat->Nat->Nat
 |0,e=>e
 |f+1,e=>if jy l e then lA l f (e+1) else e
theorem Hx (l:List Int)(j:Nat)(z:¬jy l j):∀(f e:Nat),e<=j->j-e<=f->(∀i,e<=i->i<j->jy l i)->lA l f e=j
 |0,e,h1,h2,_=>by unfold lA;omega
 |f+1,e,h1,h2,h3=>by
  unfold lA;by_cases h:e=j
  ·subst h;rw[aA z]
  ·rw[aB (h3 e (aG _) (by omega))]
   exact Hx l j z f (e+1) (by omega) (by omega) λi G y=>h3 i (by omega) y
def oC (l:List Int) (k:Nat):Prop:=zn (l.getD k 0)/\¬jy l k
instance (l:List Int) (k:Nat):Decidable (oC l k):=by unfold oC;infer_instance
def nL (l:List Int) (k:Nat):Nat:=lA l 13 (k+1)-k
def p9 (k:Nat) (b:Int) (n:Nat):Int:=(k:Int)*4294967296+b*256+(n:Int)
def eA (l:List Int):Nat->List Int
 |0=>[]
 |k+1=>if oC l k then eA l k++[p9 k (l.getD k 0) (nL l k)] else eA l k
def eB (l:List Int):List Int:=eA l 13
theorem jM (l:List Int):∀k,(eA l k).length<=k
 |0=>by simp[eA]
 |k+1=>by
  unfold eA;have :=jM l k;split
  ·rw[aF,List.length_singleton];omega
  ·omega
theorem zo (l:List Int)(f:Nat):∀j,f<=j->(∀i,f<=i->i<j->jy l i)->eA l j=eA l f
 |0,h,_=>by have :f=0:=by omega
            subst this;rfl
 |j+1,h,hc=>by
  by_cases e:f=j+1
  ·subst e;rfl
  ·rw[eA,aA (λy=>y.2 (hc j (by omega) (by omega)))]
   exact zo l f j (by omega) λi z G=>hc i z (by omega)
theorem vt (J:oC l f)(U:f<j)(V:j<=13)(y:∀i,f<i->i<j->jy l i)(z:¬jy l j):eA l j=eA l f++[p9 f (l.getD f 0) (j-f)]:=by
 rw[zo l (f+1) j (by omega) (λi G h=>y i (by omega) h),eA,aB J,nL,Hx l j z 13 (f+1) (by omega) (by omega) λi G h=>y i (by omega) h]
theorem Hy (h:¬zn (l.getD f 0)):eA l (f+1)=eA l f:=by
 rw[eA,aA (λy=>h y.1)]
theorem Vi (z:∀i,f<i->i<j->jy l i):∀i,f<=i->i<j->l.getD i 0=l.getD f 0+((i-f:Nat):Int):=by
 intro i;induction i with
 |zero=>intro h _;have :f=0:=by omega
        subst this;simp
 |succ i ih=>
  intro G y;by_cases e:f=i+1
  ·subst e;simp
  ·have h:=(z (i+1) (by omega) y).2.2.2.2
   rw[fw] at h;rw[h,ih (by omega) (by omega)];omega
theorem MA (h:zn (l.getD f 0))(z:∀i,f<i->i<j->jy l i)(i:Nat)(G:f<=i)(y:i<j):zn (l.getD i 0):=by
 by_cases e:f=i
 ·subst e;exact h
 ·exact(z i (by omega) y).2.2.1
theorem RG (y:zn (l.getD f 0))(z:f<j)(G:∀i,f<i->i<j->jy l i):jy l j↔j<13/\zn (l.getD j 0)/\l.getD j 0=l.getD (j-1) 0+1:=by
 unfold jy;exact⟨λh=>⟨h.2.1,h.2.2.1,h.2.2.2.2⟩,λh=>⟨by omega,h.1,h.2.1,MA y G _ (by omega) (by omega),h.2.2⟩⟩
end Go.Proofs.YtcecbdeamjigiaaGreatDoor
