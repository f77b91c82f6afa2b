/- Lemmas. -/
import Derived.Test.YtimcfdnbpkiniaaGreatDoorChecked
import Derived.Lib.BufferWrite
import Derived.Laws.IdiomStrings
import Derived.Test.YtimcfdnbpkiniaaGreatDoorM02
import Derived.RangeFuncNested
import Derived.RangeFuncBound
import Derived.Shelf.Abstract
import Derived.Shelf.RegionOpen
import Derived.OwnWalkIn
import Derived.TacticsInMore
import Derived.LoopNIn
import Derived.LoopIn
set_option maxHeartbeats 2000000
set_option maxRecDepth 100000
namespace Go.Proofs.YtimcfdnbpkiniaaGreatDoor
open Go.Proofs.Tryz
section
open Go.RowKit
variable{a l:List Int}{T b c f g j k off t:Nat}{E:List (ByteArray×Int)}{w:World}{v:Value}{P:Program}{Z tmps:Array Value}{s:ByteArray}{z:Array Oper}{o:Oper}{Q:Exit->Act->World->Prop}{fn:Func}
def zs (l:List Int):List Value:=l.map (Value.int .i64)
theorem eO (l:List Int):(zs l).length=l.length:=by simp[zs]
theorem gK (h:j<l.length):(zs l)[j]? =some (.int .i64 (l.getD j 0)):=by simp[zs,h]
theorem Xx (l:List Int)(j:Nat)(x:Int):(zs l).set j (.int .i64 x)=zs (l.set j x):=by simp[zs,List.map_set]
theorem yQ (xs h:List Int):zs (xs++h)=zs xs++zs h:=by simp[zs]
theorem nB (l:List Int):∀u∈zs l,u.oneCell'=true:=by
 intro u h;simp only[zs,bH] at h;obtain⟨x,-,rfl⟩:=h;rfl
def fe (E:List (ByteArray×Int)):List Value:=E.flatMap λp=>[.string p.1,.int .i64 p.2]
def eX (E:List (ByteArray×Int)) (j:Nat):ByteArray:=(E.getD j (ByteArray.empty,0)).1
def jm (E:List (ByteArray×Int)) (j:Nat):Int:=(E.getD j (ByteArray.empty,0)).2
theorem MQ (p:ByteArray×Int)(E:List (ByteArray×Int))(j:Nat):eX (p::E) (j+1)=eX E j:=rfl
theorem MR (p:ByteArray×Int)(E:List (ByteArray×Int))(j:Nat):jm (p::E) (j+1)=jm E j:=rfl
theorem Xy (h:k<E.length):(eX E k,jm E k)∈E:=by
 have :E.getD k (ByteArray.empty,0)=E[k]:=by simp[h]
 rw[eX,jm,this];exact bF h
theorem Xz{F:List (ByteArray×Int)}(J:E.length=F.length)(h:∀k,k<E.length->eX E k=eX F k/\jm E k=jm F k):E=F:=by
 apply cV J;intro k z V;have :=h k z;have U:E.getD k (ByteArray.empty,0)=E[k]:=by simp[z]
 have G:F.getD k (ByteArray.empty,0)=F[k]:=by simp[V]
 rw[eX,eX,jm,jm,U,G] at this;exact Prod.ext this.1 this.2
theorem lT (E:List (ByteArray×Int)):(fe E).length=E.length*2:=by
 induction E with
 |nil=>rfl
 |cons p E ih=>simp[fe] at ih ⊢;omega
theorem qJ (E F:List (ByteArray×Int)):fe (E++F)=fe E++fe F:=by simp[fe]
theorem ql (E:List (ByteArray×Int)):∀k,k<E.length->(fe E)[k*2]? =some (.string (eX E k))/\(fe E)[k*2+1]? =some (.int .i64 (jm E k)):=by
 induction E with
 |nil=>intro k h;simp at h
 |cons p E ih=>
  intro k h;have z:fe (p::E)= .string p.1:: .int .i64 p.2::fe E:=rfl;cases k with
  |zero=>rw[z];exact⟨rfl,rfl⟩
  |succ k=>
   have :=ih k (by simpa using h);rw[z,show(k+1)*2=k*2+1+1 by omega,MQ,MR];simp only[dU];exact this
theorem Ak (E:List (ByteArray×Int)):∀u∈fe E,u.oneCell'=true:=by
 intro u h;simp only[fe,List.mem_flatMap,aL,aK,bC] at h;obtain⟨p,-,rfl|rfl⟩:=h<;>rfl
def bD (w:World) (v:Value) (g:Nat) (E:List (ByteArray×Int)):Prop:=
 ∃a cap,v= .slice a E.length cap/\E.length<=cap/\cap<=maxLen/\(E.length≠0->g<w.heap.size/\∃off,a=some ⟨g,off,none⟩/\
  ∀j,j<E.length->w.cell? ⟨g,off+j*2,none⟩=some (.string (eX E j))/\w.cell? ⟨g,off+j*2+1,none⟩=some (.int .i64 (jm E j)))
theorem bD.keep{w':World}(h:bD w v g E){l:List Nat}(G:ay l w w')(hg:E.length≠0->g∉l):bD w' v g E:=by
 obtain⟨a,cap,h1,h2,h3,h4⟩:=h;refine⟨a,cap,h1,h2,h3,λV=> ?_⟩;obtain⟨z,off,h5,W⟩:=h4 V;refine⟨bS z G.size,off,h5,λj U=> ?_⟩;have J:=G.block g z (hg V);exact⟨(aO (w:=w) (w':=w') (a:=⟨g,off+j*2,none⟩) J).trans (W j U).1,(aO (w:=w) (w':=w') (a:=⟨g,off+j*2+1,none⟩) J).trans (W j U).2⟩
theorem bD.open(h:bD w v g E):∃a cap,v= .slice a E.length cap/\E.length<=cap/\cap<=maxLen/\
  Hid (∀k,k<E.length->g<w.heap.size/\∃off,a=some ⟨g,off,none⟩/\w.cell? ⟨g,off+k*2,none⟩=some (.string (eX E k))/\w.cell? ⟨g,off+k*2+1,none⟩=some (.int .i64 (jm E k))):=by
 obtain⟨a,cap,J,W,V,U⟩:=h;refine⟨a,cap,J,W,V,λk G=> ?_⟩;obtain⟨h5,off,h6,z⟩:=U (by omega);exact⟨h5,off,h6,z k G⟩
theorem bD.apart(h:bD w v g E){l:List Nat}(U:∀x,x∈l->w.heap.size<=x):E.length≠0->g∉l:=λz J=>by
 obtain⟨a,cap,V,h2,W,G⟩:=h;have :=(G z).1;have :=U g J;omega
theorem bD.nil(w:World)(g:Nat):bD w (.slice none 0 0) g []:=⟨none,0,rfl,by simp,by simp[maxLen],λh=>absurd rfl h⟩
theorem bD.anyG(h:bD w v g E)(G:E.length=0)(V:Nat):bD w v V E:=by
 obtain⟨a,cap,z,U,J,W⟩:=h;exact⟨a,cap,z,U,J,λh=>absurd G h⟩
theorem eZ.ereads{n:Nat}(h:eZ w v g T 2 n (fe E))(hn:n=E.length):bD w v g E:=by
 subst hn;obtain⟨a,cap,U,V,h2⟩:=h.val;refine⟨a,cap,U,V,h2,λW=> ?_⟩;obtain⟨hg,⟨J,z,-,-⟩,G,-⟩:=h.cell W;rw[U] at z;cases z;refine⟨hg,0,rfl,λj hj=> ?_⟩;rw[bc,G (j*2) (by omega),G (j*2+1) (by omega)];exact ql E j hj
structure bT where
 F:Int
 K:Int
 L:Int
 S:Int
 B:List Int
 E:List (ByteArray×Int)
def mZ (n:bT) (v:Value):List Value:= .int .i64 n.F:: .int .i64 n.K:: .int .i64 n.L:: .int .i64 n.S::(zs n.B++[v])
def aM (n:bT) (v:Value):Array Value:=(mZ n v).toArray
theorem gM (n:bT)(v:Value):(mZ n v).length=n.B.length+5:=by simp[mZ,eO]
theorem CE{n:bT}(v:Value){k:Nat}(h:k<n.B.length):(aM n v)[4+k]? =some (.int .i64 (n.B.getD k 0)):=by
 rw[aM,aF,mZ,show 4+k=k+1+1+1+1 by omega];simp only[dU];rw[ba (by rw[eO];exact h),gK h]
theorem Al{n:bT}(v:Value)(h:n.B.length=13):(aM n v)[17]? =some v:=by
 rw[aM,aF,mZ];simp only[dU];rw[aR (by rw[eO,h];omega),eO,h];rfl
structure Sk (Z:Array Value) (n:bT) (v:Value):Prop where
 f0:Z[0]? =some (.int .i64 n.F)
 f1:Z[1]? =some (.int .i64 n.K)
 f2:Z[2]? =some (.int .i64 n.L)
 f3:Z[3]? =some (.int .i64 n.S)
 f4:∀k,k<13->Z[4+k]? =some (.int .i64 (n.B.getD k 0))
 f5:Z[17]? =some v
 len:n.B.length=13
 eq:Z=aM n v
theorem gG{n:bT}(v:Value)(h:n.B.length=13):Sk (aM n v) n v:=
 ⟨rfl,rfl,rfl,rfl,λ_ z=>CE v (by omega),Al v h,h,rfl⟩
theorem DW{m:List Int}(G:l.length=m.length)(h:∀k,k<l.length->l.getD k 0=m.getD k 0):l=m:=by
 apply cV G;intro k z J;have :=h k z;simpa[aj,z,J] using this
theorem qm (w:World)(d:Nat)(t e:TypeId)(len:Nat)(k k':IntKind)(a b:List Int)(ht:P.underlying t=some (.array len e))(he:P.underlying e=some (.int k'))(hz:(P.info? e).map (·.size)=some 1)
  (ha:a.length=len) (hb:b.length=len):
  (Op.equalIn (d+2) t (.agg (a.map (Value.int k)).toArray) (.agg (b.map (Value.int k)).toArray)).run P w= .ok (decide (a=b)) w:=by
 have Sl:∀(l:List Int) (i:Nat) (z:World),i<l.length->(part e (l.map (Value.int k)).toArray i).run P z= .ok (.int k (l.getD i 0)) z:=by
  intro l i z hi;have J:(isAgg e).run P z= .ok false z:=by
   unfold isAgg;rw[cr,dB he z];rfl
  unfold part;rw[cr,J];simp[hi]
 have W:∀z:World,(sizeOf e).run P z= .ok 1 z:=by
  intro z;cases hq:P.info? e with
  |none=>simp[hq] at hz
  |some i=>simp[sizeOf,typeInfo,hq] at hz ⊢;exact hz
 have aa:∀(x y:Int) (z:World),(Op.equalIn (d+1) e (.int k x) (.int k y)).run P z= .ok (x==y) z:=λx y z=>run_equalIn_int z d e k k' x y he
 rw[Op.equalIn];simp only[cr,dB ht,cO,W,Std.Legacy.Range.forIn_eq_forIn_range',Std.Legacy.Range.size,Nat.sub_zero,ib,Nat.div_one,iJ];have ac:∀(m s:Nat),s+m=len->Sem.run P (forIn (List.range' s m) ((none:Option Bool),()) λi _=>do
      let x <-part e (List.map (Value.int k) a).toArray i
      let y <-part e (List.map (Value.int k) b).toArray i
      let r <-Op.equalIn (d+1) e x y
      if (!r)=true then pure (ForInStep.done (some false,())) else pure (ForInStep.yield (none,()))) w= .ok (if a.drop s=b.drop s then none else some false,()) w:=by
  intro m;induction m with
  |zero=>
   intro s hs;rw[dz (by omega),dz (by omega),aB rfl];simp
  |succ m ih=>
   intro s hs;have U:s<a.length:=by omega
   have V:s<b.length:=by omega
   rw[List.range'_succ,List.forIn_cons];simp only[cr,Sl a s w U,Sl b s w V,cO,aa];rw[fG U,fG V];have g1:a.getD s 0=a[s]:=by simp[U]
   have g2:b.getD s 0=b[s]:=by simp[V]
   by_cases G:a[s]=b[s]
   ·rw[g1,g2,G]
    have :=ih (s+1) (by omega);simp only[BEq.rfl,Bool.not_true,Bool.false_eq_true,if_false,fQ,cO,j4,true_and];exact this
   ·have ae:(a[s]==b[s])=false:=by simpa using G
    rw[g1,g2,ae];simp;intro hd;rw[fG U,fG V] at hd;exact absurd (List.cons.inj hd).1 G
 rw[ac len 0 (by omega)];by_cases h:a=b
 ·simp[h]
 ·simp[h]
theorem mb (t e:TypeId)(len:Nat)(k':IntKind)(Z:Array Value)(k:Nat)(v:Value)(W:P.underlying t=some (.array len e))(he:P.underlying e=some (.int k'))(U:(P.info? e).map (·.size)=some 1)
  (hk:k<len) (V:Z[k]? =some v) (w:World):(Instr.index t (.agg Z) (.int .i64 (k:Int))).run P w= .ok v w:=by
 have G:∀J:World,(sizeOf e).run P J= .ok 1 J:=by
  intro J;cases hq:P.info? e with
  |none=>simp[hq] at U
  |some i=>simp[sizeOf,typeInfo,hq] at U ⊢;exact U
 have z:(isAgg e).run P w= .ok false w:=by
  unfold isAgg;rw[cr,dB he w];rfl
 have hi:(0:Int)<=(k:Int)/\(k:Int)<(len:Int):=by omega
 unfold Instr.index;simp[dB W,hi,G,part,z,V,asIntOf];intro h;omega
theorem mf:(prog.info? 73).map (·.size)=some 13:=by kernel_rfl
theorem Sm:(prog.info? 249).map (·.size)=some 8:=by kernel_rfl
theorem ja:(prog.info? 132).map (·.size)=some 8:=by kernel_rfl
theorem XA:(prog.info? 248).map (·.size)=some 13:=by kernel_rfl
theorem iX:(prog.info? 75).map (·.size)=some 18:=by kernel_rfl
theorem oU:(prog.info? 3).map (·.size)=some 1:=by kernel_rfl
theorem pC (w:World):(zeroValue 73).run prog w= .ok (.agg (zs (List.replicate 13 0)).toArray) w:=by kernel_rfl
theorem KT (w:World):(zeroValue 249).run prog w= .ok (.agg (zs (List.replicate 8 0)).toArray) w:=by kernel_rfl
theorem lq (w:World):(zeroValue 132).run prog w= .ok (.agg (aY (List.replicate 8 0)).toArray) w:=by kernel_rfl
theorem XB (w:World):(zeroValue 248).run prog w= .ok (.agg (aY (List.replicate 13 0)).toArray) w:=by kernel_rfl
def ck:bT:=⟨0,0,0,0,List.replicate 13 0,[]⟩
theorem dA (w:World):(zeroValue 75).run prog w= .ok (.agg (aM ck (.slice none 0 0))) w:=by kernel_rfl
theorem P9{b:List Int}(h:a.length=13)(z:b.length=13)(w:World):(Op.equalIn 10000 73 (.agg (zs a).toArray) (.agg (zs b).toArray)).run prog w= .ok (decide (a=b)) w:=
 qm w 9998 73 3 13 .i64 .i64 a b underlying73 underlying3 oU h z
theorem acS{b:List Int}(h:a.length=8)(z:b.length=8)(w:World):(Op.equalIn 10000 249 (.agg (zs a).toArray) (.agg (zs b).toArray)).run prog w= .ok (decide (a=b)) w:=
 qm w 9998 249 3 8 .i64 .i64 a b underlying249 underlying3 oU h z
theorem MS{b:List Int}(h:a.length=8)(z:b.length=8)(w:World):(Op.equalIn 10000 132 (.agg (aY a).toArray) (.agg (aY b).toArray)).run prog w= .ok (decide (a=b)) w:=
 qm w 9998 132 70 8 .u64 .u64 a b underlying132 underlying70 qN h z
theorem CF: prog.eqGuardType prog.depth 73 =false:=by kernel_rfl
theorem MT: prog.eqGuardType prog.depth 249 =false:=by kernel_rfl
theorem xW: prog.eqGuardType prog.depth 132 =false:=by kernel_rfl
theorem yR (z:k<13)(h:Z[k]? =some v)(w:World):(Instr.index 73 (.agg Z) (.int .i64 (k:Int))).run prog w= .ok v w:=
 mb 73 3 13 .i64 Z k v underlying73 underlying3 oU z h w
theorem XC (z:k<8)(h:Z[k]? =some v)(w:World):(Instr.index 249 (.agg Z) (.int .i64 (k:Int))).run prog w= .ok v w:=
 mb 249 3 8 .i64 Z k v underlying249 underlying3 oU z h w
theorem XD (z:k<8)(h:Z[k]? =some v)(w:World):(Instr.index 132 (.agg Z) (.int .i64 (k:Int))).run prog w= .ok v w:=
 mb 132 70 8 .u64 Z k v underlying132 underlying70 qN z h w
theorem TW (z:k<13)(h:Z[k]? =some v)(w:World):(Instr.index 248 (.agg Z) (.int .i64 (k:Int))).run prog w= .ok v w:=
 mb 248 70 13 .u64 Z k v underlying248 underlying70 qN z h w
theorem fA (G:bh w g Z T)(h:l.length=13)(J:∀k,k<13->Z[off+k]? =some (.int .i64 (l.getD k 0))):
  (loadVar 73 ⟨g,off,none⟩).run prog w= .ok (.agg (zs l).toArray) w:=
 bZ g off (zs l) underlying73 rfl (by rw[eO,h];exact mf) λj z=>by
  rw[eO,h] at z;rw[G.cell,J j z,gK (by omega)]
theorem fN (z:bh w g (aY l).toArray T)(h:l.length=8):
  (loadVar 132 g).run prog w= .ok (.agg (aY l).toArray) w:=
 bZ g 0 (aY l) underlying132 rfl (by rw[bB,h];exact ja) λj _=>by
  rw[z.cell,bc,aF]
theorem XE (z:bh w g (aY l).toArray T)(h:l.length=13):
  (loadVar 248 g).run prog w= .ok (.agg (aY l).toArray) w:=
 bZ g 0 (aY l) underlying248 rfl (by rw[bB,h];exact XA) λj _=>by
  rw[z.cell,bc,aF]
theorem Sn (G:bh w g Z T)(h:l.length=8)(J:∀k,k<8->Z[off+k]? =some (.int .i64 (l.getD k 0))):
  (loadVar 249 ⟨g,off,none⟩).run prog w= .ok (.agg (zs l).toArray) w:=
 bZ g off (zs l) underlying249 rfl (by rw[eO,h];exact Sm) λj z=>by
  rw[eO,h] at z;rw[G.cell,J j z,gK (by omega)]
theorem cg{n:bT}(z:bh w g (aM n v) T)(h:n.B.length=13):
  (loadVar 75 g).run prog w= .ok (.agg (aM n v)) w:=
 bZ g 0 (mZ n v) underlying75 rfl (by rw[gM,h];exact iX) λj _=>by
  rw[z.cell,bc,aM,aF]
theorem bG{ty:Nat}{cs:List Value}{h:Array Value}(J:(P.info? ty).map (·.size)=some cs.length)(z:bh w g h T)(U:h.size=cs.length)(G:∀v∈cs,v.oneCell'=true):
  ∃w',(storeVar ty ⟨g,0,none⟩ (.agg cs.toArray)).run P w= .ok () w'/\bh w' g cs.toArray T/\ay [g] w w':=by
 refine⟨_,jK g 0 cs h J z (by omega) G,?_,(ay.refl _ _).setRow (by simp) _⟩;have e:(h.toList.take 0++cs++h.toList.drop (0+cs.length)).toArray=cs.toArray:=by
  rw[dz (by simp;omega)];simp
 rw[e];exact kr z
theorem kY{n:bT}(z:v.oneCell'=true):∀u∈mZ n v,u.oneCell'=true:=by
 intro u h;simp only[mZ,aL,aT,aK,bC] at h;rcases h with rfl|rfl|rfl|rfl|h|rfl
 all_goals first|rfl|exact z|exact nB _ u h
def pj (l:List Nat):List Value:=l.map λc:Nat=>Value.int .u8 (c:Int)
theorem yS (l:List Nat):(pj l).length=l.length:=by simp[pj]
theorem Bj{l:List Nat}(h:j<l.length):(pj l)[j]? =some (.int .u8 (l.getD j 0:Nat)):=by simp[pj,h]
theorem aa6 (l:List Nat):∀u∈pj l,u.oneCell'=true:=by
 intro u h;simp only[pj,bH] at h;obtain⟨x,-,rfl⟩:=h;rfl
theorem adw{α:Type}{l:List α}(h:l.length=8):∃z G J U x4 V x6 W,l=[z,G,J,U,x4,V,x6,W]:=by
 match l,h with
 | [z,G,J,U,x4,V,x6,W],_=>exact⟨z,G,J,U,x4,V,x6,W,rfl⟩
theorem DX (l:List Nat)(h:l.length=8)(k:Nat)(J:k<8)(w:World):(Instr.index 205 (.agg (pj l).toArray) (.int .i64 (k:Int))).run prog w= .ok (.int .u8 (l.getD k 0:Nat)) w:=by
 obtain⟨G,U,V,W,x4,x5,x6,x7,rfl⟩:=adw h;have z:k=0\/k=1\/k=2\/k=3\/k=4\/k=5\/k=6\/k=7:=by omega
 rcases z with rfl|rfl|rfl|rfl|rfl|rfl|rfl|rfl<;>(show Sem.run _ _ _=_;kernel_rfl)
theorem FU (n:Nat)(h:n<18446744073709551616):IntKind.u64.wrap (n:Int)=(n:Int):=by rw[fY];omega
theorem aa7 (k:Nat):2^(8*k)=256^k:=by rw[Nat.pow_mul]
theorem FV (G:c<256)(J:k<8):c*256^k<18446744073709551616:=by
 have h:256^k<=256^7:=jf (by decide) (by omega);have z:(256:Nat)^7=72057594037927936:=rfl;rw[z] at h;have :=Nat.mul_le_mul (show c<=255 by omega) h;omega
theorem aa8 (h:c<256)(z:k<8):IntKind.u64.wrap (IntKind.u64.wrap (c:Int)*2^(8*k))=((c*256^k:Nat):Int):=by
 rw[FU c (by omega),show(2:Int)^(8*k)=((256^k:Nat):Int) by rw[<-aa7];simp,<-Int.natCast_mul,FU _ (FV h z)]
theorem aa9{l:List Nat}(V:l.length=8)(J:∀c∈l,c<256){k:Nat}(h:k<8):
  bits .or .u64 ((l7 (l.take k):Nat):Int) (IntKind.u64.wrap (IntKind.u64.wrap ((l.getD k 0:Nat):Int)*2^(8*k)))=((l7 (l.take (k+1)):Nat):Int):=by
 have z:l.getD k 0<256:=by
  rw[aj,aD (by omega)];exact J _ (bF _)
 have G:=FA (Sc J k);rw[aJ,cT (by omega)] at G;have U:256^k<=256^7:=jf (by decide) (by omega);rw[show(256:Nat)^7=72057594037927936 from rfl] at U;rw[aa8 z h,u64_or_nat _ _ (by omega) (FV z h),EB l k (by omega),Nat.or_comm,nat_join (8*k) _ _ (by rw[aa7];exact Nat.mul_mod_left _ _) (by rw[aa7];exact G),Nat.add_comm]
theorem Sq (l:List Nat)(J:l.length=8)(hb:∀c∈l,c<256)(w:World):
  Calls prog 158 #[(pj l).toArray] w λe w'=>e= .returned (.int .u64 (l7 l:Nat))/\ay [] w w':=by
 have Iu:=λk W=>DX l J k W
 have ot:∀G:World,(∀j,j<8->G.cell? ⟨w.heap.size,j,none⟩=(pj l)[j]?)->(loadVar 205 w.heap.size).run prog G= .ok (.agg (pj l).toArray) G:=λG hc=>
  bZ w.heap.size 0 (pj l) underlying205 rfl (by rw[yS,J];kernel_rfl) λj V=>by
   rw[yS,J] at V;rw[bc];exact hc j V
 obtain⟨mY,U⟩:=hh2 (ot (w.alloc (.cells (pj l).toArray 205)) λj V=>by rw[(bh.new w (pj l).toArray 205).cell];simp) Iu;clear ot Iu;go_in;go_wp2_with(with_reducible refine gL 205 mY.out ?_);clear mY;go_loop [3,7] (λs3 s7=>∃k:Nat,k<=8/\s7= .int .i64 (k:Int)/\s3= .int .u64 (l7 (l.take k):Nat)) (λ_ i=>8-(intOf i).toNat)
 case atStart=>exact⟨0,by omega,rfl,rfl⟩
 case round=>
  obtain⟨k,W,rfl,rfl⟩:=hrel;by_cases z:k<8
  ·have hx:=U.out k z
   have h:(k:Int)<8:=by omega
   have HO:=ar (aa9 J hb z);generalize l.getD k 0=c at *;go_wp2_with fail
   go_round
   case rel=>
    refine⟨k+1,by omega,by go_num,?_⟩;rw[<-HO.out]
   case measure=>simp[intOf];omega
  ·have h:¬(k:Int)<8:=by omega
   obtain rfl:k=8:=by omega
   rw[aW (by omega)];go_wp2_with fail;go_ret;exact⟨rfl,(ay.refl _ _).alloc _⟩
theorem Tryz.info_bytes:(prog.info? 205).map (·.size)=some 8:=by kernel_rfl
def pD (W k:Nat):List Nat:=(List.range 8).map λj=>if j<k then rJ W j else 0
theorem JC (W:Nat):pD W 8=lN W:=by
 unfold pD lN;apply dP;intro j h;rw[aB (by simpa using h)]
theorem TX (W k:Nat)(G:k<8):(pj (pD W k)).set k (.int .u8 (rJ W k:Nat))=pj (pD W (k+1)):=by
 apply cE;intro j;rw[fh];simp only[pj,pD,bJ,bY,fL];by_cases h:k=j
 ·subst h
  simp[G]
 ·rw[aA h]
  by_cases z:j<8
  ·simp only[z,cC,fU]
   simp only[show j<k+1↔j<k by omega]
  ·simp[z]
theorem uS (W k:Nat):(pD W k).length=8:=by simp[pD]
theorem aba (W k:Nat):(W:Int)/2^(8*k)%256=((rJ W k:Nat):Int):=by
 rw[show(2:Int)^(8*k)=((256^k:Nat):Int) by rw[<-aa7];simp];rfl
theorem FW{l:List Nat}(z:l.length=8)(h:bh w b (pj l).toArray 205):(loadVar 205 b).run prog w= .ok (.agg (pj l).toArray) w:=
 bZ b 0 (pj l) underlying205 rfl (by rw[yS,z];exact Tryz.info_bytes) λj _=>by rw[h.cell];simp
theorem xX{l m:List Nat}(G:l.length=8)(z:m.length=8)(h:bh w b (pj l).toArray 205):
  ∃w',(storeVar 205 b (.agg (pj m).toArray)).run prog w= .ok () w'/\bh w' b (pj m).toArray 205/\ay [b] w w':=by
 have J:=jK (P:= prog) (ty:= 205) b 0 (pj m) _ (by rw[yS,z];exact Tryz.info_bytes) h (by simp[yS,G,z]) (aa6 m);refine⟨_,J,?_,(ay.refl _ _).setRow (by simp) _⟩;have :=setRow_heap _ b _ (List.take 0 (pj l).toArray.toList++pj m++List.drop (0+(pj m).length) (pj l).toArray.toList).toArray _ _ h;unfold bh;rw[this];simp[dz,yS,G,z]
theorem Am (W:Nat):(#[.int .u8 0,.int .u8 0,.int .u8 0,.int .u8 0,.int .u8 0,.int .u8 0,.int .u8 0,.int .u8 0]:Array Value)=(pj (pD W 0)).toArray:=by
 simp[pj,pD,List.range,List.range.loop]
theorem Bk (W:Nat)(w:World):
  Calls prog 154 #[.int .u64 (W:Int)] w λe w'=>e=(pj (lN W)).toArray/\ay [] w w':=by
 go_in;go_wp2_with fail;go_loopg [5] 8 (λg s5 G=>∃k:Nat,k+g=8/\s5= .int .i64 (k:Int)/\Hid (bh G (w.heap.size+1) (pj (pD W k)).toArray 205/\bh G w.heap.size (pj (pD W 0)).toArray 205/\ay [] w G))
 case atStart=>
  refine⟨0,by omega,rfl,?_,?_,((ay.refl _ _).alloc _).alloc _⟩
  ·have :=bh.new (w.alloc (.cells (pj (pD W 0)).toArray 205)) (pj (pD W 0)).toArray 205
   simpa[Am W] using this
  ·have :=(bh.new w (pj (pD W 0)).toArray 205).alloc (.cells (pj (pD W 0)).toArray 205)
   simpa[Am W] using this
 case round=>
  obtain⟨k,uA,rfl,z⟩:=hrel;cases gk with
  |zero=>
   obtain rfl:k=8:=by omega
   have V:=ar (FW (uS W 8) z.out.1);obtain⟨w2,U,h,J⟩:=xX (uS W 0) (uS W 8) z.out.2.1;have HS:=ar U;rw[JC] at h;have HB:Hid (∀j,j<8->w2.cell? ⟨w.heap.size,j,none⟩=some (.int .u8 (rJ W j:Nat))):=λj hj=>by
    rw[h.cell,<-uL W j hj];simpa using Bj (l:=lN W) (j:=j) (by rw[l8];omega)
   have HK:=ar (z.out.2.2.trans J (by simp));clear U h J z;rw[JC] at V HS;go_wp2_with(with_reducible first|refine gL 205 V.out ?_|refine gS 205 HS.out ?_);have h:=HB.out;exact aI (v:= .agg (pj (lN W)).toArray) (by simp[results,results154,go_sem,h 0,h 1,h 2,h 3,h 4,h 5,h 6,h 7,pj,lN,List.range,List.range.loop]) rfl ⟨rfl,HK.out⟩
  |succ g=>
   have aa:(k:Int)<8:=by omega
   have hc:wr.cell? ⟨w.heap.size+1,k,none⟩=some (.int .u8 ((pD W k).getD k 0:Nat)):=by
    rw[z.out.1.cell];simpa using Bj (l:=pD W k) (j:=k) (by rw[uS];omega)
   have hf:wr.frozen? ⟨w.heap.size+1,k,none⟩=false:=z.out.1.frozen _;generalize (pD W k).getD k 0=c at *;go_wp2_with fail;go_roundg g;case measure=>omega
   case rel=>
    refine⟨k+1,by omega,by go_num,?_⟩;rw[aba];refine⟨?_,z.out.2.1.other (by simp) _,z.out.2.2.setCell (.inr (by simp)) _⟩;have :=z.out.1.set k (.int .u8 (rJ W k:Nat));rw[ag,TX W k (by omega)] at this;exact this
def bl (s:ByteArray):List Nat:=s.data.toList.map UInt8.toNat
theorem mB (s:ByteArray):(bl s).length=s.size:=by simp[bl]
theorem Bl (s:ByteArray):∀c∈bl s,c<256:=by
 intro c h;simp only[bl,bH] at h;obtain⟨x,-,rfl⟩:=h;exact x.toNat_lt
theorem adx (s:ByteArray)(k:Nat)(h:k<s.size):(bl s).getD k 0=s[k].toNat:=by
 simp[bl,h];rfl
theorem KU{t:ByteArray}(h:bl s=bl t):s=t:=by
 apply ByteArray.ext;apply Array.toList_inj.1;have :=List.map_inj_right (f:=UInt8.toNat) (λa b e=>UInt8.toNat_inj.1 e) |>.1 h;exact this
theorem MU (c:Nat)(w:World):Calls prog 203 #[.int .u8 (c:Int)] w λe w'=>e=(nY c:Bool)/\w=w':=by
 by_cases z:33<=c
 ·by_cases G:c<=126
  ·by_cases h:c=47
   ·subst h
    go_in;go_wp2;go_ret;exact⟨rfl,rfl⟩
   ·have e:nY c=true:=by simp[nY,z,G,h]
    have J:((c:Int) != 47)=true:=by simp;omega
    rw[e];clear e h;go_in;go_wp2;go_ret;exact⟨rfl,rfl⟩
  ·have e:nY c=false:=by simp[nY,G]
   rw[e];go_in;go_wp2;go_ret;exact⟨rfl,rfl⟩
 ·have e:nY c=false:=by simp[nY,z]
  rw[e];go_in;go_wp2;go_ret;exact⟨rfl,rfl⟩
theorem IH (l:List Nat)(k:Nat)(h:k<l.length):(l.take (k+1)).all nY=((l.take k).all nY&&nY (l.getD k 0)):=by
 rw[bP h,List.all_append];simp[h]
theorem all_false{l:List Nat}(h:k<l.length)(z:nY (l.getD k 0)=false):l.all nY=false:=by
 rw[List.all_eq_false];refine⟨l.getD k 0,?_,by rw[z];simp⟩;rw[aj,aD h];exact bF _
theorem XF (z:s≠⟨#[46]⟩)(h:s≠⟨#[46,46]⟩)(G:1<=s.size)(V:s.size<=7):iu (bl s)=(bl s).all nY:=by
 have U:(bl s != [46])=true:=by
  simp only[bne_iff_ne,ne_eq];intro e;exact z (KU (t:=⟨#[46]⟩) e)
 have J:(bl s != [46,46])=true:=by
  simp only[bne_iff_ne,ne_eq];intro e;exact h (KU (t:=⟨#[46,46]⟩) e)
 simp[iu,mB,G,V,U,J]
theorem XG{l:List UInt8}(h:s≠⟨l.toArray⟩):(s.toList==l)=false:=by
 rw[jA];simp only[cL,ne_eq];intro e;apply h;apply ByteArray.ext;apply Array.toList_inj.1;rw[e]
theorem KV (s:ByteArray)(hs:s.size<=9223372036854775807)(w:World):Calls prog 176 #[.string s] w λe w'=>e=(iu (bl s):Bool)/\w=w':=by
 by_cases G:s=⟨#[46]⟩
 ·subst G
  go_in;go_wp2;go_ret;exact⟨rfl,rfl⟩
 by_cases z:s=⟨#[46,46]⟩
 ·subst z
  go_in;go_wp2;go_ret;exact⟨rfl,rfl⟩
 by_cases h1:1<=s.size
 ·by_cases h2:s.size<=7
  ·rw[XF G z h1 h2]
   have q1:(s.toList == [46])=false:=XG (l:=[46]) G;have q2:(s.toList == [46,46])=false:=XG (l:=[46,46]) z;have q3:decide ((s.size:Int)<1)=false:=by simp;omega
   have q4:decide (7<(s.size:Int))=false:=by simp;omega
   clear G z;go_in;go_wp2;go_loop [22] (λi=>∃k:Nat,k<=s.size/\i= .int .i64 (k:Int)/\Hid (((bl s).take k).all nY=true)) (λi=>s.size-(intOf i).toNat)
   case atStart=>exact⟨0,fD _,rfl,rfl⟩
   case round=>
    obtain⟨k,hk,rfl,W⟩:=hrel;by_cases h:k<s.size
    ·have J:(k:Int)<(s.size:Int):=by omega
     obtain⟨U,HB,HT⟩:=hh3 (MU (s[k].toNat) w) (adx s k h) (IH (bl s) k (by rw[mB];exact h));cases hb:nY s[k].toNat
     ·have V:=ar (all_false (l:=bl s) (k:=k) (by rw[mB];exact h) (by rw[HB.out];exact hb))
      rw[hb] at U;clear hb;go_wp2_with(go_at_call 203;refine C' U.out ?_);go_ret;exact⟨by rw[V.out];rfl,rfl⟩
     ·rw[hb] at U
      have V:=ar hb;clear hb;go_wp2_with(go_at_call 203;refine C' U.out ?_)
      go_round
      case rel=>exact⟨k+1,by omega,by go_num,by rw[HT.out,HB.out,V.out,W.out];rfl⟩
      case measure=>simp[intOf];omega
    ·obtain rfl:k=s.size:=by omega
     have J:¬(s.size:Int)<(s.size:Int):=by omega
     rw[aW (by rw[mB];exact aH _)] at W;go_wp2_with fail;go_ret;exact⟨by rw[W.out];rfl,rfl⟩
  ·have e:iu (bl s)=false:=by simp[iu,mB,h2]
   rw[e];clear e G z;go_in;go_wp2;go_ret;exact⟨rfl,rfl⟩
 ·have e:iu (bl s)=false:=by simp[iu,mB,h1]
  rw[e];clear e G z;go_in;go_wp2;go_ret;exact⟨rfl,rfl⟩
def xp (l:List Nat):ByteArray:=⟨(l.map UInt8.ofNat).toArray⟩
theorem Sr{l:List Nat}(h:∀c∈l,c<256):bl (xp l)=l:=by
 simp only[bl,xp,List.map_map]
 conv=>rhs;rw[<-List.map_id l]
 apply dP;intro c z;simp[Nat.mod_eq_of_lt (h c z)]
theorem Ff (s:ByteArray):xp (bl s)=s:=KU (Sr (Bl s))
theorem JD (l:List Nat):(xp l).size=l.length:=by simp[xp,ByteArray.size]
theorem Tryz.info_byte:(prog.info? 5).map (·.size)=some 1:=by kernel_rfl
def kZ (l:List Nat):Nat:=if iu l=true then rK l else 0
theorem abb{l:List Nat}(h:l.length<=7):(pj (l++List.replicate (8-l.length) 0)).set 7 (.int .u8 (l.length:Int))=pj (A5 l):=by
 have e:List.replicate (8-l.length) 0=List.replicate (7-l.length) 0++[0]:=by rw[show 8-l.length=7-l.length+1 by omega,List.replicate_succ']
 rw[e,<-aV,A5];generalize G:l++List.replicate (7-l.length) 0=A;have z:A.length=7:=by rw[<-G];simp;omega
 simp only[pj,ey,List.map_cons,List.map_nil];rw[dI _ _ (by simp[z])];simp[z]
theorem copied(h:s.size<=7)(z:bh w b (pj (List.replicate 8 0)).toArray 205):∃w',
  (Builtin.copy_ #[29,9] 3 #[.slice b 8 8,.string s]).run prog w= .ok (goInt s.size) w'/\bh w' b (pj (bl s++List.replicate (8-s.size) 0)).toArray 205/\ay [b] w w':=by
 have U:=Lib.run_copy_row_string (P:= prog) w 29 9 3 5 b 0 8 8 s _ _ underlying29 Tryz.info_byte z (by omega) (by simp[pj];omega);refine⟨_,U,?_,(ay.refl _ _).setRow (by simp) _⟩;unfold bh;rw[setRow_heap _ b _ _ _ _ z];have J:List.take 0 (pj (List.replicate 8 0)).toArray.toList++Lib.byteCells s.data.toList++List.drop (0+s.size) (pj (List.replicate 8 0)).toArray.toList=pj (bl s++List.replicate (8-s.size) 0):=by
  have G:pj (List.replicate 8 0)=List.replicate 8 (Value.int .u8 0):=by simp only[pj,jT];rfl
  rw[G,bc,eP,bQ,jB];simp only[pj,bl,Lib.byteCells,ey,List.map_map,jT];rfl
 rw[J]
theorem KW (s:ByteArray)(hs:s.size<=9223372036854775807)(w:World):Calls prog 222 #[.string s] w λe w'=>e= .returned (.tuple #[.int .u64 (kZ (bl s):Nat),(iu (bl s):Bool)])/\ay [] w w':=by
 have J:=ar (KV s hs w);unfold kZ;cases hg:iu (bl s)
 ·rw[hg] at J
  clear hg;go_in;go_wp2_with(go_at_call 176;refine C' J.out ?_);go_ret2;exact⟨rfl,ay.refl _ _⟩
 ·rw[hg] at J
  rw[aB rfl];obtain⟨l1,l2⟩:=oN hg;rw[mB] at l1 l2;clear hg;obtain⟨V,hc,U,W⟩:=copied l2 (bh.new w (pj (List.replicate 8 0)).toArray 205);have aa:V.cell? ⟨w.heap.size,7,none⟩=some (.int .u8 ((bl s++List.replicate (8-s.size) 0).getD 7 0:Nat)):=by
   rw[U.cell];simpa using Bj (l:=bl s++List.replicate (8-s.size) 0) (j:=7) (by simp[mB];omega)
  have ac:V.frozen? ⟨w.heap.size,7,none⟩=false:=U.frozen 7;have h:=U.set 7 (.int .u8 (s.size:Int));rw[ag,<-mB,abb (by rw[mB];exact l2),mB] at h;obtain⟨HL,HC,HK⟩:=hh3 (FW (xH (by rw[mB];exact l2)) h) hc ((((ay.refl [] w).alloc (.cells (pj (List.replicate 8 0)).toArray 205)).trans W (by simp)).setCell (p:=⟨w.heap.size,7,none⟩) (.inr (aH _)) (.int .u8 (s.size:Int)));have G:=λwz=>Sq (A5 (bl s)) (xH (by rw[mB];exact l2)) (KE (by rw[mB];exact l2) (Bl s)) wz
  rw[Ad (by rw[mB];exact l2)] at G;have G:=ar G;generalize (bl s++List.replicate (8-s.size) 0).getD 7 0=c at *;clear hc U h W;go_in;go_wp2_with(first|(go_at_call 176;refine C' J.out ?_)|((with_reducible show wpList _ _ _ (⟨some 10,_,_,_,_,_⟩::_) _ _);refine jt rfl (.tmp 8) (.tmp 9) 29 9 rfl _ _ rfl rfl HC.out ?_)|(with_reducible refine gL 205 HL.out ?_)|(go_at_call 158;refine Rr (G.out _) λw' z=> ?_;have qb:=ar z;clear z));go_ret2;exact⟨rfl,HK.out.trans qb.out (by simp)⟩
def lD (l:List Int):Prop:=∀k,k<13->(0<=l.getD k 0/\l.getD k 0<256)/\(l.getD k 0≠0->∀j,j<k->l.getD j 0≠l.getD k 0)
instance (l:List Int):Decidable (lD l):=by unfold lD;infer_instance
def jh (l:List Int) (c:Nat):List Int:=l.take c++List.replicate (13-c) 0
theorem nQ (h:l.length=13){c:Nat}(z:c<=13):(jh l c).length=13:=by simp[jh,h];omega
theorem qo (G:l.length=13){c:Nat}(z:c<=13)(k:Nat):(jh l c).getD k 0=if k<c then l.getD k 0 else 0:=by
 simp only[jh,aj,iy,aJ,bU,bj];by_cases h:k<c
 ·rw[aB,aB h,aB h]
 ·rw[aA,aA h]
  split<;>rfl
def bp (n:Nat):Nat:=(n+3)/4
def bL (n:Nat):Nat:=(n+63)/64
def leB (a b:ByteArray):Bool:=Op.bytesLess a.toList b.toList||(a.toList==b.toList)
def qT (n:bT):Prop:=(0<=n.S/\n.S<=832)/\n.E.length=0/\n.B=jh n.B (bL n.S.toNat)/\lD n.B
def ED (E:List (ByteArray×Int)) (k:Nat):Prop:=iu (bl (eX E k))=true/\(0<=jm E k/\jm E k<=31)/\(0<k->leB (eX E k) (eX E (k-1))=false)
def pk (n:bT):Prop:=n.E.length<=24/\n.S=n.E.length/\n.B=List.replicate 13 0/\∀k,k<n.E.length->ED n.E k
def ct (n:bT):Prop:=(n.F=1\/n.F=2)/\(0<=n.L/\n.L<=65535)/\(n.K=1/\qT n\/n.K=2/\pk n)
instance (n:bT):Decidable (qT n):=by unfold qT;infer_instance
instance (E:List (ByteArray×Int)) (k:Nat):Decidable (ED E k):=by unfold ED;infer_instance
instance (n:bT):Decidable (pk n):=by unfold pk;infer_instance
instance (n:bT):Decidable (ct n):=by unfold ct;infer_instance
def sO (l:List Int) (k:Nat):List Bool:=(List.range 256).map λc=>decide (∃j,j<k/\l.getD j 0=((c:Nat):Int))
theorem yT (l:List Int)(k:Nat):(sO l k).length=256:=by rw[sO,bY,fL]
theorem TY (l:List Int)(k c:Nat)(h:c<256):(sO l k).getD c false=decide (∃j,j<k/\l.getD j 0=((c:Nat):Int)):=by
 rw[sO,aj,bJ,cC h];rfl
theorem FX (l:List Int):List.replicate 256 false=sO l 0:=by
 apply cV (by rw[bE,yT]);intro j h G;rw[List.getElem_replicate];simp only[sO,ic,jV];exact(aQ λ⟨i,z,_⟩=>by omega).symm
theorem Qa (l:List Int)(k c:Nat)(h:l.getD k 0=((c:Nat):Int)):(sO l k).set c true=sO l (k+1):=by
 apply cV (by rw[cY,yT,yT]);intro j U V;rw[List.getElem_set];simp only[sO,ic,jV];by_cases e:c=j
 ·subst e
  rw[aB rfl];exact(bu ⟨k,by omega,h⟩).symm
 ·rw[aA e]
  refine decide_eq_decide.2 ⟨λ⟨i,J,z⟩=>⟨i,by omega,z⟩,λ⟨i,J,z⟩=> ?_⟩;by_cases G:i=k
  ·subst G
   rw[h] at z;exact absurd (Int.ofNat_inj.1 z) e
  ·exact⟨i,by omega,z⟩
theorem eA{rest:List Oper}{a:Act}(J:Region.wanted o (yielded z a.tmps)=true)(ty:TypeId)(x:Operand)(ho:o.op= .load ty x)(G:Addr)
  (W:a.eval x= .pointer (some G)) (v:Value) (V:(loadVar ty G).run P w= .ok v w) (h:wpList P z Q rest (a.put o.dst v) w):wpList P z Q (o::rest) a w:=
 wpList_step λ_ U=>by
  rw[aB J];unfold Oper.wp execOp;simp only[ho,W,Instr.loadAt,Instr.sureAddr,cr,fQ,cO,V];exact U _ _ h
theorem mR{a:Act}{K:Act->World->Prop}{E:Prop}(G:o.guard=none)(ty:TypeId)(x:Operand)(ho:o.op= .load ty x)(J:Addr)
  (W:a.eval x= .pointer (some J)) (v:Value) (V:(loadVar ty J).run P w= .ok v w) (h:K (a.put o.dst v) w):if Region.wanted o (yielded z a.tmps)=true then Oper.wp P o a w K Q else E:=by
 have U:Region.wanted o (yielded z a.tmps)=true:=by simp[Region.wanted,G]
 rw[aB U];unfold Oper.wp execOp;simp only[ho,W,Instr.loadAt,Instr.sureAddr,cr,fQ,cO,V];exact h
theorem FY{ty:TypeId}{k:IntKind}(G:P.underlying ty=some (.int k))(U:bh w g Z T)(J:Z[off]? =some v):(loadVar ty ⟨g,off,none⟩).run P w= .ok v w:=by
 have h:(isAgg ty).run P w= .ok false w:=by
  unfold isAgg;rw[cr,dB G w];rfl
 have z:w.cell? ⟨g,off,none⟩=some v:=by rw[U.cell,J]
 simp[loadVar,h,z]
theorem vY (h:Addr)(w:World):(asAddr (.pointer (some h))).run P w= .ok h w:=rfl
theorem bA{a:Nat}{z:Addr}(h:fn.results= #[.cell a t])(G:tmps.getD a undef= .pointer (some z))(J:(loadVar t z).run P w= .ok v w):
  (results fn tmps).run P w= .ok v w:=by
 rw[fg] at G;unfold results;rw[h];simp[G,vY,J]
theorem cJ{a:Nat}{z:Addr}{x y:Value}(h:fn.results= #[.cell a t,.tmp b,.tmp c])(G:tmps.getD a undef= .pointer (some z))(V:(loadVar t z).run P w= .ok v w)
  (U:tmps.getD b undef=x) (J:tmps.getD c undef=y):(results fn tmps).run P w= .ok (.tuple #[v,x,y]) w:=by
 rw[fg] at G U J;unfold results;rw[h];simp[G,vY,V,U,J]
theorem II (b c:Nat)(z:c<13)(w:World):(Instr.sliceAt 73 (.pointer (some ⟨b,0,none⟩)) (some (.int .i64 (c:Int))) none none).run prog w= .ok (.slice (some ⟨b,c,none⟩) (13-c) (13-c)) w:=by
 have h:c=0\/c=1\/c=2\/c=3\/c=4\/c=5\/c=6\/c=7\/c=8\/c=9\/c=10\/c=11\/c=12:=by omega
 rcases h with rfl|rfl|rfl|rfl|rfl|rfl|rfl|rfl|rfl|rfl|rfl|rfl|rfl
 all_goals (show Sem.run _ _ _=_;kernel_rfl)
theorem FZ (b:Nat)(w:World):∃off cap,(Instr.sliceAt 73 (.pointer (some ⟨b,0,none⟩)) (some (.int .i64 (13:Nat))) none none).run prog w= .ok (.slice (some ⟨b,off,none⟩) 0 cap) w:=
 ⟨0,0,by show Sem.run _ _ _=_;kernel_rfl⟩
theorem Qb (b c:Nat)(J:c<=13)(w:World):∃off cap,(Instr.sliceAt 73 (.pointer (some ⟨b,0,none⟩)) (some (.int .i64 (c:Int))) none none).run prog w= .ok (.slice (some ⟨b,off,none⟩) (13-c) cap) w/\(c<13->off=c):=by
 by_cases h:c<13
 ·exact⟨c,13-c,II b c h w,λ_=>rfl⟩
 ·obtain rfl:c=13:=by omega
  obtain⟨off,cap,z⟩:=FZ b w;exact⟨off,cap,z,λG=>absurd G h⟩
theorem MV (b c:Nat)(z:c<=13)(w:World):(Instr.sliceAt 73 (.pointer (some ⟨b,0,none⟩)) none (some (.int .i64 (c:Int))) none).run prog w= .ok (.slice b c 13) w:=by
 have h:c=0\/c=1\/c=2\/c=3\/c=4\/c=5\/c=6\/c=7\/c=8\/c=9\/c=10\/c=11\/c=12\/c=13:=by omega
 rcases h with rfl|rfl|rfl|rfl|rfl|rfl|rfl|rfl|rfl|rfl|rfl|rfl|rfl|rfl
 all_goals (show Sem.run _ _ _=_;kernel_rfl)
theorem set_tail(l:List Int)(c:Nat)(h:l.length=13)(z:c<=13):((zs l).take c++zs (List.replicate (13-c) 0)++(zs l).drop (c+(zs (List.replicate (13-c) 0)).length)).toArray=(zs (jh l c)).toArray:=by
 rw[dz (by rw[eO,eO,bE,h];omega),br];unfold jh;rw[yQ];simp[zs]
theorem IJ (n:Nat):(Builtin.zeroCells (Value.int .i64 0).cells n).toList=zs (List.replicate n 0):=by
 have e:(Value.int IntKind.i64 0).cells= #[Value.int .i64 0]:=rfl;rw[e];apply cV
 ·simp[Builtin.zeroCells,zs]
 ·intro j h z
  simp[Builtin.zeroCells,zs,Nat.mod_one]
theorem Qc{cap:Nat}(z:bh w b (zs l).toArray T)(U:l.length=13)(W:c<=13)(ho:c<13->off=c):∃w',(∀ty,(Builtin.clear_ #[76] ty #[.slice (some ⟨b,off,none⟩) (13-c) cap]).run prog w= .ok (.tuple #[]) w')/\bh w' b (zs (jh l c)).toArray T/\ay [b] w w':=by
 by_cases h:c<13
 ·obtain rfl:=ho h
  have J:=run_storeCells_at prog b off T (zs (List.replicate (13-off) 0)) 0 (zs l).toArray w z (by simp[eO,U];omega) (nB _);refine⟨_,λty=> ?_,?_,(ay.refl _ _).setRow (g:=b) (by simp) ((zs l).take off++zs (List.replicate (13-off) 0)++(zs l).drop (off+(zs (List.replicate (13-off) 0)).length)).toArray⟩
  ·have V:(Builtin.zeroCells (Value.int .i64 0).cells (13-off)).toList=zs (List.replicate (13-off) 0):=IJ _
   have G:(zeroValue 3).run prog w= .ok (.int .i64 0) w:=by kernel_rfl
   obtain⟨m,hm⟩:∃m,13-off=m+1:=⟨12-off,by omega⟩;unfold Builtin.clear_;rw[hm] at V J ⊢;simp only[cr,dB underlying76,cO,aF,iD,G,V];simp only[dC] at J;rw[J];simp
  ·rw[set_tail l off U W]
   exact kr z
 ·obtain rfl:c=13:=by omega
  refine⟨w,λty=> ?_,?_,ay.refl _ _⟩
  ·unfold Builtin.clear_
   simp[dB underlying76]
  ·rw[show jh l 13=l by unfold jh;rw[aW (by omega)];simp]
   exact z
end
section
open Go.RowKit Go.Shelf
variable{a l:List Int}{T b c f g j k off t:Nat}{E:List (ByteArray×Int)}{w:World}{v:Value}{P:Program}{Z tmps:Array Value}{s:ByteArray}{z:Array Oper}{o:Oper}{Q:Exit->Act->World->Prop}{fn:Func}
attribute [local go_sem] j5
theorem XH (a:Option Addr)(len cap:Nat)(w:World):Calls prog 232 #[.slice a len cap,(3:Int)] w λe w'=>
  e= .returned (.func (.func 238) #[] #[w.heap.size,(w.heap.size+1:Nat)])/\
   w'=(w.alloc (.cells #[.slice a len cap] 30)).alloc (.cells #[(3:Int)] 3):=by
 have h:=bh.new (w.alloc (.cells #[.slice a len cap] 30)) #[(3:Int)] 3;have z:(w.alloc (.cells #[.slice a len cap] 30)).heap.size=w.heap.size+1:=by simp
 rw[z] at h;have G:((w.alloc (.cells #[.slice a len cap] 30)).alloc (.cells #[(3:Int)] 3)).cell? (w.heap.size+1:Nat)=some (.int .i64 3):=by rw[h.cell];rfl
 clear h;go_in;go_wp2_with fail;go_ret;exact⟨rfl,rfl⟩
def chV (a:Option Addr) (len x:Nat):Value:=
 match a with
 |some ⟨g,off,_⟩=> .slice (some ⟨g,off+x*3*2,none⟩) (min 3 (len-3*x)) (min 3 (len-3*x))
 |none=> .slice none 0 0
def KpC (G z:Nat) (W h:World):Prop:=h.heap[G]? =W.heap[G]? /\h.heap[z]? =W.heap[z]?
theorem TZ (n l bs G g off len cap:Nat)(hn:1<=n)(ax:len<=10000)(av:len<=cap)(J Jx:List Nat->World->Prop)(B:Nat)(hJ:AbidesFrom B J)
  (hY:∀h x W,J h W->h.length<(len+2)/3->YieldAt Fence.wide (n-1) prog l #[chV (some ⟨g,off,none⟩) len x] W λe W'=>
   (e=true/\J (h++[x]) W'/\KpC bs G W W')\/(e=false/\Jx (h++[x]) W'))
  (W:World) (aa:bh W bs #[.slice (some ⟨g,off,none⟩) len cap] 30) (DY:bh W G #[(3:Int)] 3) (h0:J [] W):
  CallsIn Fence.wide n prog 238 #[.func (.yield l) #[] #[],bs,G] W λe W'=>(∃v,e=(v:Value))/\
   ((∃ys,ys=List.range ((len+2)/3)/\J ys W')\/(∃h,True/\Jx h W')):=by
 refine callsIn_of_wp func238 rfl trivial ?_ rfl;simp only[ntmps238,bN,cu,cD,Nat.reduceAdd,Nat.reduceSub,fZ,gi,iH,gQ,bQ,ia]
 gi_wp2
 gi_loopw [4] (λi wr=>∃k:Nat,k<=(len+2)/3/\i= .int .i64 ((k*3:Nat):Int)/\J (List.range k) wr/\KpC bs G W wr)
  (λi _=>len+3-(intOf i).toNat)
 case atStart=>exact⟨0,fD _,rfl,h0,rfl,rfl⟩
 case round=>
  obtain⟨k,hk,rfl,z,ag,ae⟩:=hrel;have cs:wr.cell? bs=some (.slice (some ⟨g,off,none⟩) len cap):=(aO (a:=⟨bs,0,none⟩) ag).trans (by rw[aa.cell];rfl);have cn:wr.cell? G=some (.int .i64 3):=(aO (a:=⟨G,0,none⟩) ae).trans (by rw[DY.cell];rfl);obtain⟨i,hi⟩:∃i:Nat,i=k*3:=⟨_,rfl⟩;rw[<-hi];by_cases aK:i<len
  ·have ai:J (List.range k) wr.drew:=hJ _ _ _ none z ⟨rfl,rfl,rfl,aH _,λ_ _ _=>rfl⟩ (λr e=>by cases e)
   obtain⟨fn,tmps,assign,body,hy,hR⟩:=hY _ k wr.drew ai (by rw[fL];omega);obtain⟨m,hm⟩:∃m:Nat,m=min 3 (len-i):=⟨_,rfl⟩;have hv:chV (some ⟨g,off,none⟩) len k= .slice (some ⟨g,off+i*2,none⟩) m m:=by
    show Value.slice (some ⟨g,off+k*3*2,none⟩) (min 3 (len-3*k)) (min 3 (len-3*k))=_;rw[hm,hi,Nat.mul_comm 3 k]
   rw[hv] at hy;clear hv hY aa DY;have ac:(i:Int)<(len:Int):=by omega
   have aF:(0:Int)<=(i:Int):=by omega
   have aA:(i:Int)<=(len:Int):=by omega
   have PB:cap≠i:=by omega
   have aG:(i:Int)<=((i+m:Nat):Int):=by omega
   have aP:((i+m:Nat):Int)<=(cap:Int):=by omega
   have aL:i+m≠i:=by omega
   have aD:i+m-i=m:=by omega
   have aN:wrap64 ((i:Int)+3)=(i:Int)+3:=by unfold wrap64;omega
   obtain⟨HI,af⟩:=hh2 hi z;have mn:Hid (len+3-(i+3)<len+3-i/\k+1<=(len+2)/3):=by show _/\_;omega
   clear hk hJ z hi;obtain⟨y,aC,ay,aJ,az,aM⟩:∃y:Int,(i:Int)+(m:Int)=y/\wrap64 y=y/\(i:Int)<=y/\y<=(cap:Int)/\y.toNat=i+m:=⟨_,rfl,by unfold wrap64;omega,by omega,by omega,by omega⟩;obtain⟨r,hr⟩:∃r:Nat,r=len-i:=⟨_,rfl⟩;rw[<-hr] at hm;have au:(len:Int)-(i:Int)=(r:Int):=by omega
   have V:((3:Int)<=(r:Int)/\m=3)\/(¬(3:Int)<=(r:Int)/\m=r):=by omega
   have ak:=hr.symm;clear hr hm;rcases V with ⟨V,rfl⟩|⟨V,rfl⟩
   all_goals
    gi_wp2
    gi_region
    all_goals try clear ak
    gi_wp2
    refine hR.mono ?_;rintro e W3 (⟨rfl,ah,U⟩|⟨rfl,aj⟩)
    ·have aB:W3.cell? G=some (.int .i64 3):=(aO (w:=wr.drew) (a:=⟨G,0,none⟩) U.2).trans cn
     gi_wp2
     go_roundw
     case rel=>exact⟨k+1,mn.out.2,by rw[HI.out];simp;omega,by rw[dV];exact ah,U.1.trans ag,U.2.trans ae⟩
     case measure=>have :=mn.out.1;simp[intOf];omega
    ·gi_wp2
     refine aI (results_none rfl _ _ _) rfl ?_;exact⟨⟨_,rfl⟩,.inr ⟨_,trivial,aj⟩⟩
  ·have ac:¬(i:Int)<(len:Int):=by omega
   obtain rfl:k=(len+2)/3:=by omega
   have af:=ar z;clear hY aa DY hi hk z hJ
   gi_wp2
   go_end0;exact⟨⟨_,rfl⟩,.inl af.out⟩
theorem T6 (n l G bn:Nat)(a:Option Addr)(cap:Nat)(J Jx:List Nat->World->Prop)(W:World)(z:bh W G #[.slice a 0 cap] 30)(h0:J [] W):
  CallsIn Fence.wide n prog 238 #[.func (.yield l) #[] #[],G,bn] W λe V=>(∃v,e=(v:Value))/\
   ((∃U,U=List.range 0/\J U V)\/(∃h,True/\Jx h V)):=by
 have cs:W.cell? G=some (.slice a 0 cap):=by rw[z.cell];rfl
 refine callsIn_of_wp func238 rfl trivial ?_ rfl;simp only[ntmps238,bN,cu,cD,Nat.reduceAdd,Nat.reduceSub,fZ,gi,iH,gQ,bQ,ia]
 gi_wp2
 gi_loopw [4] (λi wr=>i= .int .i64 0/\wr=W) (λ_ _=>0)
 case atStart=>exact⟨rfl,rfl⟩
 case round=>
  obtain⟨rfl,rfl⟩:=hrel
  gi_wp2
  go_end0;exact⟨⟨_,rfl⟩,.inl ⟨_,rfl,h0⟩⟩
theorem MW (n:Nat)(hn:1<=n)(a:Option Addr)(len cap:Nat)(aa:len<=10000)(V:len<=cap)(ha:len≠0->∃g off,a=some ⟨g,off,none⟩)(G z:Nat)(w:World)
  (ac:bh w G #[.slice a len cap] 30) (DY:bh w z #[(3:Int)] 3):
  SeqStopsK Fence.wide n prog 238 #[G,z] (λx=> #[chV a len x]) (KpC G z) (λys=>ys=List.range ((len+2)/3)) (λ_=>True) ((len+2)/3) w:=by
 intro l J Jx W hW hJ af hY hj;have U:bh W G #[.slice a len cap] 30 :=(hW.block G ac.lt).trans ac;have ae:bh W z #[(3:Int)] 3 :=(hW.block z DY.lt).trans DY;by_cases h:len=0
 ·subst h
  exact T6 n l G z a cap J Jx W U hj
 ·obtain⟨g,off,rfl⟩:=ha h
  exact TZ n l G z g off len cap hn aa V J Jx _ hJ hY W U ae hj
end
section
open Go.RowKit
variable{a l:List Int}{T b c f g j k off t:Nat}{E:List (ByteArray×Int)}{w:World}{v:Value}{P:Program}{Z tmps:Array Value}{s:ByteArray}{z:Array Oper}{o:Oper}{Q:Exit->Act->World->Prop}{fn:Func}
def DZ (x:Int):Prop:=0<x/\x<256
instance (x:Int):Decidable (DZ x):=by unfold DZ;infer_instance
def mg (l:List Int) (j:Nat):Prop:=0<j/\j<13/\DZ (l.getD j 0)/\DZ (l.getD (j-1) 0)/\l.getD j 0=l.getD (j-1) 0+1
instance (l:List Int) (j:Nat):Decidable (mg l j):=by unfold mg;infer_instance
def oV (l:List Int):Nat->Nat->Nat
 |0,e=>e
 |f+1,e=>if mg l e then oV l f (e+1) else e
theorem MX (l:List Int)(j:Nat)(G:¬mg l j):∀(f e:Nat),e<=j->j-e<=f->(∀i,e<=i->i<j->mg l i)->oV l f e=j
 |0,e,h1,h2,_=>by unfold oV;omega
 |f+1,e,h1,h2,h3=>by
  unfold oV;by_cases h:e=j
  ·subst h;rw[aA G]
  ·rw[aB (h3 e (aH _) (by omega))]
   exact MX l j G f (e+1) (by omega) (by omega) λi J z=>h3 i (by omega) z
def sP (l:List Int) (k:Nat):Prop:=DZ (l.getD k 0)/\¬mg l k
instance (l:List Int) (k:Nat):Decidable (sP l k):=by unfold sP;infer_instance
def rM (l:List Int) (k:Nat):Nat:=oV l 13 (k+1)-k
def zA (k:Nat) (b:Int) (n:Nat):Int:=(k:Int)*4294967296+b*256+(n:Int)
def gD (l:List Int):Nat->List Int
 |0=>[]
 |k+1=>if sP l k then gD l k++[zA k (l.getD k 0) (rM l k)] else gD l k
def fw (l:List Int):List Int:=gD l 13
theorem mC (l:List Int):∀k,(gD l k).length<=k
 |0=>by simp[gD]
 |k+1=>by
  unfold gD;have :=mC l k;split
  ·rw[aC,jZ];omega
  ·omega
theorem D3 (l:List Int)(f:Nat):∀j,f<=j->(∀i,f<=i->i<j->mg l i)->gD l j=gD l f
 |0,h,_=>by have :f=0:=by omega
            subst this;rfl
 |j+1,h,hc=>by
  by_cases e:f=j+1
  ·subst e;rfl
  ·rw[gD,aA (λG=>G.2 (hc j (by omega) (by omega)))]
   exact D3 l f j (by omega) λi z J=>hc i z (by omega)
theorem Qd (G:sP l f)(V:f<j)(W:j<=13)(z:∀i,f<i->i<j->mg l i)(J:¬mg l j):gD l j=gD l f++[zA f (l.getD f 0) (j-f)]:=by
 rw[D3 l (f+1) j (by omega) (λi U h=>z i (by omega) h),gD,aB G,rM,MX l j J 13 (f+1) (by omega) (by omega) λi U h=>z i (by omega) h]
theorem MZ (h:¬DZ (l.getD f 0)):gD l (f+1)=gD l f:=by
 rw[gD,aA (λz=>h z.1)]
theorem abc (z:∀i,f<i->i<j->mg l i):∀i,f<=i->i<j->l.getD i 0=l.getD f 0+((i-f:Nat):Int):=by
 intro i;induction i with
 |zero=>intro h _;have :f=0:=by omega
        subst this;simp
 |succ i ih=>
  intro J G;by_cases e:f=i+1
  ·subst e;simp
  ·have h:=(z (i+1) (by omega) G).2.2.2.2
   rw[ib] at h;rw[h,ih (by omega) (by omega)];omega
theorem Ss (G:DZ (l.getD f 0))(h:∀i,f<i->i<j->mg l i)(i:Nat)(J:f<=i)(z:i<j):DZ (l.getD i 0):=by
 by_cases e:f=i
 ·subst e;exact G
 ·exact(h i (by omega) z).2.2.1
theorem XI (J:DZ (l.getD f 0))(G:f<j)(z:∀i,f<i->i<j->mg l i):mg l j↔j<13/\DZ (l.getD j 0)/\l.getD j 0=l.getD (j-1) 0+1:=by
 unfold mg;exact⟨λh=>⟨h.2.1,h.2.2.1,h.2.2.2.2⟩,λh=>⟨by omega,h.1,h.2.1,Ss J z _ (by omega) (by omega),h.2.2⟩⟩
end
end Go.Proofs.YtimcfdnbpkiniaaGreatDoor
