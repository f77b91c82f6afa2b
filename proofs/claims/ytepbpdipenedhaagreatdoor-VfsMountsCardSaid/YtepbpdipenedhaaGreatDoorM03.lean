/- Lemmas. -/
import Derived.Test.YtepbpdipenedhaaGreatDoorChecked
import Derived.Lib.BufferWrite
import Derived.Laws.IdiomStrings
import Derived.Test.YtepbpdipenedhaaGreatDoorM02
import Derived.RangeFuncNested
import Derived.RangeFuncBound
import Derived.Shelf.Abstract
import Derived.Shelf.RegionOpen
import Derived.OwnWalkIn
import Derived.TacticsInMore
import Derived.LoopNIn
import Derived.LoopIn
set_option maxHeartbeats 2000000
set_option maxRecDepth 100000
namespace Go.Proofs.YtepbpdipenedhaaGreatDoor
open Go.Proofs.Tryz
section
open Go.RowKit
variable{a l:List Int}{T b c f g j k off t:Nat}{E:List (ByteArray×Int)}{w:World}{v:Value}{P:Program}{Z tmps:Array Value}{s:ByteArray}{z:Array Oper}{o:Oper}{Q:Exit->Act->World->Prop}{fn:Func}
def zs (l:List Int):List Value:=l.map (Value.int .i64)
theorem eO (l:List Int):(zs l).length=l.length:=by simp[zs]
theorem gK (h:j<l.length):(zs l)[j]? =some (.int .i64 (l.getD j 0)):=by simp[zs,h]
theorem Xu (l:List Int)(j:Nat)(x:Int):(zs l).set j (.int .i64 x)=zs (l.set j x):=by simp[zs,List.map_set]
theorem yQ (xs h:List Int):zs (xs++h)=zs xs++zs h:=by simp[zs]
theorem nC (l:List Int):∀u∈zs l,u.oneCell'=true:=by
 intro u h;simp only[zs,bF] at h;obtain⟨x,-,rfl⟩:=h;rfl
def fc (E:List (ByteArray×Int)):List Value:=E.flatMap λp=>[.string p.1,.int .i64 p.2]
def eX (E:List (ByteArray×Int)) (j:Nat):ByteArray:=(E.getD j (ByteArray.empty,0)).1
def jq (E:List (ByteArray×Int)) (j:Nat):Int:=(E.getD j (ByteArray.empty,0)).2
theorem MP (p:ByteArray×Int)(E:List (ByteArray×Int))(j:Nat):eX (p::E) (j+1)=eX E j:=rfl
theorem MQ (p:ByteArray×Int)(E:List (ByteArray×Int))(j:Nat):jq (p::E) (j+1)=jq E j:=rfl
theorem Xv (h:k<E.length):(eX E k,jq E k)∈E:=by
 have :E.getD k (ByteArray.empty,0)=E[k]:=by simp[h]
 rw[eX,jq,this];exact bG h
theorem Xw{F:List (ByteArray×Int)}(G:E.length=F.length)(h:∀k,k<E.length->eX E k=eX F k/\jq E k=jq F k):E=F:=by
 apply cU G;intro k z V;have :=h k z;have U:E.getD k (ByteArray.empty,0)=E[k]:=by simp[z]
 have J:F.getD k (ByteArray.empty,0)=F[k]:=by simp[V]
 rw[eX,eX,jq,jq,U,J] at this;exact Prod.ext this.1 this.2
theorem lT (E:List (ByteArray×Int)):(fc E).length=E.length*2:=by
 induction E with
 |nil=>rfl
 |cons p E ih=>simp[fc] at ih ⊢;omega
theorem qH (E F:List (ByteArray×Int)):fc (E++F)=fc E++fc F:=by simp[fc]
theorem ql (E:List (ByteArray×Int)):∀k,k<E.length->(fc E)[k*2]? =some (.string (eX E k))/\(fc E)[k*2+1]? =some (.int .i64 (jq E k)):=by
 induction E with
 |nil=>intro k h;simp at h
 |cons p E ih=>
  intro k h;have z:fc (p::E)= .string p.1:: .int .i64 p.2::fc E:=rfl;cases k with
  |zero=>rw[z];exact⟨rfl,rfl⟩
  |succ k=>
   have :=ih k (by simpa using h);rw[z,show(k+1)*2=k*2+1+1 by omega,MP,MQ];simp only[dC];exact this
theorem Aj (E:List (ByteArray×Int)):∀u∈fc E,u.oneCell'=true:=by
 intro u h;simp only[fc,List.mem_flatMap,aL,aK,bC] at h;obtain⟨p,-,rfl|rfl⟩:=h<;>rfl
def bD (w:World) (v:Value) (g:Nat) (E:List (ByteArray×Int)):Prop:=
 ∃a cap,v= .slice a E.length cap/\E.length<=cap/\cap<=maxLen/\(E.length≠0->g<w.heap.size/\∃off,a=some ⟨g,off,none⟩/\
  ∀j,j<E.length->w.cell? ⟨g,off+j*2,none⟩=some (.string (eX E j))/\w.cell? ⟨g,off+j*2+1,none⟩=some (.int .i64 (jq E j)))
theorem bD.keep{w':World}(h:bD w v g E){l:List Nat}(G:ay l w w')(hg:E.length≠0->g∉l):bD w' v g E:=by
 obtain⟨a,cap,h1,h2,h3,h4⟩:=h;refine⟨a,cap,h1,h2,h3,λU=> ?_⟩;obtain⟨z,off,h5,J⟩:=h4 U;refine⟨bS z G.size,off,h5,λj W=> ?_⟩;have V:=G.block g z (hg U);exact⟨(aO (w:=w) (w':=w') (a:=⟨g,off+j*2,none⟩) V).trans (J j W).1,(aO (w:=w) (w':=w') (a:=⟨g,off+j*2+1,none⟩) V).trans (J j W).2⟩
theorem bD.open(h:bD w v g E):∃a cap,v= .slice a E.length cap/\E.length<=cap/\cap<=maxLen/\
  Hid (∀k,k<E.length->g<w.heap.size/\∃off,a=some ⟨g,off,none⟩/\w.cell? ⟨g,off+k*2,none⟩=some (.string (eX E k))/\w.cell? ⟨g,off+k*2+1,none⟩=some (.int .i64 (jq E k))):=by
 obtain⟨a,cap,h1,h2,J,U⟩:=h;refine⟨a,cap,h1,h2,J,λk z=> ?_⟩;obtain⟨V,off,G,W⟩:=U (by omega);exact⟨V,off,G,W k z⟩
theorem bD.apart(h:bD w v g E){l:List Nat}(z:∀x,x∈l->w.heap.size<=x):E.length≠0->g∉l:=λG U=>by
 obtain⟨a,cap,h1,W,V,J⟩:=h;have :=(J G).1;have :=z g U;omega
theorem bD.nil(w:World)(g:Nat):bD w (.slice none 0 0) g []:=⟨none,0,rfl,by simp,by simp[maxLen],λh=>absurd rfl h⟩
theorem bD.anyG(h:bD w v g E)(z:E.length=0)(U:Nat):bD w v U E:=by
 obtain⟨a,cap,V,J,G,W⟩:=h;exact⟨a,cap,V,J,G,λh=>absurd z h⟩
theorem fp.ereads{n:Nat}(h:fp w v g T 2 n (fc E))(W:n=E.length):bD w v g E:=by
 subst W;obtain⟨a,cap,G,h1,h2⟩:=h.val;refine⟨a,cap,G,h1,h2,λV=> ?_⟩;obtain⟨hg,⟨J,z,-,-⟩,U,-⟩:=h.cell V;rw[G] at z;cases z;refine⟨hg,0,rfl,λj hj=> ?_⟩;rw[bc,U (j*2) (by omega),U (j*2+1) (by omega)];exact ql E j hj
structure bT where
 F:Int
 K:Int
 L:Int
 S:Int
 B:List Int
 E:List (ByteArray×Int)
def na (n:bT) (v:Value):List Value:= .int .i64 n.F:: .int .i64 n.K:: .int .i64 n.L:: .int .i64 n.S::(zs n.B++[v])
def aM (n:bT) (v:Value):Array Value:=(na n v).toArray
theorem gM (n:bT)(v:Value):(na n v).length=n.B.length+5:=by simp[na,eO]
theorem Cx{n:bT}(v:Value){k:Nat}(h:k<n.B.length):(aM n v)[4+k]? =some (.int .i64 (n.B.getD k 0)):=by
 rw[aM,aF,na,show 4+k=k+1+1+1+1 by omega];simp only[dC];rw[ba (by rw[eO];exact h),gK h]
theorem Ak{n:bT}(v:Value)(h:n.B.length=13):(aM n v)[17]? =some v:=by
 rw[aM,aF,na];simp only[dC];rw[aR (by rw[eO,h];omega),eO,h];rfl
structure Sj (Z:Array Value) (n:bT) (v:Value):Prop where
 f0:Z[0]? =some (.int .i64 n.F)
 f1:Z[1]? =some (.int .i64 n.K)
 f2:Z[2]? =some (.int .i64 n.L)
 f3:Z[3]? =some (.int .i64 n.S)
 f4:∀k,k<13->Z[4+k]? =some (.int .i64 (n.B.getD k 0))
 f5:Z[17]? =some v
 len:n.B.length=13
 eq:Z=aM n v
theorem gG{n:bT}(v:Value)(h:n.B.length=13):Sj (aM n v) n v:=
 ⟨rfl,rfl,rfl,rfl,λ_ z=>Cx v (by omega),Ak v h,h,rfl⟩
theorem DK{m:List Int}(J:l.length=m.length)(h:∀k,k<l.length->l.getD k 0=m.getD k 0):l=m:=by
 apply cU J;intro k z G;have :=h k z;simpa[aj,z,G] using this
theorem qm (w:World)(d:Nat)(t e:TypeId)(len:Nat)(k k':IntKind)(a b:List Int)(ht:P.underlying t=some (.array len e))(he:P.underlying e=some (.int k'))(hz:(P.info? e).map (·.size)=some 1)
  (ha:a.length=len) (hb:b.length=len):
  (Op.equalIn (d+2) t (.agg (a.map (Value.int k)).toArray) (.agg (b.map (Value.int k)).toArray)).run P w= .ok (decide (a=b)) w:=by
 have Sk:∀(l:List Int) (i:Nat) (z:World),i<l.length->(part e (l.map (Value.int k)).toArray i).run P z= .ok (.int k (l.getD i 0)) z:=by
  intro l i z hi;have J:(isAgg e).run P z= .ok false z:=by
   unfold isAgg;rw[ck,dA he z];rfl
  unfold part;rw[ck,J];simp[hi]
 have ac:∀z:World,(sizeOf e).run P z= .ok 1 z:=by
  intro z;cases hq:P.info? e with
  |none=>simp[hq] at hz
  |some i=>simp[sizeOf,typeInfo,hq] at hz ⊢;exact hz
 have W:∀(x y:Int) (z:World),(Op.equalIn (d+1) e (.int k x) (.int k y)).run P z= .ok (x==y) z:=λx y z=>run_equalIn_int z d e k k' x y he
 rw[Op.equalIn];simp only[ck,dA ht,cL,ac,Std.Legacy.Range.forIn_eq_forIn_range',Std.Legacy.Range.size,Nat.sub_zero,ib,Nat.div_one,iK];have ae:∀(m s:Nat),s+m=len->Sem.run P (forIn (List.range' s m) ((none:Option Bool),()) λi _=>do
      let x <-part e (List.map (Value.int k) a).toArray i
      let y <-part e (List.map (Value.int k) b).toArray i
      let r <-Op.equalIn (d+1) e x y
      if (!r)=true then pure (ForInStep.done (some false,())) else pure (ForInStep.yield (none,()))) w= .ok (if a.drop s=b.drop s then none else some false,()) w:=by
  intro m;induction m with
  |zero=>
   intro s hs;rw[dx (by omega),dx (by omega),aB rfl];simp
  |succ m ih=>
   intro s hs;have V:s<a.length:=by omega
   have U:s<b.length:=by omega
   rw[List.range'_succ,List.forIn_cons];simp only[ck,Sk a s w V,Sk b s w U,cL,W];rw[fF V,fF U];have g1:a.getD s 0=a[s]:=by simp[V]
   have g2:b.getD s 0=b[s]:=by simp[U]
   by_cases G:a[s]=b[s]
   ·rw[g1,g2,G]
    have :=ih (s+1) (by omega);simp only[BEq.rfl,Bool.not_true,Bool.false_eq_true,if_false,fO,cL,jk,true_and];exact this
   ·have aa:(a[s]==b[s])=false:=by simpa using G
    rw[g1,g2,aa];simp;intro hd;rw[fF V,fF U] at hd;exact absurd (List.cons.inj hd).1 G
 rw[ae len 0 (by omega)];by_cases h:a=b
 ·simp[h]
 ·simp[h]
theorem ma (t e:TypeId)(len:Nat)(V:IntKind)(Z:Array Value)(k:Nat)(v:Value)(W:P.underlying t=some (.array len e))(he:P.underlying e=some (.int V))(J:(P.info? e).map (·.size)=some 1)
  (hk:k<len) (hv:Z[k]? =some v) (w:World):(Instr.index t (.agg Z) (.int .i64 (k:Int))).run P w= .ok v w:=by
 have U:∀G:World,(sizeOf e).run P G= .ok 1 G:=by
  intro G;cases hq:P.info? e with
  |none=>simp[hq] at J
  |some i=>simp[sizeOf,typeInfo,hq] at J ⊢;exact J
 have z:(isAgg e).run P w= .ok false w:=by
  unfold isAgg;rw[ck,dA he w];rfl
 have hi:(0:Int)<=(k:Int)/\(k:Int)<(len:Int):=by omega
 unfold Instr.index;simp[dA W,hi,U,part,z,hv,asIntOf];intro h;omega
theorem mb:(prog.info? 109).map (·.size)=some 13:=by kernel_rfl
theorem Sl:(prog.info? 255).map (·.size)=some 8:=by kernel_rfl
theorem jc:(prog.info? 195).map (·.size)=some 8:=by kernel_rfl
theorem Xx:(prog.info? 254).map (·.size)=some 13:=by kernel_rfl
theorem iZ:(prog.info? 111).map (·.size)=some 18:=by kernel_rfl
theorem oV:(prog.info? 3).map (·.size)=some 1:=by kernel_rfl
theorem pD (w:World):(zeroValue 109).run prog w= .ok (.agg (zs (List.replicate 13 0)).toArray) w:=by kernel_rfl
theorem KX (w:World):(zeroValue 255).run prog w= .ok (.agg (zs (List.replicate 8 0)).toArray) w:=by kernel_rfl
theorem lj (w:World):(zeroValue 195).run prog w= .ok (.agg (aY (List.replicate 8 0)).toArray) w:=by kernel_rfl
theorem Xy (w:World):(zeroValue 254).run prog w= .ok (.agg (aY (List.replicate 13 0)).toArray) w:=by kernel_rfl
def cg:bT:=⟨0,0,0,0,List.replicate 13 0,[]⟩
theorem dz (w:World):(zeroValue 111).run prog w= .ok (.agg (aM cg (.slice none 0 0))) w:=by kernel_rfl
theorem P9{b:List Int}(z:a.length=13)(h:b.length=13)(w:World):(Op.equalIn 10000 109 (.agg (zs a).toArray) (.agg (zs b).toArray)).run prog w= .ok (decide (a=b)) w:=
 qm w 9998 109 3 13 .i64 .i64 a b underlying109 underlying3 oV z h
theorem acM{b:List Int}(z:a.length=8)(h:b.length=8)(w:World):(Op.equalIn 10000 255 (.agg (zs a).toArray) (.agg (zs b).toArray)).run prog w= .ok (decide (a=b)) w:=
 qm w 9998 255 3 8 .i64 .i64 a b underlying255 underlying3 oV z h
theorem MR{b:List Int}(z:a.length=8)(h:b.length=8)(w:World):(Op.equalIn 10000 195 (.agg (aY a).toArray) (.agg (aY b).toArray)).run prog w= .ok (decide (a=b)) w:=
 qm w 9998 195 56 8 .u64 .u64 a b underlying195 underlying56 qL z h
theorem Cy: prog.eqGuardType prog.depth 109 =false:=by kernel_rfl
theorem MS: prog.eqGuardType prog.depth 255 =false:=by kernel_rfl
theorem xX: prog.eqGuardType prog.depth 195 =false:=by kernel_rfl
theorem yR (h:k<13)(z:Z[k]? =some v)(w:World):(Instr.index 109 (.agg Z) (.int .i64 (k:Int))).run prog w= .ok v w:=
 ma 109 3 13 .i64 Z k v underlying109 underlying3 oV h z w
theorem Xz (h:k<8)(z:Z[k]? =some v)(w:World):(Instr.index 255 (.agg Z) (.int .i64 (k:Int))).run prog w= .ok v w:=
 ma 255 3 8 .i64 Z k v underlying255 underlying3 oV h z w
theorem XA (h:k<8)(z:Z[k]? =some v)(w:World):(Instr.index 195 (.agg Z) (.int .i64 (k:Int))).run prog w= .ok v w:=
 ma 195 56 8 .u64 Z k v underlying195 underlying56 qL h z w
theorem TX (h:k<13)(z:Z[k]? =some v)(w:World):(Instr.index 254 (.agg Z) (.int .i64 (k:Int))).run prog w= .ok v w:=
 ma 254 56 13 .u64 Z k v underlying254 underlying56 qL h z w
theorem fA (J:bh w g Z T)(h:l.length=13)(G:∀k,k<13->Z[off+k]? =some (.int .i64 (l.getD k 0))):
  (loadVar 109 ⟨g,off,none⟩).run prog w= .ok (.agg (zs l).toArray) w:=
 b7 g off (zs l) underlying109 rfl (by rw[eO,h];exact mb) λj z=>by
  rw[eO,h] at z;rw[J.cell,G j z,gK (by omega)]
theorem fM (z:bh w g (aY l).toArray T)(h:l.length=8):
  (loadVar 195 g).run prog w= .ok (.agg (aY l).toArray) w:=
 b7 g 0 (aY l) underlying195 rfl (by rw[bB,h];exact jc) λj _=>by
  rw[z.cell,bc,aF]
theorem XB (z:bh w g (aY l).toArray T)(h:l.length=13):
  (loadVar 254 g).run prog w= .ok (.agg (aY l).toArray) w:=
 b7 g 0 (aY l) underlying254 rfl (by rw[bB,h];exact Xx) λj _=>by
  rw[z.cell,bc,aF]
theorem Sm (J:bh w g Z T)(h:l.length=8)(G:∀k,k<8->Z[off+k]? =some (.int .i64 (l.getD k 0))):
  (loadVar 255 ⟨g,off,none⟩).run prog w= .ok (.agg (zs l).toArray) w:=
 b7 g off (zs l) underlying255 rfl (by rw[eO,h];exact Sl) λj z=>by
  rw[eO,h] at z;rw[J.cell,G j z,gK (by omega)]
theorem b9{n:bT}(z:bh w g (aM n v) T)(h:n.B.length=13):
  (loadVar 111 g).run prog w= .ok (.agg (aM n v)) w:=
 b7 g 0 (na n v) underlying111 rfl (by rw[gM,h];exact iZ) λj _=>by
  rw[z.cell,bc,aM,aF]
theorem bH{ty:Nat}{cs:List Value}{h:Array Value}(J:(P.info? ty).map (·.size)=some cs.length)(z:bh w g h T)(U:h.size=cs.length)(G:∀v∈cs,v.oneCell'=true):
  ∃w',(storeVar ty ⟨g,0,none⟩ (.agg cs.toArray)).run P w= .ok () w'/\bh w' g cs.toArray T/\ay [g] w w':=by
 refine⟨_,jO g 0 cs h J z (by omega) G,?_,(ay.refl _ _).setRow (by simp) _⟩;have e:(h.toList.take 0++cs++h.toList.drop (0+cs.length)).toArray=cs.toArray:=by
  rw[dx (by simp;omega)];simp
 rw[e];exact kv z
theorem kY{n:bT}(z:v.oneCell'=true):∀u∈na n v,u.oneCell'=true:=by
 intro u h;simp only[na,aL,aT,aK,bC] at h;rcases h with rfl|rfl|rfl|rfl|h|rfl
 all_goals first|rfl|exact z|exact nC _ u h
def pk (l:List Nat):List Value:=l.map λc:Nat=>Value.int .u8 (c:Int)
theorem yS (l:List Nat):(pk l).length=l.length:=by simp[pk]
theorem Be{l:List Nat}(h:j<l.length):(pk l)[j]? =some (.int .u8 (l.getD j 0:Nat)):=by simp[pk,h]
theorem aa1 (l:List Nat):∀u∈pk l,u.oneCell'=true:=by
 intro u h;simp only[pk,bF] at h;obtain⟨x,-,rfl⟩:=h;rfl
theorem adq{α:Type}{l:List α}(h:l.length=8):∃x0 J V z U W x6 G,l=[x0,J,V,z,U,W,x6,G]:=by
 match l,h with
 | [x0,J,V,z,U,W,x6,G],_=>exact⟨x0,J,V,z,U,W,x6,G,rfl⟩
theorem DL (l:List Nat)(h:l.length=8)(k:Nat)(G:k<8)(w:World):(Instr.index 203 (.agg (pk l).toArray) (.int .i64 (k:Int))).run prog w= .ok (.int .u8 (l.getD k 0:Nat)) w:=by
 obtain⟨x0,V,x2,J,W,x5,x6,U,rfl⟩:=adq h;have z:k=0\/k=1\/k=2\/k=3\/k=4\/k=5\/k=6\/k=7:=by omega
 rcases z with rfl|rfl|rfl|rfl|rfl|rfl|rfl|rfl<;>(show Sem.run _ _ _=_;kernel_rfl)
theorem FR (n:Nat)(h:n<18446744073709551616):IntKind.u64.wrap (n:Int)=(n:Int):=by rw[fY];omega
theorem aa2 (k:Nat):2^(8*k)=256^k:=by rw[Nat.pow_mul]
theorem FT (J:c<256)(G:k<8):c*256^k<18446744073709551616:=by
 have h:256^k<=256^7:=jh (by decide) (by omega);have z:(256:Nat)^7=72057594037927936:=rfl;rw[z] at h;have :=Nat.mul_le_mul (show c<=255 by omega) h;omega
theorem aa3 (z:c<256)(h:k<8):IntKind.u64.wrap (IntKind.u64.wrap (c:Int)*2^(8*k))=((c*256^k:Nat):Int):=by
 rw[FR c (by omega),show(2:Int)^(8*k)=((256^k:Nat):Int) by rw[<-aa2];simp,<-Int.natCast_mul,FR _ (FT z h)]
theorem aa4{l:List Nat}(V:l.length=8)(z:∀c∈l,c<256){k:Nat}(h:k<8):
  bits .or .u64 ((l7 (l.take k):Nat):Int) (IntKind.u64.wrap (IntKind.u64.wrap ((l.getD k 0:Nat):Int)*2^(8*k)))=((l7 (l.take (k+1)):Nat):Int):=by
 have J:l.getD k 0<256:=by
  rw[aj,aD (by omega)];exact z _ (bG _)
 have G:=Fv (Sd z k);rw[aJ,cQ (by omega)] at G;have U:256^k<=256^7:=jh (by decide) (by omega);rw[show(256:Nat)^7=72057594037927936 from rfl] at U;rw[aa3 J h,u64_or_nat _ _ (by omega) (FT J h),Eu l k (by omega),Nat.or_comm,nat_join (8*k) _ _ (by rw[aa2];exact Nat.mul_mod_left _ _) (by rw[aa2];exact G),Nat.add_comm]
theorem Sn (l:List Nat)(G:l.length=8)(hb:∀c∈l,c<256)(w:World):
  Calls prog 152 #[(pk l).toArray] w λe w'=>e= .returned (.int .u64 (l7 l:Nat))/\ay [] w w':=by
 have Iv:=λk W=>DL l G k W
 have ot:∀J:World,(∀j,j<8->J.cell? ⟨w.heap.size,j,none⟩=(pk l)[j]?)->(loadVar 203 w.heap.size).run prog J= .ok (.agg (pk l).toArray) J:=λJ hc=>
  b7 w.heap.size 0 (pk l) underlying203 rfl (by rw[yS,G];kernel_rfl) λj V=>by
   rw[yS,G] at V;rw[bc];exact hc j V
 obtain⟨mY,U⟩:=hh2 (ot (w.alloc (.cells (pk l).toArray 203)) λj V=>by rw[(bh.new w (pk l).toArray 203).cell];simp) Iv;clear ot Iv;go_in;go_wp2_with(with_reducible refine gL 203 mY.out ?_);clear mY;go_loop [3,7] (λs3 s7=>∃k:Nat,k<=8/\s7= .int .i64 (k:Int)/\s3= .int .u64 (l7 (l.take k):Nat)) (λ_ i=>8-(intOf i).toNat)
 case atStart=>exact⟨0,by omega,rfl,rfl⟩
 case round=>
  obtain⟨k,W,rfl,rfl⟩:=hrel;by_cases h:k<8
  ·have hx:=U.out k h
   have z:(k:Int)<8:=by omega
   have HO:=ar (aa4 G hb h);generalize l.getD k 0=c at *;go_wp2_with fail
   go_round
   case rel=>
    refine⟨k+1,by omega,by go_num,?_⟩;rw[<-HO.out]
   case measure=>simp[intOf];omega
  ·have z:¬(k:Int)<8:=by omega
   obtain rfl:k=8:=by omega
   rw[aW (by omega)];go_wp2_with fail;go_ret;exact⟨rfl,(ay.refl _ _).alloc _⟩
theorem Tryz.info_bytes:(prog.info? 203).map (·.size)=some 8:=by kernel_rfl
def pE (W k:Nat):List Nat:=(List.range 8).map λj=>if j<k then rJ W j else 0
theorem JF (W:Nat):pE W 8=lQ W:=by
 unfold pE lQ;apply dM;intro j h;rw[aB (by simpa using h)]
theorem TY (W k:Nat)(G:k<8):(pk (pE W k)).set k (.int .u8 (rJ W k:Nat))=pk (pE W (k+1)):=by
 apply cD;intro j;rw[eT];simp only[pk,pE,bJ,bZ,fK];by_cases h:k=j
 ·subst h
  simp[G]
 ·rw[aA h]
  by_cases z:j<8
  ·simp only[z,cB,fT]
   simp only[show j<k+1↔j<k by omega]
  ·simp[z]
theorem uX (W k:Nat):(pE W k).length=8:=by simp[pE]
theorem aa5 (W k:Nat):(W:Int)/2^(8*k)%256=((rJ W k:Nat):Int):=by
 rw[show(2:Int)^(8*k)=((256^k:Nat):Int) by rw[<-aa2];simp];rfl
theorem FU{l:List Nat}(z:l.length=8)(h:bh w b (pk l).toArray 203):(loadVar 203 b).run prog w= .ok (.agg (pk l).toArray) w:=
 b7 b 0 (pk l) underlying203 rfl (by rw[yS,z];exact Tryz.info_bytes) λj _=>by rw[h.cell];simp
theorem xY{l m:List Nat}(G:l.length=8)(z:m.length=8)(h:bh w b (pk l).toArray 203):
  ∃w',(storeVar 203 b (.agg (pk m).toArray)).run prog w= .ok () w'/\bh w' b (pk m).toArray 203/\ay [b] w w':=by
 have J:=jO (P:= prog) (ty:= 203) b 0 (pk m) _ (by rw[yS,z];exact Tryz.info_bytes) h (by simp[yS,G,z]) (aa1 m);refine⟨_,J,?_,(ay.refl _ _).setRow (by simp) _⟩;have :=setRow_heap _ b _ (List.take 0 (pk l).toArray.toList++pk m++List.drop (0+(pk m).length) (pk l).toArray.toList).toArray _ _ h;unfold bh;rw[this];simp[dx,yS,G,z]
theorem Al (W:Nat):(#[.int .u8 0,.int .u8 0,.int .u8 0,.int .u8 0,.int .u8 0,.int .u8 0,.int .u8 0,.int .u8 0]:Array Value)=(pk (pE W 0)).toArray:=by
 simp[pk,pE,List.range,List.range.loop]
theorem Bf (W:Nat)(w:World):
  Calls prog 148 #[.int .u64 (W:Int)] w λe w'=>e=(pk (lQ W)).toArray/\ay [] w w':=by
 go_in;go_wp2_with fail;go_loopg [5] 8 (λg s5 G=>∃k:Nat,k+g=8/\s5= .int .i64 (k:Int)/\Hid (bh G (w.heap.size+1) (pk (pE W k)).toArray 203/\bh G w.heap.size (pk (pE W 0)).toArray 203/\ay [] w G))
 case atStart=>
  refine⟨0,by omega,rfl,?_,?_,((ay.refl _ _).alloc _).alloc _⟩
  ·have :=bh.new (w.alloc (.cells (pk (pE W 0)).toArray 203)) (pk (pE W 0)).toArray 203
   simpa[Al W] using this
  ·have :=(bh.new w (pk (pE W 0)).toArray 203).alloc (.cells (pk (pE W 0)).toArray 203)
   simpa[Al W] using this
 case round=>
  obtain⟨k,uR,rfl,z⟩:=hrel;cases gk with
  |zero=>
   obtain rfl:k=8:=by omega
   have HL:=ar (FU (uX W 8) z.out.1);obtain⟨w2,U,h,J⟩:=xY (uX W 0) (uX W 8) z.out.2.1;have V:=ar U;rw[JF] at h;have HB:Hid (∀j,j<8->w2.cell? ⟨w.heap.size,j,none⟩=some (.int .u8 (rJ W j:Nat))):=λj hj=>by
    rw[h.cell,<-uP W j hj];simpa using Be (l:=lQ W) (j:=j) (by rw[l8];omega)
   have HK:=ar (z.out.2.2.trans J (by simp));clear U h J z;rw[JF] at HL V;go_wp2_with(with_reducible first|refine gL 203 HL.out ?_|refine gS 203 V.out ?_);have h:=HB.out;exact aI (v:= .agg (pk (lQ W)).toArray) (by simp[results,results148,go_sem,h 0,h 1,h 2,h 3,h 4,h 5,h 6,h 7,pk,lQ,List.range,List.range.loop]) rfl ⟨rfl,HK.out⟩
  |succ g=>
   have aa:(k:Int)<8:=by omega
   have hc:wr.cell? ⟨w.heap.size+1,k,none⟩=some (.int .u8 ((pE W k).getD k 0:Nat)):=by
    rw[z.out.1.cell];simpa using Be (l:=pE W k) (j:=k) (by rw[uX];omega)
   have hf:wr.frozen? ⟨w.heap.size+1,k,none⟩=false:=z.out.1.frozen _;generalize (pE W k).getD k 0=c at *;go_wp2_with fail;go_roundg g;case measure=>omega
   case rel=>
    refine⟨k+1,by omega,by go_num,?_⟩;rw[aa5];refine⟨?_,z.out.2.1.other (by simp) _,z.out.2.2.setCell (.inr (by simp)) _⟩;have :=z.out.1.set k (.int .u8 (rJ W k:Nat));rw[ag,TY W k (by omega)] at this;exact this
def bl (s:ByteArray):List Nat:=s.data.toList.map UInt8.toNat
theorem mA (s:ByteArray):(bl s).length=s.size:=by simp[bl]
theorem Bg (s:ByteArray):∀c∈bl s,c<256:=by
 intro c h;simp only[bl,bF] at h;obtain⟨x,-,rfl⟩:=h;exact x.toNat_lt
theorem adr (s:ByteArray)(k:Nat)(h:k<s.size):(bl s).getD k 0=s[k].toNat:=by
 simp[bl,h];rfl
theorem KY{t:ByteArray}(h:bl s=bl t):s=t:=by
 apply ByteArray.ext;apply Array.toList_inj.1;have :=List.map_inj_right (f:=UInt8.toNat) (λa b e=>UInt8.toNat_inj.1 e) |>.1 h;exact this
theorem MT (c:Nat)(w:World):Calls prog 189 #[.int .u8 (c:Int)] w λe w'=>e=(nZ c:Bool)/\w=w':=by
 by_cases G:33<=c
 ·by_cases z:c<=126
  ·by_cases h:c=47
   ·subst h
    go_in;go_wp2;go_ret;exact⟨rfl,rfl⟩
   ·have e:nZ c=true:=by simp[nZ,G,z,h]
    have J:((c:Int) != 47)=true:=by simp;omega
    rw[e];clear e h;go_in;go_wp2;go_ret;exact⟨rfl,rfl⟩
  ·have e:nZ c=false:=by simp[nZ,z]
   rw[e];go_in;go_wp2;go_ret;exact⟨rfl,rfl⟩
 ·have e:nZ c=false:=by simp[nZ,G]
  rw[e];go_in;go_wp2;go_ret;exact⟨rfl,rfl⟩
theorem II (l:List Nat)(k:Nat)(h:k<l.length):(l.take (k+1)).all nZ=((l.take k).all nZ&&nZ (l.getD k 0)):=by
 rw[bP h,List.all_append];simp[h]
theorem all_false{l:List Nat}(h:k<l.length)(z:nZ (l.getD k 0)=false):l.all nZ=false:=by
 rw[List.all_eq_false];refine⟨l.getD k 0,?_,by rw[z];simp⟩;rw[aj,aD h];exact bG _
theorem XC (G:s≠⟨#[46]⟩)(h:s≠⟨#[46,46]⟩)(V:1<=s.size)(U:s.size<=7):iy (bl s)=(bl s).all nZ:=by
 have J:(bl s != [46])=true:=by
  simp only[bne_iff_ne,ne_eq];intro e;exact G (KY (t:=⟨#[46]⟩) e)
 have z:(bl s != [46,46])=true:=by
  simp only[bne_iff_ne,ne_eq];intro e;exact h (KY (t:=⟨#[46,46]⟩) e)
 simp[iy,mA,V,U,J,z]
theorem XD{l:List UInt8}(h:s≠⟨l.toArray⟩):(s.toList==l)=false:=by
 rw[jC];simp only[cP,ne_eq];intro e;apply h;apply ByteArray.ext;apply Array.toList_inj.1;rw[e]
theorem KZ (s:ByteArray)(hs:s.size<=9223372036854775807)(w:World):Calls prog 170 #[.string s] w λe w'=>e=(iy (bl s):Bool)/\w=w':=by
 by_cases G:s=⟨#[46]⟩
 ·subst G
  go_in;go_wp2;go_ret;exact⟨rfl,rfl⟩
 by_cases z:s=⟨#[46,46]⟩
 ·subst z
  go_in;go_wp2;go_ret;exact⟨rfl,rfl⟩
 by_cases h1:1<=s.size
 ·by_cases h2:s.size<=7
  ·rw[XC G z h1 h2]
   have q1:(s.toList == [46])=false:=XD (l:=[46]) G;have q2:(s.toList == [46,46])=false:=XD (l:=[46,46]) z;have q3:decide ((s.size:Int)<1)=false:=by simp;omega
   have q4:decide (7<(s.size:Int))=false:=by simp;omega
   clear G z;go_in;go_wp2;go_loop [22] (λi=>∃k:Nat,k<=s.size/\i= .int .i64 (k:Int)/\Hid (((bl s).take k).all nZ=true)) (λi=>s.size-(intOf i).toNat)
   case atStart=>exact⟨0,fC _,rfl,rfl⟩
   case round=>
    obtain⟨k,hk,rfl,V⟩:=hrel;by_cases h:k<s.size
    ·have J:(k:Int)<(s.size:Int):=by omega
     obtain⟨U,HB,HT⟩:=hh3 (MT (s[k].toNat) w) (adr s k h) (II (bl s) k (by rw[mA];exact h));cases hb:nZ s[k].toNat
     ·have W:=ar (all_false (l:=bl s) (k:=k) (by rw[mA];exact h) (by rw[HB.out];exact hb))
      rw[hb] at U;clear hb;go_wp2_with(go_at_call 189;refine C' U.out ?_);go_ret;exact⟨by rw[W.out];rfl,rfl⟩
     ·rw[hb] at U
      have W:=ar hb;clear hb;go_wp2_with(go_at_call 189;refine C' U.out ?_)
      go_round
      case rel=>exact⟨k+1,by omega,by go_num,by rw[HT.out,HB.out,W.out,V.out];rfl⟩
      case measure=>simp[intOf];omega
    ·obtain rfl:k=s.size:=by omega
     have J:¬(s.size:Int)<(s.size:Int):=by omega
     rw[aW (by rw[mA];exact aH _)] at V;go_wp2_with fail;go_ret;exact⟨by rw[V.out];rfl,rfl⟩
  ·have e:iy (bl s)=false:=by simp[iy,mA,h2]
   rw[e];clear e G z;go_in;go_wp2;go_ret;exact⟨rfl,rfl⟩
 ·have e:iy (bl s)=false:=by simp[iy,mA,h1]
  rw[e];clear e G z;go_in;go_wp2;go_ret;exact⟨rfl,rfl⟩
def xz (l:List Nat):ByteArray:=⟨(l.map UInt8.ofNat).toArray⟩
theorem Sq{l:List Nat}(h:∀c∈l,c<256):bl (xz l)=l:=by
 simp only[bl,xz,List.map_map]
 conv=>rhs;rw[<-List.map_id l]
 apply dM;intro c z;simp[Nat.mod_eq_of_lt (h c z)]
theorem EY (s:ByteArray):xz (bl s)=s:=KY (Sq (Bg s))
theorem JG (l:List Nat):(xz l).size=l.length:=by simp[xz,ByteArray.size]
theorem Tryz.info_byte:(prog.info? 5).map (·.size)=some 1:=by kernel_rfl
def kZ (l:List Nat):Nat:=if iy l=true then rK l else 0
theorem aa6{l:List Nat}(h:l.length<=7):(pk (l++List.replicate (8-l.length) 0)).set 7 (.int .u8 (l.length:Int))=pk (AW l):=by
 have e:List.replicate (8-l.length) 0=List.replicate (7-l.length) 0++[0]:=by rw[show 8-l.length=7-l.length+1 by omega,List.replicate_succ']
 rw[e,<-aV,AW];generalize G:l++List.replicate (7-l.length) 0=A;have z:A.length=7:=by rw[<-G];simp;omega
 simp only[pk,eu,List.map_cons,List.map_nil];rw[dH _ _ (by simp[z])];simp[z]
theorem copied(h:s.size<=7)(z:bh w b (pk (List.replicate 8 0)).toArray 203):∃w',
  (Builtin.copy_ #[31,9] 3 #[.slice b 8 8,.string s]).run prog w= .ok (goInt s.size) w'/\bh w' b (pk (bl s++List.replicate (8-s.size) 0)).toArray 203/\ay [b] w w':=by
 have J:=Lib.run_copy_row_string (P:= prog) w 31 9 3 5 b 0 8 8 s _ _ underlying31 Tryz.info_byte z (by omega) (by simp[pk];omega);refine⟨_,J,?_,(ay.refl _ _).setRow (by simp) _⟩;unfold bh;rw[setRow_heap _ b _ _ _ _ z];have U:List.take 0 (pk (List.replicate 8 0)).toArray.toList++Lib.byteCells s.data.toList++List.drop (0+s.size) (pk (List.replicate 8 0)).toArray.toList=pk (bl s++List.replicate (8-s.size) 0):=by
  have G:pk (List.replicate 8 0)=List.replicate 8 (Value.int .u8 0):=by simp only[pk,jY];rfl
  rw[G,bc,ez,bQ,jD];simp only[pk,bl,Lib.byteCells,eu,List.map_map,jY];rfl
 rw[U]
theorem K0 (s:ByteArray)(hs:s.size<=9223372036854775807)(w:World):Calls prog 221 #[.string s] w λe w'=>e= .returned (.tuple #[.int .u64 (kZ (bl s):Nat),(iy (bl s):Bool)])/\ay [] w w':=by
 have G:=ar (KZ s hs w);unfold kZ;cases hg:iy (bl s)
 ·rw[hg] at G
  clear hg;go_in;go_wp2_with(go_at_call 170;refine C' G.out ?_);go_ret2;exact⟨rfl,ay.refl _ _⟩
 ·rw[hg] at G
  rw[aB rfl];obtain⟨l1,l2⟩:=oO hg;rw[mA] at l1 l2;clear hg;obtain⟨W,hc,U,V⟩:=copied l2 (bh.new w (pk (List.replicate 8 0)).toArray 203);have ac:W.cell? ⟨w.heap.size,7,none⟩=some (.int .u8 ((bl s++List.replicate (8-s.size) 0).getD 7 0:Nat)):=by
   rw[U.cell];simpa using Be (l:=bl s++List.replicate (8-s.size) 0) (j:=7) (by simp[mA];omega)
  have aa:W.frozen? ⟨w.heap.size,7,none⟩=false:=U.frozen 7;have h:=U.set 7 (.int .u8 (s.size:Int));rw[ag,<-mA,aa6 (by rw[mA];exact l2),mA] at h;obtain⟨HL,HC,HK⟩:=hh3 (FU (xL (by rw[mA];exact l2)) h) hc ((((ay.refl [] w).alloc (.cells (pk (List.replicate 8 0)).toArray 203)).trans V (by simp)).setCell (p:=⟨w.heap.size,7,none⟩) (.inr (aH _)) (.int .u8 (s.size:Int)));have J:=λwz=>Sn (AW (bl s)) (xL (by rw[mA];exact l2)) (KI (by rw[mA];exact l2) (Bg s)) wz
  rw[Ac (by rw[mA];exact l2)] at J;have J:=ar J;generalize (bl s++List.replicate (8-s.size) 0).getD 7 0=c at *;clear hc U h V;go_in;go_wp2_with(first|(go_at_call 170;refine C' G.out ?_)|((with_reducible show wpList _ _ _ (⟨some 10,_,_,_,_,_⟩::_) _ _);refine jw rfl (.tmp 8) (.tmp 9) 31 9 rfl _ _ rfl rfl HC.out ?_)|(with_reducible refine gL 203 HL.out ?_)|(go_at_call 152;refine Rr (J.out _) λw' z=> ?_;have qb:=ar z;clear z));go_ret2;exact⟨rfl,HK.out.trans qb.out (by simp)⟩
def lF (l:List Int):Prop:=∀k,k<13->(0<=l.getD k 0/\l.getD k 0<256)/\(l.getD k 0≠0->∀j,j<k->l.getD j 0≠l.getD k 0)
instance (l:List Int):Decidable (lF l):=by unfold lF;infer_instance
def jm (l:List Int) (c:Nat):List Int:=l.take c++List.replicate (13-c) 0
theorem nR (h:l.length=13){c:Nat}(z:c<=13):(jm l c).length=13:=by simp[jm,h];omega
theorem qo (z:l.length=13){c:Nat}(G:c<=13)(k:Nat):(jm l c).getD k 0=if k<c then l.getD k 0 else 0:=by
 simp only[jm,aj,iA,aJ,bU,bj];by_cases h:k<c
 ·rw[aB,aB h,aB h]
 ·rw[aA,aA h]
  split<;>rfl
def bp (n:Nat):Nat:=(n+3)/4
def bL (n:Nat):Nat:=(n+63)/64
def leB (a b:ByteArray):Bool:=Op.bytesLess a.toList b.toList||(a.toList==b.toList)
def qQ (n:bT):Prop:=(0<=n.S/\n.S<=832)/\n.E.length=0/\n.B=jm n.B (bL n.S.toNat)/\lF n.B
def Ey (E:List (ByteArray×Int)) (k:Nat):Prop:=iy (bl (eX E k))=true/\(0<=jq E k/\jq E k<=31)/\(0<k->leB (eX E k) (eX E (k-1))=false)
def pn (n:bT):Prop:=n.E.length<=24/\n.S=n.E.length/\n.B=List.replicate 13 0/\∀k,k<n.E.length->Ey n.E k
def cm (n:bT):Prop:=(n.F=1\/n.F=2)/\(0<=n.L/\n.L<=65535)/\(n.K=1/\qQ n\/n.K=2/\pn n)
instance (n:bT):Decidable (qQ n):=by unfold qQ;infer_instance
instance (E:List (ByteArray×Int)) (k:Nat):Decidable (Ey E k):=by unfold Ey;infer_instance
instance (n:bT):Decidable (pn n):=by unfold pn;infer_instance
instance (n:bT):Decidable (cm n):=by unfold cm;infer_instance
def sQ (l:List Int) (k:Nat):List Bool:=(List.range 256).map λc=>decide (∃j,j<k/\l.getD j 0=((c:Nat):Int))
theorem yT (l:List Int)(k:Nat):(sQ l k).length=256:=by rw[sQ,bZ,fK]
theorem TZ (l:List Int)(k c:Nat)(h:c<256):(sQ l k).getD c false=decide (∃j,j<k/\l.getD j 0=((c:Nat):Int)):=by
 rw[sQ,aj,bJ,cB h];rfl
theorem FV (l:List Int):List.replicate 256 false=sQ l 0:=by
 apply cU (by rw[bE,yT]);intro j z h;rw[List.getElem_replicate];simp only[sQ,ic,j0];exact(aQ λ⟨i,G,_⟩=>by omega).symm
theorem Qa (l:List Int)(k c:Nat)(h:l.getD k 0=((c:Nat):Int)):(sQ l k).set c true=sQ l (k+1):=by
 apply cU (by rw[cX,yT,yT]);intro j V U;rw[List.getElem_set];simp only[sQ,ic,j0];by_cases e:c=j
 ·subst e
  rw[aB rfl];exact(bu ⟨k,by omega,h⟩).symm
 ·rw[aA e]
  refine decide_eq_decide.2 ⟨λ⟨i,J,z⟩=>⟨i,by omega,z⟩,λ⟨i,J,z⟩=> ?_⟩;by_cases G:i=k
  ·subst G
   rw[h] at z;exact absurd (Int.ofNat_inj.1 z) e
  ·exact⟨i,by omega,z⟩
theorem eA{rest:List Oper}{a:Act}(V:Region.wanted o (yielded z a.tmps)=true)(ty:TypeId)(x:Operand)(W:o.op= .load ty x)(G:Addr)
  (hx:a.eval x= .pointer (some G)) (v:Value) (J:(loadVar ty G).run P w= .ok v w) (h:wpList P z Q rest (a.put o.dst v) w):wpList P z Q (o::rest) a w:=
 wpList_step λ_ U=>by
  rw[aB V];unfold Oper.wp execOp;simp only[W,hx,Instr.loadAt,Instr.sureAddr,ck,fO,cL,J];exact U _ _ h
theorem mR{a:Act}{K:Act->World->Prop}{E:Prop}(G:o.guard=none)(ty:TypeId)(x:Operand)(W:o.op= .load ty x)(J:Addr)
  (hx:a.eval x= .pointer (some J)) (v:Value) (U:(loadVar ty J).run P w= .ok v w) (h:K (a.put o.dst v) w):if Region.wanted o (yielded z a.tmps)=true then Oper.wp P o a w K Q else E:=by
 have V:Region.wanted o (yielded z a.tmps)=true:=by simp[Region.wanted,G]
 rw[aB V];unfold Oper.wp execOp;simp only[W,hx,Instr.loadAt,Instr.sureAddr,ck,fO,cL,U];exact h
theorem FW{ty:TypeId}{k:IntKind}(U:P.underlying ty=some (.int k))(J:bh w g Z T)(z:Z[off]? =some v):(loadVar ty ⟨g,off,none⟩).run P w= .ok v w:=by
 have h:(isAgg ty).run P w= .ok false w:=by
  unfold isAgg;rw[ck,dA U w];rfl
 have G:w.cell? ⟨g,off,none⟩=some v:=by rw[J.cell,z]
 simp[loadVar,h,G]
theorem wu (h:Addr)(w:World):(asAddr (.pointer (some h))).run P w= .ok h w:=rfl
theorem bA{a:Nat}{z:Addr}(h:fn.results= #[.cell a t])(G:tmps.getD a undef= .pointer (some z))(J:(loadVar t z).run P w= .ok v w):
  (results fn tmps).run P w= .ok v w:=by
 rw[fg] at G;unfold results;rw[h];simp[G,wu,J]
theorem cH{a:Nat}{G:Addr}{x y:Value}(h:fn.results= #[.cell a t,.tmp b,.tmp c])(z:tmps.getD a undef= .pointer (some G))(V:(loadVar t G).run P w= .ok v w)
  (J:tmps.getD b undef=x) (U:tmps.getD c undef=y):(results fn tmps).run P w= .ok (.tuple #[v,x,y]) w:=by
 rw[fg] at z J U;unfold results;rw[h];simp[z,wu,V,J,U]
theorem IJ (b c:Nat)(z:c<13)(w:World):(Instr.sliceAt 109 (.pointer (some ⟨b,0,none⟩)) (some (.int .i64 (c:Int))) none none).run prog w= .ok (.slice (some ⟨b,c,none⟩) (13-c) (13-c)) w:=by
 have h:c=0\/c=1\/c=2\/c=3\/c=4\/c=5\/c=6\/c=7\/c=8\/c=9\/c=10\/c=11\/c=12:=by omega
 rcases h with rfl|rfl|rfl|rfl|rfl|rfl|rfl|rfl|rfl|rfl|rfl|rfl|rfl
 all_goals (show Sem.run _ _ _=_;kernel_rfl)
theorem FX (b:Nat)(w:World):∃off cap,(Instr.sliceAt 109 (.pointer (some ⟨b,0,none⟩)) (some (.int .i64 (13:Nat))) none none).run prog w= .ok (.slice (some ⟨b,off,none⟩) 0 cap) w:=
 ⟨0,0,by show Sem.run _ _ _=_;kernel_rfl⟩
theorem Qb (b c:Nat)(J:c<=13)(w:World):∃off cap,(Instr.sliceAt 109 (.pointer (some ⟨b,0,none⟩)) (some (.int .i64 (c:Int))) none none).run prog w= .ok (.slice (some ⟨b,off,none⟩) (13-c) cap) w/\(c<13->off=c):=by
 by_cases h:c<13
 ·exact⟨c,13-c,IJ b c h w,λ_=>rfl⟩
 ·obtain rfl:c=13:=by omega
  obtain⟨off,cap,G⟩:=FX b w;exact⟨off,cap,G,λz=>absurd z h⟩
theorem MU (b c:Nat)(z:c<=13)(w:World):(Instr.sliceAt 109 (.pointer (some ⟨b,0,none⟩)) none (some (.int .i64 (c:Int))) none).run prog w= .ok (.slice b c 13) w:=by
 have h:c=0\/c=1\/c=2\/c=3\/c=4\/c=5\/c=6\/c=7\/c=8\/c=9\/c=10\/c=11\/c=12\/c=13:=by omega
 rcases h with rfl|rfl|rfl|rfl|rfl|rfl|rfl|rfl|rfl|rfl|rfl|rfl|rfl|rfl
 all_goals (show Sem.run _ _ _=_;kernel_rfl)
theorem set_tail(l:List Int)(c:Nat)(h:l.length=13)(z:c<=13):((zs l).take c++zs (List.replicate (13-c) 0)++(zs l).drop (c+(zs (List.replicate (13-c) 0)).length)).toArray=(zs (jm l c)).toArray:=by
 rw[dx (by rw[eO,eO,bE,h];omega),br];unfold jm;rw[yQ];simp[zs]
theorem IK (n:Nat):(Builtin.zeroCells (Value.int .i64 0).cells n).toList=zs (List.replicate n 0):=by
 have e:(Value.int IntKind.i64 0).cells= #[Value.int .i64 0]:=rfl;rw[e];apply cU
 ·simp[Builtin.zeroCells,zs]
 ·intro j z h
  simp[Builtin.zeroCells,zs,Nat.mod_one]
theorem Qc{cap:Nat}(G:bh w b (zs l).toArray T)(U:l.length=13)(hc:c<=13)(ho:c<13->off=c):∃w',(∀ty,(Builtin.clear_ #[141] ty #[.slice (some ⟨b,off,none⟩) (13-c) cap]).run prog w= .ok (.tuple #[]) w')/\bh w' b (zs (jm l c)).toArray T/\ay [b] w w':=by
 by_cases h:c<13
 ·obtain rfl:=ho h
  have z:=run_storeCells_at prog b off T (zs (List.replicate (13-off) 0)) 0 (zs l).toArray w G (by simp[eO,U];omega) (nC _);refine⟨_,λty=> ?_,?_,(ay.refl _ _).setRow (g:=b) (by simp) ((zs l).take off++zs (List.replicate (13-off) 0)++(zs l).drop (off+(zs (List.replicate (13-off) 0)).length)).toArray⟩
  ·have V:(Builtin.zeroCells (Value.int .i64 0).cells (13-off)).toList=zs (List.replicate (13-off) 0):=IK _
   have J:(zeroValue 3).run prog w= .ok (.int .i64 0) w:=by kernel_rfl
   obtain⟨m,W⟩:∃m,13-off=m+1:=⟨12-off,by omega⟩;unfold Builtin.clear_;rw[W] at V z ⊢;simp only[ck,dA underlying141,cL,aF,fU,J,V];simp only[dB] at z;rw[z];simp
  ·rw[set_tail l off U hc]
   exact kv G
 ·obtain rfl:c=13:=by omega
  refine⟨w,λty=> ?_,?_,ay.refl _ _⟩
  ·unfold Builtin.clear_
   simp[dA underlying141]
  ·rw[show jm l 13=l by unfold jm;rw[aW (by omega)];simp]
   exact G
end
section
open Go.RowKit Go.Shelf
variable{a l:List Int}{T b c f g j k off t:Nat}{E:List (ByteArray×Int)}{w:World}{v:Value}{P:Program}{Z tmps:Array Value}{s:ByteArray}{z:Array Oper}{o:Oper}{Q:Exit->Act->World->Prop}{fn:Func}
attribute [local go_sem] kf
theorem XE (a:Option Addr)(len cap:Nat)(w:World):Calls prog 231 #[.slice a len cap,(3:Int)] w λe w'=>
  e= .returned (.func (.func 237) #[] #[w.heap.size,(w.heap.size+1:Nat)])/\
   w'=(w.alloc (.cells #[.slice a len cap] 32)).alloc (.cells #[(3:Int)] 3):=by
 have h:=bh.new (w.alloc (.cells #[.slice a len cap] 32)) #[(3:Int)] 3;have z:(w.alloc (.cells #[.slice a len cap] 32)).heap.size=w.heap.size+1:=by simp
 rw[z] at h;have G:((w.alloc (.cells #[.slice a len cap] 32)).alloc (.cells #[(3:Int)] 3)).cell? (w.heap.size+1:Nat)=some (.int .i64 3):=by rw[h.cell];rfl
 clear h;go_in;go_wp2_with fail;go_ret;exact⟨rfl,rfl⟩
def chV (a:Option Addr) (len x:Nat):Value:=
 match a with
 |some ⟨g,off,_⟩=> .slice (some ⟨g,off+x*3*2,none⟩) (min 3 (len-3*x)) (min 3 (len-3*x))
 |none=> .slice none 0 0
def KpC (h z:Nat) (W G:World):Prop:=G.heap[h]? =W.heap[h]? /\G.heap[z]? =W.heap[z]?
theorem T6 (n l bs G g off len cap:Nat)(hn:1<=n)(av:len<=10000)(ax:len<=cap)(J Jx:List Nat->World->Prop)(B:Nat)(hJ:AbidesFrom B J)
  (hY:∀h x W,J h W->h.length<(len+2)/3->YieldAt Fence.wide (n-1) prog l #[chV (some ⟨g,off,none⟩) len x] W λe W'=>
   (e=true/\J (h++[x]) W'/\KpC bs G W W')\/(e=false/\Jx (h++[x]) W'))
  (W:World) (aa:bh W bs #[.slice (some ⟨g,off,none⟩) len cap] 32) (DN:bh W G #[(3:Int)] 3) (h0:J [] W):
  CallsIn Fence.wide n prog 237 #[.func (.yield l) #[] #[],bs,G] W λe W'=>(∃v,e=(v:Value))/\
   ((∃ys,ys=List.range ((len+2)/3)/\J ys W')\/(∃h,True/\Jx h W')):=by
 refine callsIn_of_wp func237 rfl trivial ?_ rfl;simp only[ntmps237,bN,cr,cC,Nat.reduceAdd,Nat.reduceSub,fZ,gi,iI,gQ,bQ,ia]
 gi_wp2
 gi_loopw [4] (λi wr=>∃k:Nat,k<=(len+2)/3/\i= .int .i64 ((k*3:Nat):Int)/\J (List.range k) wr/\KpC bs G W wr)
  (λi _=>len+3-(intOf i).toNat)
 case atStart=>exact⟨0,fC _,rfl,h0,rfl,rfl⟩
 case round=>
  obtain⟨k,hk,rfl,z,ag,ae⟩:=hrel;have cs:wr.cell? bs=some (.slice (some ⟨g,off,none⟩) len cap):=(aO (a:=⟨bs,0,none⟩) ag).trans (by rw[aa.cell];rfl);have cn:wr.cell? G=some (.int .i64 3):=(aO (a:=⟨G,0,none⟩) ae).trans (by rw[DN.cell];rfl);obtain⟨i,hi⟩:∃i:Nat,i=k*3:=⟨_,rfl⟩;rw[<-hi];by_cases aN:i<len
  ·have ak:J (List.range k) wr.drew:=hJ _ _ _ none z ⟨rfl,rfl,rfl,aH _,λ_ _ _=>rfl⟩ (λr e=>by cases e)
   obtain⟨fn,tmps,assign,body,hy,hR⟩:=hY _ k wr.drew ak (by rw[fK];omega);obtain⟨m,hm⟩:∃m:Nat,m=min 3 (len-i):=⟨_,rfl⟩;have hv:chV (some ⟨g,off,none⟩) len k= .slice (some ⟨g,off+i*2,none⟩) m m:=by
    show Value.slice (some ⟨g,off+k*3*2,none⟩) (min 3 (len-3*k)) (min 3 (len-3*k))=_;rw[hm,hi,Nat.mul_comm 3 k]
   rw[hv] at hy;clear hv hY aa DN;have af:(i:Int)<(len:Int):=by omega
   have aG:(0:Int)<=(i:Int):=by omega
   have aP:(i:Int)<=(len:Int):=by omega
   have PC:cap≠i:=by omega
   have aD:(i:Int)<=((i+m:Nat):Int):=by omega
   have ay:((i+m:Nat):Int)<=(cap:Int):=by omega
   have aC:i+m≠i:=by omega
   have aF:i+m-i=m:=by omega
   have aK:wrap64 ((i:Int)+3)=(i:Int)+3:=by unfold wrap64;omega
   obtain⟨HI,ac⟩:=hh2 hi z;have ml:Hid (len+3-(i+3)<len+3-i/\k+1<=(len+2)/3):=by show _/\_;omega
   clear hk hJ z hi;obtain⟨y,az,aA,aL,aM,aB⟩:∃y:Int,(i:Int)+(m:Int)=y/\wrap64 y=y/\(i:Int)<=y/\y<=(cap:Int)/\y.toNat=i+m:=⟨_,rfl,by unfold wrap64;omega,by omega,by omega,by omega⟩;obtain⟨r,hr⟩:∃r:Nat,r=len-i:=⟨_,rfl⟩;rw[<-hr] at hm;have au:(len:Int)-(i:Int)=(r:Int):=by omega
   have U:((3:Int)<=(r:Int)/\m=3)\/(¬(3:Int)<=(r:Int)/\m=r):=by omega
   have aj:=hr.symm;clear hr hm;rcases U with ⟨U,rfl⟩|⟨U,rfl⟩
   all_goals
    gi_wp2
    gi_region
    all_goals try clear aj
    gi_wp2
    refine hR.mono ?_;rintro e W3 (⟨rfl,ah,V⟩|⟨rfl,ai⟩)
    ·have aJ:W3.cell? G=some (.int .i64 3):=(aO (w:=wr.drew) (a:=⟨G,0,none⟩) V.2).trans cn
     gi_wp2
     go_roundw
     case rel=>exact⟨k+1,ml.out.2,by rw[HI.out];simp;omega,by rw[dU];exact ah,V.1.trans ag,V.2.trans ae⟩
     case measure=>have :=ml.out.1;simp[intOf];omega
    ·gi_wp2
     refine aI (results_none rfl _ _ _) rfl ?_;exact⟨⟨_,rfl⟩,.inr ⟨_,trivial,ai⟩⟩
  ·have af:¬(i:Int)<(len:Int):=by omega
   obtain rfl:k=(len+2)/3:=by omega
   have ac:=ar z;clear hY aa DN hi hk z hJ
   gi_wp2
   go_end0;exact⟨⟨_,rfl⟩,.inl ac.out⟩
theorem T7 (n l h bn:Nat)(a:Option Addr)(cap:Nat)(J Jx:List Nat->World->Prop)(W:World)(G:bh W h #[.slice a 0 cap] 32)(h0:J [] W):
  CallsIn Fence.wide n prog 237 #[.func (.yield l) #[] #[],h,bn] W λe V=>(∃v,e=(v:Value))/\
   ((∃U,U=List.range 0/\J U V)\/(∃z,True/\Jx z V)):=by
 have cs:W.cell? h=some (.slice a 0 cap):=by rw[G.cell];rfl
 refine callsIn_of_wp func237 rfl trivial ?_ rfl;simp only[ntmps237,bN,cr,cC,Nat.reduceAdd,Nat.reduceSub,fZ,gi,iI,gQ,bQ,ia]
 gi_wp2
 gi_loopw [4] (λi wr=>i= .int .i64 0/\wr=W) (λ_ _=>0)
 case atStart=>exact⟨rfl,rfl⟩
 case round=>
  obtain⟨rfl,rfl⟩:=hrel
  gi_wp2
  go_end0;exact⟨⟨_,rfl⟩,.inl ⟨_,rfl,h0⟩⟩
theorem MV (n:Nat)(hn:1<=n)(a:Option Addr)(len cap:Nat)(U:len<=10000)(V:len<=cap)(ha:len≠0->∃g off,a=some ⟨g,off,none⟩)(z G:Nat)(w:World)
  (aa:bh w z #[.slice a len cap] 32) (DN:bh w G #[(3:Int)] 3):
  SeqStopsK Fence.wide n prog 237 #[z,G] (λx=> #[chV a len x]) (KpC z G) (λys=>ys=List.range ((len+2)/3)) (λ_=>True) ((len+2)/3) w:=by
 intro l J Jx W hW hJ af hY hj;have ac:bh W z #[.slice a len cap] 32 :=(hW.block z aa.lt).trans aa;have ae:bh W G #[(3:Int)] 3 :=(hW.block G DN.lt).trans DN;by_cases h:len=0
 ·subst h
  exact T7 n l z G a cap J Jx W ac hj
 ·obtain⟨g,off,rfl⟩:=ha h
  exact T6 n l z G g off len cap hn U V J Jx _ hJ hY W ac ae hj
end
section
open Go.RowKit
variable{a l:List Int}{T b c f g j k off t:Nat}{E:List (ByteArray×Int)}{w:World}{v:Value}{P:Program}{Z tmps:Array Value}{s:ByteArray}{z:Array Oper}{o:Oper}{Q:Exit->Act->World->Prop}{fn:Func}
def DR (x:Int):Prop:=0<x/\x<256
instance (x:Int):Decidable (DR x):=by unfold DR;infer_instance
def mf (l:List Int) (j:Nat):Prop:=0<j/\j<13/\DR (l.getD j 0)/\DR (l.getD (j-1) 0)/\l.getD j 0=l.getD (j-1) 0+1
instance (l:List Int) (j:Nat):Decidable (mf l j):=by unfold mf;infer_instance
def oW (l:List Int):Nat->Nat->Nat
 |0,e=>e
 |f+1,e=>if mf l e then oW l f (e+1) else e
theorem MW (l:List Int)(j:Nat)(G:¬mf l j):∀(f e:Nat),e<=j->j-e<=f->(∀i,e<=i->i<j->mf l i)->oW l f e=j
 |0,e,h1,h2,_=>by unfold oW;omega
 |f+1,e,h1,h2,h3=>by
  unfold oW;by_cases h:e=j
  ·subst h;rw[aA G]
  ·rw[aB (h3 e (aH _) (by omega))]
   exact MW l j G f (e+1) (by omega) (by omega) λi J z=>h3 i (by omega) z
def sS (l:List Int) (k:Nat):Prop:=DR (l.getD k 0)/\¬mf l k
instance (l:List Int) (k:Nat):Decidable (sS l k):=by unfold sS;infer_instance
def rM (l:List Int) (k:Nat):Nat:=oW l 13 (k+1)-k
def zz (k:Nat) (b:Int) (n:Nat):Int:=(k:Int)*4294967296+b*256+(n:Int)
def gD (l:List Int):Nat->List Int
 |0=>[]
 |k+1=>if sS l k then gD l k++[zz k (l.getD k 0) (rM l k)] else gD l k
def fu (l:List Int):List Int:=gD l 13
theorem mB (l:List Int):∀k,(gD l k).length<=k
 |0=>by simp[gD]
 |k+1=>by
  unfold gD;have :=mB l k;split
  ·rw[aC,ka];omega
  ·omega
theorem DT (l:List Int)(f:Nat):∀j,f<=j->(∀i,f<=i->i<j->mf l i)->gD l j=gD l f
 |0,h,_=>by have :f=0:=by omega
            subst this;rfl
 |j+1,h,hc=>by
  by_cases e:f=j+1
  ·subst e;rfl
  ·rw[gD,aA (λz=>z.2 (hc j (by omega) (by omega)))]
   exact DT l f j (by omega) λi G J=>hc i G (by omega)
theorem Qd (U:sS l f)(J:f<j)(W:j<=13)(z:∀i,f<i->i<j->mf l i)(G:¬mf l j):gD l j=gD l f++[zz f (l.getD f 0) (j-f)]:=by
 rw[DT l (f+1) j (by omega) (λi V h=>z i (by omega) h),gD,aB U,rM,MW l j G 13 (f+1) (by omega) (by omega) λi V h=>z i (by omega) h]
theorem MX (h:¬DR (l.getD f 0)):gD l (f+1)=gD l f:=by
 rw[gD,aA (λz=>h z.1)]
theorem aa7 (G:∀i,f<i->i<j->mf l i):∀i,f<=i->i<j->l.getD i 0=l.getD f 0+((i-f:Nat):Int):=by
 intro i;induction i with
 |zero=>intro h _;have :f=0:=by omega
        subst this;simp
 |succ i ih=>
  intro J z;by_cases e:f=i+1
  ·subst e;simp
  ·have h:=(G (i+1) (by omega) z).2.2.2.2
   rw[ib] at h;rw[h,ih (by omega) (by omega)];omega
theorem Sr (z:DR (l.getD f 0))(G:∀i,f<i->i<j->mf l i)(i:Nat)(J:f<=i)(h:i<j):DR (l.getD i 0):=by
 by_cases e:f=i
 ·subst e;exact z
 ·exact(G i (by omega) h).2.2.1
theorem XF (G:DR (l.getD f 0))(z:f<j)(J:∀i,f<i->i<j->mf l i):mf l j↔j<13/\DR (l.getD j 0)/\l.getD j 0=l.getD (j-1) 0+1:=by
 unfold mf;exact⟨λh=>⟨h.2.1,h.2.2.1,h.2.2.2.2⟩,λh=>⟨by omega,h.1,h.2.1,Sr G J _ (by omega) (by omega),h.2.2⟩⟩
end
end Go.Proofs.YtepbpdipenedhaaGreatDoor
