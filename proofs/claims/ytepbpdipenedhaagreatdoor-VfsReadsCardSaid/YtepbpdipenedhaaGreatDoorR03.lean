/- Lemmas. -/
import Derived.Test.YtepbpdipenedhaaGreatDoorChecked
import Derived.Lib.BufferWrite
import Derived.Laws.IdiomStrings
import Derived.Test.YtepbpdipenedhaaGreatDoorR02
import Derived.RangeFuncNested
import Derived.RangeFuncBound
import Derived.Shelf.Abstract
import Derived.Shelf.RegionOpen
import Derived.OwnWalkIn
import Derived.TacticsInMore
import Derived.LoopNIn
import Derived.LoopIn
set_option maxHeartbeats 2000000
set_option maxRecDepth 100000
namespace Go.Proofs.YtepbpdipenedhaaGreatDoor
open Go.Proofs.Tryz
open Go.RowKit
variable{a l:List Int}{T b c f g j k off t:Nat}{E:List (ByteArray×Int)}{w:World}{v:Value}{P:Program}{Z tmps:Array Value}{s:ByteArray}{z:Array Oper}{o:Oper}{Q:Exit->Act->World->Prop}{fn:Func}
def zs (l:List Int):List Value:=l.map (Value.int .i64)
theorem eF (l:List Int):(zs l).length=l.length:=by simp[zs]
theorem fR (h:j<l.length):(zs l)[j]? =some (.int .i64 (l.getD j 0)):=by simp[zs,h]
theorem OE (l:List Int)(j:Nat)(x:Int):(zs l).set j (.int .i64 x)=zs (l.set j x):=by simp[zs,List.map_set]
theorem BJ (xs h:List Int):zs (xs++h)=zs xs++zs h:=by simp[zs]
theorem l9 (l:List Int):∀u∈zs l,u.oneCell'=true:=by
 intro u h;simp only[zs,bH] at h;obtain⟨x,-,rfl⟩:=h;rfl
def eH (E:List (ByteArray×Int)):List Value:=E.flatMap λp=>[.string p.1,.int .i64 p.2]
def eU (E:List (ByteArray×Int)) (j:Nat):ByteArray:=(E.getD j (ByteArray.empty,0)).1
def jl (E:List (ByteArray×Int)) (j:Nat):Int:=(E.getD j (ByteArray.empty,0)).2
theorem Lz (p:ByteArray×Int)(E:List (ByteArray×Int))(j:Nat):eU (p::E) (j+1)=eU E j:=rfl
theorem LA (p:ByteArray×Int)(E:List (ByteArray×Int))(j:Nat):jl (p::E) (j+1)=jl E j:=rfl
theorem V6 (h:k<E.length):(eU E k,jl E k)∈E:=by
 have :E.getD k (ByteArray.empty,0)=E[k]:=by simp[h]
 rw[eU,jl,this];exact bA h
theorem V7{F:List (ByteArray×Int)}(U:E.length=F.length)(h:∀k,k<E.length->eU E k=eU F k/\jl E k=jl F k):E=F:=by
 apply dg U;intro k z J;have :=h k z;have V:E.getD k (ByteArray.empty,0)=E[k]:=by simp[z]
 have G:F.getD k (ByteArray.empty,0)=F[k]:=by simp[J]
 rw[eU,eU,jl,jl,V,G] at this;exact Prod.ext this.1 this.2
theorem jV (E:List (ByteArray×Int)):(eH E).length=E.length*2:=by
 induction E with
 |nil=>rfl
 |cons p E ih=>simp[eH] at ih ⊢;omega
theorem nr (E F:List (ByteArray×Int)):eH (E++F)=eH E++eH F:=by simp[eH]
theorem py (E:List (ByteArray×Int)):∀k,k<E.length->(eH E)[k*2]? =some (.string (eU E k))/\(eH E)[k*2+1]? =some (.int .i64 (jl E k)):=by
 induction E with
 |nil=>intro k h;simp at h
 |cons p E ih=>
  intro k h;have z:eH (p::E)= .string p.1:: .int .i64 p.2::eH E:=rfl;cases k with
  |zero=>rw[z];exact⟨rfl,rfl⟩
  |succ k=>
   have :=ih k (by simpa using h);rw[z,show(k+1)*2=k*2+1+1 by omega,Lz,LA];simp only[cX];exact this
theorem uV (E:List (ByteArray×Int)):∀u∈eH E,u.oneCell'=true:=by
 intro u h;simp only[eH,List.mem_flatMap,aP,aM,bz] at h;obtain⟨p,-,rfl|rfl⟩:=h<;>rfl
def bC (w:World) (v:Value) (g:Nat) (E:List (ByteArray×Int)):Prop:=
 ∃a cap,v= .slice a E.length cap/\E.length<=cap/\cap<=maxLen/\(E.length≠0->g<w.heap.size/\∃off,a=some ⟨g,off,none⟩/\
  ∀j,j<E.length->w.cell? ⟨g,off+j*2,none⟩=some (.string (eU E j))/\w.cell? ⟨g,off+j*2+1,none⟩=some (.int .i64 (jl E j)))
theorem bC.keep{w':World}(h:bC w v g E){l:List Nat}(G:az l w w')(hg:E.length≠0->g∉l):bC w' v g E:=by
 obtain⟨a,cap,h1,h2,h3,h4⟩:=h;refine⟨a,cap,h1,h2,h3,λJ=> ?_⟩;obtain⟨z,off,h5,W⟩:=h4 J;refine⟨bL z G.size,off,h5,λj U=> ?_⟩;have V:=G.block g z (hg J);exact⟨(aO (w:=w) (w':=w') (a:=⟨g,off+j*2,none⟩) V).trans (W j U).1,(aO (w:=w) (w':=w') (a:=⟨g,off+j*2+1,none⟩) V).trans (W j U).2⟩
theorem bC.open(h:bC w v g E):∃a cap,v= .slice a E.length cap/\E.length<=cap/\cap<=maxLen/\
  Hid (∀k,k<E.length->g<w.heap.size/\∃off,a=some ⟨g,off,none⟩/\w.cell? ⟨g,off+k*2,none⟩=some (.string (eU E k))/\w.cell? ⟨g,off+k*2+1,none⟩=some (.int .i64 (jl E k))):=by
 obtain⟨a,cap,z,U,h3,V⟩:=h;refine⟨a,cap,z,U,h3,λk G=> ?_⟩;obtain⟨W,off,h6,J⟩:=V (by omega);exact⟨W,off,h6,J k G⟩
theorem bC.apart(h:bC w v g E){l:List Nat}(U:∀x,x∈l->w.heap.size<=x):E.length≠0->g∉l:=λz G=>by
 obtain⟨a,cap,V,W,h3,J⟩:=h;have :=(J z).1;have :=U g G;omega
theorem bC.nil(w:World)(g:Nat):bC w (.slice none 0 0) g []:=⟨none,0,rfl,by simp,by simp[maxLen],λh=>absurd rfl h⟩
theorem bC.anyG(h:bC w v g E)(J:E.length=0)(G:Nat):bC w v G E:=by
 obtain⟨a,cap,z,U,V,W⟩:=h;exact⟨a,cap,z,U,V,λh=>absurd J h⟩
theorem fp.ereads{n:Nat}(h:fp w v g T 2 n (eH E))(hn:n=E.length):bC w v g E:=by
 subst hn;obtain⟨a,cap,G,V,h2⟩:=h.val;refine⟨a,cap,G,V,h2,λh0=> ?_⟩;obtain⟨W,⟨U,z,-,-⟩,J,-⟩:=h.cell h0;rw[G] at z;cases z;refine⟨W,0,rfl,λj hj=> ?_⟩;rw[aX,J (j*2) (by omega),J (j*2+1) (by omega)];exact py E j hj
structure bP where
 F:Int
 K:Int
 L:Int
 S:Int
 B:List Int
 E:List (ByteArray×Int)
def mo (n:bP) (v:Value):List Value:= .int .i64 n.F:: .int .i64 n.K:: .int .i64 n.L:: .int .i64 n.S::(zs n.B++[v])
def aR (n:bP) (v:Value):Array Value:=(mo n v).toArray
theorem gU (n:bP)(v:Value):(mo n v).length=n.B.length+5:=by simp[mo,eF]
theorem BK{n:bP}(v:Value){k:Nat}(h:k<n.B.length):(aR n v)[4+k]? =some (.int .i64 (n.B.getD k 0)):=by
 rw[aR,aF,mo,show 4+k=k+1+1+1+1 by omega];simp only[cX];rw[aY (by rw[eF];exact h),fR h]
theorem zk{n:bP}(v:Value)(h:n.B.length=13):(aR n v)[17]? =some v:=by
 rw[aR,aF,mo];simp only[cX];rw[aQ (by rw[eF,h];omega),eF,h];rfl
structure QO (Z:Array Value) (n:bP) (v:Value):Prop where
 f0:Z[0]? =some (.int .i64 n.F)
 f1:Z[1]? =some (.int .i64 n.K)
 f2:Z[2]? =some (.int .i64 n.L)
 f3:Z[3]? =some (.int .i64 n.S)
 f4:∀k,k<13->Z[4+k]? =some (.int .i64 (n.B.getD k 0))
 f5:Z[17]? =some v
 len:n.B.length=13
 eq:Z=aR n v
theorem iX{n:bP}(v:Value)(h:n.B.length=13):QO (aR n v) n v:=
 ⟨rfl,rfl,rfl,rfl,λ_ z=>BK v (by omega),zk v h,h,rfl⟩
theorem CV{m:List Int}(J:l.length=m.length)(h:∀k,k<l.length->l.getD k 0=m.getD k 0):l=m:=by
 apply dg J;intro k z G;have :=h k z;simpa[aj,z,G] using this
theorem pz (w:World)(d:Nat)(t e:TypeId)(len:Nat)(k k':IntKind)(a b:List Int)(ht:P.underlying t=some (.array len e))(he:P.underlying e=some (.int k'))(hz:(P.info? e).map (·.size)=some 1)
  (ha:a.length=len) (hb:b.length=len):
  (Op.equalIn (d+2) t (.agg (a.map (Value.int k)).toArray) (.agg (b.map (Value.int k)).toArray)).run P w= .ok (decide (a=b)) w:=by
 have QP:∀(l:List Int) (i:Nat) (z:World),i<l.length->(part e (l.map (Value.int k)).toArray i).run P z= .ok (.int k (l.getD i 0)) z:=by
  intro l i z hi;have J:(isAgg e).run P z= .ok false z:=by
   unfold isAgg;rw[cg,dQ he z];rfl
  unfold part;rw[cg,J];simp[hi]
 have W:∀z:World,(sizeOf e).run P z= .ok 1 z:=by
  intro z;cases hq:P.info? e with
  |none=>simp[hq] at hz
  |some i=>simp[sizeOf,typeInfo,hq] at hz ⊢;exact hz
 have ae:∀(x y:Int) (z:World),(Op.equalIn (d+1) e (.int k x) (.int k y)).run P z= .ok (x==y) z:=λx y z=>run_equalIn_int z d e k k' x y he
 rw[Op.equalIn];simp only[cg,dQ ht,cm,W,Std.Legacy.Range.forIn_eq_forIn_range',Std.Legacy.Range.size,Nat.sub_zero,ic,Nat.div_one,iq];have aa:∀(m s:Nat),s+m=len->Sem.run P (forIn (List.range' s m) ((none:Option Bool),()) λi _=>do
      let x <-part e (List.map (Value.int k) a).toArray i
      let y <-part e (List.map (Value.int k) b).toArray i
      let r <-Op.equalIn (d+1) e x y
      if (!r)=true then pure (ForInStep.done (some false,())) else pure (ForInStep.yield (none,()))) w= .ok (if a.drop s=b.drop s then none else some false,()) w:=by
  intro m;induction m with
  |zero=>
   intro s hs;rw[dF (by omega),dF (by omega),aC rfl];simp
  |succ m ih=>
   intro s hs;have U:s<a.length:=by omega
   have V:s<b.length:=by omega
   rw[List.range'_succ,List.forIn_cons];simp only[cg,QP a s w U,QP b s w V,cm,ae];rw[fE U,fE V];have g1:a.getD s 0=a[s]:=by simp[U]
   have g2:b.getD s 0=b[s]:=by simp[V]
   by_cases G:a[s]=b[s]
   ·rw[g1,g2,G]
    have :=ih (s+1) (by omega);simp only[BEq.rfl,Bool.not_true,Bool.false_eq_true,if_false,fO,cm,List.cons.injEq,true_and];exact this
   ·have ac:(a[s]==b[s])=false:=by simpa using G
    rw[g1,g2,ac];simp;intro hd;rw[fE U,fE V] at hd;exact absurd (List.cons.inj hd).1 G
 rw[aa len 0 (by omega)];by_cases h:a=b
 ·simp[h]
 ·simp[h]
theorem lu (t e:TypeId)(len:Nat)(V:IntKind)(Z:Array Value)(k:Nat)(v:Value)(ht:P.underlying t=some (.array len e))(he:P.underlying e=some (.int V))(U:(P.info? e).map (·.size)=some 1)
  (hk:k<len) (W:Z[k]? =some v) (w:World):(Instr.index t (.agg Z) (.int .i64 (k:Int))).run P w= .ok v w:=by
 have J:∀G:World,(sizeOf e).run P G= .ok 1 G:=by
  intro G;cases hq:P.info? e with
  |none=>simp[hq] at U
  |some i=>simp[sizeOf,typeInfo,hq] at U ⊢;exact U
 have z:(isAgg e).run P w= .ok false w:=by
  unfold isAgg;rw[cg,dQ he w];rfl
 have hi:(0:Int)<=(k:Int)/\(k:Int)<(len:Int):=by omega
 unfold Instr.index;simp[dQ ht,hi,J,part,z,W,asIntOf];intro h;omega
theorem kP:(prog.info? 109).map (·.size)=some 13:=by kernel_rfl
theorem QQ:(prog.info? 255).map (·.size)=some 8:=by kernel_rfl
theorem ja:(prog.info? 195).map (·.size)=some 8:=by kernel_rfl
theorem V8:(prog.info? 254).map (·.size)=some 13:=by kernel_rfl
theorem iY:(prog.info? 111).map (·.size)=some 18:=by kernel_rfl
theorem nR:(prog.info? 3).map (·.size)=some 1:=by kernel_rfl
theorem oH (w:World):(zeroValue 109).run prog w= .ok (.agg (zs (List.replicate 13 0)).toArray) w:=by kernel_rfl
theorem JI (w:World):(zeroValue 255).run prog w= .ok (.agg (zs (List.replicate 8 0)).toArray) w:=by kernel_rfl
theorem kC (w:World):(zeroValue 195).run prog w= .ok (.agg (aW (List.replicate 8 0)).toArray) w:=by kernel_rfl
theorem V9 (w:World):(zeroValue 254).run prog w= .ok (.agg (aW (List.replicate 13 0)).toArray) w:=by kernel_rfl
def cr:bP:=⟨0,0,0,0,List.replicate 13 0,[]⟩
theorem eA (w:World):(zeroValue 111).run prog w= .ok (.agg (aR cr (.slice none 0 0))) w:=by kernel_rfl
theorem OG{b:List Int}(z:a.length=13)(h:b.length=13)(w:World):(Op.equalIn 10000 109 (.agg (zs a).toArray) (.agg (zs b).toArray)).run prog w= .ok (decide (a=b)) w:=
 pz w 9998 109 3 13 .i64 .i64 a b underlying109 underlying3 nR z h
theorem ab3{b:List Int}(z:a.length=8)(h:b.length=8)(w:World):(Op.equalIn 10000 255 (.agg (zs a).toArray) (.agg (zs b).toArray)).run prog w= .ok (decide (a=b)) w:=
 pz w 9998 255 3 8 .i64 .i64 a b underlying255 underlying3 nR z h
theorem Iq{b:List Int}(z:a.length=8)(h:b.length=8)(w:World):(Op.equalIn 10000 195 (.agg (aW a).toArray) (.agg (aW b).toArray)).run prog w= .ok (decide (a=b)) w:=
 pz w 9998 195 56 8 .u64 .u64 a b underlying195 underlying56 qa z h
theorem BL: prog.eqGuardType prog.depth 109 =false:=by kernel_rfl
theorem LC: prog.eqGuardType prog.depth 255 =false:=by kernel_rfl
theorem tH: prog.eqGuardType prog.depth 195 =false:=by kernel_rfl
theorem xO (h:k<13)(z:Z[k]? =some v)(w:World):(Instr.index 109 (.agg Z) (.int .i64 (k:Int))).run prog w= .ok v w:=
 lu 109 3 13 .i64 Z k v underlying109 underlying3 nR h z w
theorem Wa (h:k<8)(z:Z[k]? =some v)(w:World):(Instr.index 255 (.agg Z) (.int .i64 (k:Int))).run prog w= .ok v w:=
 lu 255 3 8 .i64 Z k v underlying255 underlying3 nR h z w
theorem Wb (h:k<8)(z:Z[k]? =some v)(w:World):(Instr.index 195 (.agg Z) (.int .i64 (k:Int))).run prog w= .ok v w:=
 lu 195 56 8 .u64 Z k v underlying195 underlying56 qa h z w
theorem Ir (h:k<13)(z:Z[k]? =some v)(w:World):(Instr.index 254 (.agg Z) (.int .i64 (k:Int))).run prog w= .ok v w:=
 lu 254 56 13 .u64 Z k v underlying254 underlying56 qa h z w
theorem fc (G:bh w g Z T)(z:l.length=13)(J:∀k,k<13->Z[off+k]? =some (.int .i64 (l.getD k 0))):
  (loadVar 109 ⟨g,off,none⟩).run prog w= .ok (.agg (zs l).toArray) w:=
 bW g off (zs l) underlying109 rfl (by rw[eF,z];exact kP) λj h=>by
  rw[eF,z] at h;rw[G.cell,J j h,fR (by omega)]
theorem eY (h:bh w g (aW l).toArray T)(z:l.length=8):
  (loadVar 195 ⟨g,0,none⟩).run prog w= .ok (.agg (aW l).toArray) w:=
 bW g 0 (aW l) underlying195 rfl (by rw[bp,z];exact ja) λj _=>by
  rw[h.cell,aX,aF]
theorem LD (h:bh w g (aW l).toArray T)(z:l.length=13):
  (loadVar 254 ⟨g,0,none⟩).run prog w= .ok (.agg (aW l).toArray) w:=
 bW g 0 (aW l) underlying254 rfl (by rw[bp,z];exact V8) λj _=>by
  rw[h.cell,aX,aF]
theorem QR (G:bh w g Z T)(z:l.length=8)(J:∀k,k<8->Z[off+k]? =some (.int .i64 (l.getD k 0))):
  (loadVar 255 ⟨g,off,none⟩).run prog w= .ok (.agg (zs l).toArray) w:=
 bW g off (zs l) underlying255 rfl (by rw[eF,z];exact QQ) λj h=>by
  rw[eF,z] at h;rw[G.cell,J j h,fR (by omega)]
theorem ct{n:bP}(h:bh w g (aR n v) T)(z:n.B.length=13):
  (loadVar 111 ⟨g,0,none⟩).run prog w= .ok (.agg (aR n v)) w:=
 bW g 0 (mo n v) underlying111 rfl (by rw[gU,z];exact iY) λj _=>by
  rw[h.cell,aX,aR,aF]
theorem bB{ty:Nat}{cs:List Value}{h:Array Value}(J:(P.info? ty).map (·.size)=some cs.length)(z:bh w g h T)(U:h.size=cs.length)(G:∀v∈cs,v.oneCell'=true):
  ∃w',(storeVar ty ⟨g,0,none⟩ (.agg cs.toArray)).run P w= .ok () w'/\bh w' g cs.toArray T/\az [g] w w':=by
 refine⟨_,jy g 0 cs h J z (by omega) G,?_,(az.refl _ _).setRow (by simp) _⟩;have e:(h.toList.take 0++cs++h.toList.drop (0+cs.length)).toArray=cs.toArray:=by
  rw[dF (by simp;omega)];simp
 rw[e];exact kr z
theorem ku{n:bP}(z:v.oneCell'=true):∀u∈mo n v,u.oneCell'=true:=by
 intro u h;simp only[mo,aP,aU,aM,bz] at h;rcases h with rfl|rfl|rfl|rfl|h|rfl
 all_goals first|rfl|exact z|exact l9 _ u h
def od (l:List Nat):List Value:=l.map λc:Nat=>Value.int .u8 (c:Int)
theorem xP (l:List Nat):(od l).length=l.length:=by simp[od]
theorem Al{l:List Nat}(h:j<l.length):(od l)[j]? =some (.int .u8 (l.getD j 0:Nat)):=by simp[od,h]
theorem aak (l:List Nat):∀u∈od l,u.oneCell'=true:=by
 intro u h;simp only[od,bH] at h;obtain⟨x,-,rfl⟩:=h;rfl
theorem acB{α:Type}{l:List α}(h:l.length=8):∃V G J z x4 x5 W U,l=[V,G,J,z,x4,x5,W,U]:=by
 match l,h with
 | [V,G,J,z,x4,x5,W,U],_=>exact⟨V,G,J,z,x4,x5,W,U,rfl⟩
theorem CW (l:List Nat)(h:l.length=8)(k:Nat)(G:k<8)(w:World):(Instr.index 203 (.agg (od l).toArray) (.int .i64 (k:Int))).run prog w= .ok (.int .u8 (l.getD k 0:Nat)) w:=by
 obtain⟨x0,V,U,J,x4,x5,x6,W,rfl⟩:=acB h;have z:k=0\/k=1\/k=2\/k=3\/k=4\/k=5\/k=6\/k=7:=by omega
 rcases z with rfl|rfl|rfl|rfl|rfl|rfl|rfl|rfl<;>(show Sem.run _ _ _=_;kernel_rfl)
theorem EM (n:Nat)(h:n<18446744073709551616):IntKind.u64.wrap (n:Int)=(n:Int):=by rw[gi];omega
theorem aal (k:Nat):2^(8*k)=256^k:=by rw[Nat.pow_mul]
theorem EN (J:c<256)(G:k<8):c*256^k<18446744073709551616:=by
 have h:256^k<=256^7:=jc (by decide) (by omega);have z:(256:Nat)^7=72057594037927936:=rfl;rw[z] at h;have :=Nat.mul_le_mul (show c<=255 by omega) h;omega
theorem aam (h:c<256)(z:k<8):IntKind.u64.wrap (IntKind.u64.wrap (c:Int)*2^(8*k))=((c*256^k:Nat):Int):=by
 rw[EM c (by omega),show(2:Int)^(8*k)=((256^k:Nat):Int) by rw[<-aal];simp,<-Int.natCast_mul,EM _ (EN h z)]
theorem aan{l:List Nat}(V:l.length=8)(G:∀c∈l,c<256){k:Nat}(h:k<8):
  bits .or .u64 ((lh (l.take k):Nat):Int) (IntKind.u64.wrap (IntKind.u64.wrap ((l.getD k 0:Nat):Int)*2^(8*k)))=((lh (l.take (k+1)):Nat):Int):=by
 have J:l.getD k 0<256:=by
  rw[aj,aG (by omega)];exact G _ (bA _)
 have z:=Er (QG G k);rw[aJ,cC (by omega)] at z;have U:256^k<=256^7:=jc (by decide) (by omega);rw[show(256:Nat)^7=72057594037927936 from rfl] at U;rw[aam J h,u64_or_nat _ _ (by omega) (EN J h),Du l k (by omega),Nat.or_comm,nat_join (8*k) _ _ (by rw[aal];exact Nat.mul_mod_left _ _) (by rw[aal];exact z),Nat.add_comm]
theorem QS (l:List Nat)(G:l.length=8)(hb:∀c∈l,c<256)(w:World):
  Calls prog 152 #[.agg (od l).toArray] w λe w'=>e= .returned (.int .u64 (lh l:Nat))/\az [] w w':=by
 have Bx:=λk W=>CW l G k W
 have qF:∀J:World,(∀j,j<8->J.cell? ⟨w.heap.size,j,none⟩=(od l)[j]?)->(loadVar 203 ⟨w.heap.size,0,none⟩).run prog J= .ok (.agg (od l).toArray) J:=λJ hc=>
  bW w.heap.size 0 (od l) underlying203 rfl (by rw[xP,G];kernel_rfl) λj U=>by
   rw[xP,G] at U;rw[aX];exact hc j U
 have p9:=au (qF (w.alloc (.cells (od l).toArray 203)) λj U=>by rw[(bh.new w (od l).toArray 203).cell];simp);have V:=au Bx;clear qF Bx;go_enter func152,ntmps152;go_wp2_with(with_reducible refine gL 203 p9.out ?_);clear p9;go_loop [3,7] (λs3 s7=>∃k:Nat,k<=8/\s7= .int .i64 (k:Int)/\s3= .int .u64 (lh (l.take k):Nat)) (λ_ i=>8-(intOf i).toNat)
 case atStart=>exact⟨0,by omega,rfl,rfl⟩
 case round=>
  obtain⟨k,W,rfl,rfl⟩:=hrel;by_cases h:k<8
  ·have hx:=V.out k h
   have z:(k:Int)<8:=by omega
   have HO:=au (aan G hb h);generalize l.getD k 0=c at *;go_wp2_with fail
   go_round
   case rel=>
    refine⟨k+1,by omega,by go_num,?_⟩;rw[<-HO.out]
   case measure=>simp[intOf];omega
  ·have z:¬(k:Int)<8:=by omega
   obtain rfl:k=8:=by omega
   rw[aV (by omega)];go_wp2_with fail;go_ret;exact⟨rfl,(az.refl _ _).alloc _⟩
theorem Tryz.info_bytes:(prog.info? 203).map (·.size)=some 8:=by kernel_rfl
def oI (W k:Nat):List Nat:=(List.range 8).map λj=>if j<k then qR W j else 0
theorem Iu (W:Nat):oI W 8=kS W:=by
 unfold oI kS;apply dD;intro j h;rw[aC (by simpa using h)]
theorem Ss (W k:Nat)(G:k<8):(od (oI W k)).set k (.int .u8 (qR W k:Nat))=od (oI W (k+1)):=by
 apply ck;intro j;rw[fg];simp only[od,oI,bF,bS,eN];by_cases h:k=j
 ·subst h
  simp[G]
 ·rw[aB h]
  by_cases z:j<8
  ·simp only[z,cA,fV]
   simp only[show j<k+1↔j<k by omega]
  ·simp[z]
theorem tI (W k:Nat):(oI W k).length=8:=by simp[oI]
theorem aao (W k:Nat):(W:Int)/2^(8*k)%256=((qR W k:Nat):Int):=by
 rw[show(2:Int)^(8*k)=((256^k:Nat):Int) by rw[<-aal];simp];rfl
theorem EO{l:List Nat}(z:l.length=8)(h:bh w b (od l).toArray 203):(loadVar 203 ⟨b,0,none⟩).run prog w= .ok (.agg (od l).toArray) w:=
 bW b 0 (od l) underlying203 rfl (by rw[xP,z];exact Tryz.info_bytes) λj _=>by rw[h.cell];simp
theorem xd{l m:List Nat}(G:l.length=8)(z:m.length=8)(h:bh w b (od l).toArray 203):
  ∃w',(storeVar 203 ⟨b,0,none⟩ (.agg (od m).toArray)).run prog w= .ok () w'/\bh w' b (od m).toArray 203/\az [b] w w':=by
 have J:=jy (P:= prog) (ty:= 203) b 0 (od m) _ (by rw[xP,z];exact Tryz.info_bytes) h (by simp[xP,G,z]) (aak m);refine⟨_,J,?_,(az.refl _ _).setRow (by simp) _⟩;have :=setRow_heap _ b _ (List.take 0 (od l).toArray.toList++od m++List.drop (0+(od m).length) (od l).toArray.toList).toArray _ _ h;unfold bh;rw[this];simp[dF,xP,G,z]
theorem zm (W:Nat):(#[.int .u8 0,.int .u8 0,.int .u8 0,.int .u8 0,.int .u8 0,.int .u8 0,.int .u8 0,.int .u8 0]:Array Value)=(od (oI W 0)).toArray:=by
 simp[od,oI,List.range,List.range.loop]
theorem Am (W:Nat)(w:World):
  Calls prog 148 #[.int .u64 (W:Int)] w λe w'=>e= .returned (.agg (od (kS W)).toArray)/\az [] w w':=by
 go_enter func148,ntmps148;go_wp2_with fail;go_loopg [5] 8 (λg s5 G=>∃k:Nat,k+g=8/\s5= .int .i64 (k:Int)/\Hid (bh G (w.heap.size+1) (od (oI W k)).toArray 203/\bh G w.heap.size (od (oI W 0)).toArray 203/\az [] w G))
 case atStart=>
  refine⟨0,by omega,rfl,?_,?_,((az.refl _ _).alloc _).alloc _⟩
  ·have :=bh.new (w.alloc (.cells (od (oI W 0)).toArray 203)) (od (oI W 0)).toArray 203
   simpa[zm W] using this
  ·have :=(bh.new w (od (oI W 0)).toArray 203).alloc (.cells (od (oI W 0)).toArray 203)
   simpa[zm W] using this
 case round=>
  obtain⟨k,uS,rfl,z⟩:=hrel;cases gk with
  |zero=>
   obtain rfl:k=8:=by omega
   have V:=au (EO (tI W 8) z.out.1);obtain⟨w2,hs,h,J⟩:=xd (tI W 0) (tI W 8) z.out.2.1;have U:=au hs;rw[Iu] at h;have HB:Hid (∀j,j<8->w2.cell? ⟨w.heap.size,j,none⟩=some (.int .u8 (qR W j:Nat))):=λj hj=>by
    rw[h.cell,<-tB W j hj];simpa using Al (l:=kS W) (j:=j) (by rw[lj];omega)
   have HK:=au (z.out.2.2.trans J (by simp));clear hs h J z;rw[Iu] at V U;go_wp2_with(first|(with_reducible refine gL 203 V.out ?_)|(with_reducible refine gS 203 U.out ?_));have h:=HB.out;exact aL (v:= .agg (od (kS W)).toArray) (by simp[results,results148,go_sem,h 0,h 1,h 2,h 3,h 4,h 5,h 6,h 7,od,kS,List.range,List.range.loop]) rfl ⟨rfl,HK.out⟩
  |succ g=>
   have aa:(k:Int)<8:=by omega
   have hc:wr.cell? ⟨w.heap.size+1,k,none⟩=some (.int .u8 ((oI W k).getD k 0:Nat)):=by
    rw[z.out.1.cell];simpa using Al (l:=oI W k) (j:=k) (by rw[tI];omega)
   have hf:wr.frozen? ⟨w.heap.size+1,k,none⟩=false:=z.out.1.frozen _;generalize (oI W k).getD k 0=c at *;go_wp2_with fail;go_roundg g;case measure=>omega
   case rel=>
    refine⟨k+1,by omega,by go_num,?_⟩;rw[aao];refine⟨?_,z.out.2.1.other (by simp) _,z.out.2.2.setCell (.inr (by simp)) _⟩;have :=z.out.1.set k (.int .u8 (qR W k:Nat));rw[ag,Ss W k (by omega)] at this;exact this
def bl (s:ByteArray):List Nat:=s.data.toList.map UInt8.toNat
theorem lM (s:ByteArray):(bl s).length=s.size:=by simp[bl]
theorem Ao (s:ByteArray):∀c∈bl s,c<256:=by
 intro c h;simp only[bl,bH] at h;obtain⟨x,-,rfl⟩:=h;exact x.toNat_lt
theorem acC (s:ByteArray)(k:Nat)(h:k<s.size):(bl s).getD k 0=s[k].toNat:=by
 simp[bl,h];rfl
theorem JJ{t:ByteArray}(h:bl s=bl t):s=t:=by
 apply ByteArray.ext;apply Array.toList_inj.1;have :=List.map_inj_right (f:=UInt8.toNat) (λa b e=>UInt8.toNat_inj.1 e) |>.1 h;exact this
theorem LF (c:Nat)(w:World):Calls prog 189 #[.int .u8 (c:Int)] w λe w'=>e= .returned (.bool (mW c))/\w=w':=by
 by_cases z:33<=c
 ·by_cases G:c<=126
  ·by_cases h:c=47
   ·subst h
    go_enter func189,ntmps189;go_wp2;go_ret;exact⟨rfl,rfl⟩
   ·have e:mW c=true:=by simp[mW,z,G,h]
    have J:((c:Int) != 47)=true:=by simp;omega
    rw[e];clear e h;go_enter func189,ntmps189;go_wp2;go_ret;exact⟨rfl,rfl⟩
  ·have e:mW c=false:=by simp[mW,G]
   rw[e];go_enter func189,ntmps189;go_wp2;go_ret;exact⟨rfl,rfl⟩
 ·have e:mW c=false:=by simp[mW,z]
  rw[e];go_enter func189,ntmps189;go_wp2;go_ret;exact⟨rfl,rfl⟩
theorem GP (l:List Nat)(k:Nat)(h:k<l.length):(l.take (k+1)).all mW=((l.take k).all mW&&mW (l.getD k 0)):=by
 rw[bJ h,List.all_append];simp[h]
theorem all_false{l:List Nat}(h:k<l.length)(z:mW (l.getD k 0)=false):l.all mW=false:=by
 rw[List.all_eq_false];refine⟨l.getD k 0,?_,by rw[z];simp⟩;rw[aj,aG h];exact bA _
theorem Wc (U:s≠⟨#[46]⟩)(J:s≠⟨#[46,46]⟩)(h:1<=s.size)(G:s.size<=7):iC (bl s)=(bl s).all mW:=by
 have V:(bl s != [46])=true:=by
  simp only[bne_iff_ne,ne_eq];intro e;exact U (JJ (t:=⟨#[46]⟩) e)
 have z:(bl s != [46,46])=true:=by
  simp only[bne_iff_ne,ne_eq];intro e;exact J (JJ (t:=⟨#[46,46]⟩) e)
 simp[iC,lM,h,G,V,z]
theorem Wd{l:List UInt8}(h:s≠⟨l.toArray⟩):(s.toList==l)=false:=by
 rw[jo];simp only[cQ,ne_eq];intro e;apply h;apply ByteArray.ext;apply Array.toList_inj.1;rw[e]
theorem JK (s:ByteArray)(hs:s.size<=9223372036854775807)(w:World):Calls prog 170 #[.string s] w λe w'=>e= .returned (.bool (iC (bl s)))/\w=w':=by
 by_cases G:s=⟨#[46]⟩
 ·subst G
  go_enter func170,ntmps170;go_wp2;go_ret;exact⟨rfl,rfl⟩
 by_cases z:s=⟨#[46,46]⟩
 ·subst z
  go_enter func170,ntmps170;go_wp2;go_ret;exact⟨rfl,rfl⟩
 by_cases h1:1<=s.size
 ·by_cases h2:s.size<=7
  ·rw[Wc G z h1 h2]
   have q1:(s.toList == [46])=false:=Wd (l:=[46]) G;have q2:(s.toList == [46,46])=false:=Wd (l:=[46,46]) z;have q3:decide ((s.size:Int)<1)=false:=by simp;omega
   have q4:decide (7<(s.size:Int))=false:=by simp;omega
   clear G z;go_enter func170,ntmps170;go_wp2;go_loop [22] (λi=>∃k:Nat,k<=s.size/\i= .int .i64 (k:Int)/\Hid (((bl s).take k).all mW=true)) (λi=>s.size-(intOf i).toNat)
   case atStart=>exact⟨0,fC _,rfl,rfl⟩
   case round=>
    obtain⟨k,hk,rfl,W⟩:=hrel;by_cases h:k<s.size
    ·have J:(k:Int)<(s.size:Int):=by omega
     have U:=au (LF (s[k].toNat) w);have HB:=au (acC s k h);have HT:=au (GP (bl s) k (by rw[lM];exact h));cases hb:mW s[k].toNat
     ·have V:=au (all_false (l:=bl s) (k:=k) (by rw[lM];exact h) (by rw[HB.out];exact hb))
      rw[hb] at U;clear hb;go_wp2_with(go_at_call 189;refine U.out.mono ?_;rintro e w' ⟨rfl,rfl⟩);go_ret;exact⟨by rw[V.out];rfl,rfl⟩
     ·rw[hb] at U
      have V:=au hb;clear hb;go_wp2_with(go_at_call 189;refine U.out.mono ?_;rintro e w' ⟨rfl,rfl⟩)
      go_round
      case rel=>exact⟨k+1,by omega,by go_num,by rw[HT.out,HB.out,V.out,W.out];rfl⟩
      case measure=>simp[intOf];omega
    ·obtain rfl:k=s.size:=by omega
     have J:¬(s.size:Int)<(s.size:Int):=by omega
     rw[aV (by rw[lM];exact aI _)] at W;go_wp2_with fail;go_ret;exact⟨by rw[W.out];rfl,rfl⟩
  ·have e:iC (bl s)=false:=by simp[iC,lM,h2]
   rw[e];clear e G z;go_enter func170,ntmps170;go_wp2;go_ret;exact⟨rfl,rfl⟩
 ·have e:iC (bl s)=false:=by simp[iC,lM,h1]
  rw[e];clear e G z;go_enter func170,ntmps170;go_wp2;go_ret;exact⟨rfl,rfl⟩
def wu (l:List Nat):ByteArray:=⟨(l.map UInt8.ofNat).toArray⟩
theorem QT{l:List Nat}(h:∀c∈l,c<256):bl (wu l)=l:=by
 simp only[bl,wu,List.map_map]
 conv=>rhs;rw[<-List.map_id l]
 apply dD;intro c z;simp[Nat.mod_eq_of_lt (h c z)]
theorem D4 (s:ByteArray):wu (bl s)=s:=JJ (QT (Ao s))
theorem Iv (l:List Nat):(wu l).size=l.length:=by simp[wu,ByteArray.size]
theorem Tryz.info_byte:(prog.info? 5).map (·.size)=some 1:=by kernel_rfl
def kv (l:List Nat):Nat:=if iC l=true then qK l else 0
theorem aap{l:List Nat}(h:l.length<=7):(od (l++List.replicate (8-l.length) 0)).set 7 (.int .u8 (l.length:Int))=od (zX l):=by
 have e:List.replicate (8-l.length) 0=List.replicate (7-l.length) 0++[0]:=by rw[show 8-l.length=7-l.length+1 by omega,List.replicate_succ']
 rw[e,<-ba,zX];generalize G:l++List.replicate (7-l.length) 0=A;have z:A.length=7:=by rw[<-G];simp;omega
 simp only[od,eX,List.map_cons,List.map_nil];rw[dx _ _ (by simp[z])];simp[z]
theorem copied(h:s.size<=7)(z:bh w b (od (List.replicate 8 0)).toArray 203):∃w',
  (Builtin.copy_ #[31,9] 3 #[.slice (some ⟨b,0,none⟩) 8 8,.string s]).run prog w= .ok (goInt s.size) w'/\bh w' b (od (bl s++List.replicate (8-s.size) 0)).toArray 203/\az [b] w w':=by
 have G:=Lib.run_copy_row_string (P:= prog) w 31 9 3 5 b 0 8 8 s _ _ underlying31 Tryz.info_byte z (by omega) (by simp[od];omega);refine⟨_,G,?_,(az.refl _ _).setRow (by simp) _⟩;unfold bh;rw[setRow_heap _ b _ _ _ _ z];have U:List.take 0 (od (List.replicate 8 0)).toArray.toList++Lib.byteCells s.data.toList++List.drop (0+s.size) (od (List.replicate 8 0)).toArray.toList=od (bl s++List.replicate (8-s.size) 0):=by
  have J:od (List.replicate 8 0)=List.replicate 8 (Value.int .u8 0):=by simp only[od,List.map_replicate];rfl
  rw[J,aX,eV,bY,jq];simp only[od,bl,Lib.byteCells,eX,List.map_map,List.map_replicate];rfl
 rw[U]
theorem JL (s:ByteArray)(hs:s.size<=9223372036854775807)(w:World):Calls prog 221 #[.string s] w λe w'=>e= .returned (.tuple #[.int .u64 (kv (bl s):Nat),.bool (iC (bl s))])/\az [] w w':=by
 have G:=au (JK s hs w);unfold kv;cases hg:iC (bl s)
 ·rw[hg] at G
  clear hg;go_enter func221,ntmps221;go_wp2_with(go_at_call 170;refine G.out.mono ?_;rintro e w' ⟨rfl,rfl⟩);go_ret2;exact⟨rfl,az.refl _ _⟩
 ·rw[hg] at G
  rw[aC rfl];obtain⟨l1,l2⟩:=nN hg;rw[lM] at l1 l2;clear hg;obtain⟨W,hc,U,V⟩:=copied l2 (bh.new w (od (List.replicate 8 0)).toArray 203);have ac:W.cell? ⟨w.heap.size,7,none⟩=some (.int .u8 ((bl s++List.replicate (8-s.size) 0).getD 7 0:Nat)):=by
   rw[U.cell];simpa using Al (l:=bl s++List.replicate (8-s.size) 0) (j:=7) (by simp[lM];omega)
  have aa:W.frozen? ⟨w.heap.size,7,none⟩=false:=U.frozen 7;have h:=U.set 7 (.int .u8 (s.size:Int));rw[ag,<-lM,aap (by rw[lM];exact l2),lM] at h;have HL:=au (EO (wR (by rw[lM];exact l2)) h);have HC:=au hc;have HK:=au ((((az.refl [] w).alloc (.cells (od (List.replicate 8 0)).toArray 203)).trans V (by simp)).setCell (p:=⟨w.heap.size,7,none⟩) (.inr (aI _)) (.int .u8 (s.size:Int)));have J:=λwz=>QS (zX (bl s)) (wR (by rw[lM];exact l2)) (Jv (by rw[lM];exact l2) (Ao s)) wz
  rw[zb (by rw[lM];exact l2)] at J;have J:=au J;generalize (bl s++List.replicate (8-s.size) 0).getD 7 0=c at *;clear hc U h V;go_enter func221,ntmps221;go_wp2_with(first|(go_at_call 170;refine G.out.mono ?_;rintro e w' ⟨rfl,rfl⟩)|((with_reducible show wpList _ _ _ (⟨some 10,_,_,_,_,_⟩::_) _ _);refine iQ rfl (.tmp 8) (.tmp 9) 31 9 rfl _ _ rfl rfl HC.out ?_)|(with_reducible refine gL 203 HL.out ?_)|(go_at_call 152;refine(J.out _).mono ?_;rintro e w' ⟨rfl,z⟩;have pW:=au z;clear z));go_ret2;exact⟨rfl,HK.out.trans pW.out (by simp)⟩
def lA (l:List Int):Prop:=∀k,k<13->(0<=l.getD k 0/\l.getD k 0<256)/\(l.getD k 0≠0->∀j,j<k->l.getD j 0≠l.getD k 0)
instance (l:List Int):Decidable (lA l):=by unfold lA;infer_instance
def mj (l:List Int) (c:Nat):List Int:=l.take c++List.replicate (13-c) 0
theorem tJ (h:l.length=13){c:Nat}(z:c<=13):(mj l c).length=13:=by simp[mj,h];omega
theorem tK (G:l.length=13){c:Nat}(z:c<=13)(k:Nat):(mj l c).getD k 0=if k<c then l.getD k 0 else 0:=by
 simp only[mj,aj,iy,aJ,bO,bo];by_cases h:k<c
 ·rw[aC (by omega),aC h,aC h]
 ·rw[aB (by omega),aB h]
  split<;>rfl
def bj (n:Nat):Nat:=(n+3)/4
def dM (n:Nat):Nat:=(n+63)/64
def leB (a b:ByteArray):Bool:=Op.bytesLess a.toList b.toList||(a.toList==b.toList)
def qg (n:bP):Prop:=(0<=n.S/\n.S<=832)/\n.E.length=0/\n.B=mj n.B (dM n.S.toNat)/\lA n.B
def Dw (E:List (ByteArray×Int)) (k:Nat):Prop:=iC (bl (eU E k))=true/\(0<=jl E k/\jl E k<=31)/\(0<k->leB (eU E k) (eU E (k-1))=false)
def og (n:bP):Prop:=n.E.length<=24/\n.S=n.E.length/\n.B=List.replicate 13 0/\∀k,k<n.E.length->Dw n.E k
def bZ (n:bP):Prop:=(n.F=1\/n.F=2)/\(0<=n.L/\n.L<=65535)/\(n.K=1/\qg n\/n.K=2/\og n)
instance (n:bP):Decidable (qg n):=by unfold qg;infer_instance
instance (E:List (ByteArray×Int)) (k:Nat):Decidable (Dw E k):=by unfold Dw;infer_instance
instance (n:bP):Decidable (og n):=by unfold og;infer_instance
instance (n:bP):Decidable (bZ n):=by unfold bZ;infer_instance
def rF (l:List Int) (k:Nat):List Bool:=(List.range 256).map λc=>decide (∃j,j<k/\l.getD j 0=((c:Nat):Int))
theorem xQ (l:List Int)(k:Nat):(rF l k).length=256:=by rw[rF,bS,eN]
theorem Su (l:List Int)(k c:Nat)(h:c<256):(rF l k).getD c false=decide (∃j,j<k/\l.getD j 0=((c:Nat):Int)):=by
 rw[rF,aj,bF,cA h];rfl
theorem EP (l:List Int):List.replicate 256 false=rF l 0:=by
 apply dg (by rw[bG,xQ]);intro j h G;rw[List.getElem_replicate];simp only[rF,ig,jJ];exact(aS λ⟨i,z,_⟩=>by omega).symm
theorem OH (l:List Int)(k c:Nat)(h:l.getD k 0=((c:Nat):Int)):(rF l k).set c true=rF l (k+1):=by
 apply dg (by rw[cT,xQ,xQ]);intro j U V;rw[List.getElem_set];simp only[rF,ig,jJ];by_cases e:c=j
 ·subst e
  rw[aC rfl];exact(bq ⟨k,by omega,h⟩).symm
 ·rw[aB e]
  refine decide_eq_decide.2 ⟨λ⟨i,J,z⟩=>⟨i,by omega,z⟩,λ⟨i,J,z⟩=> ?_⟩;by_cases G:i=k
  ·subst G
   rw[h] at z;exact absurd (Int.ofNat_inj.1 z) e
  ·exact⟨i,by omega,z⟩
theorem eB{rest:List Oper}{a:Act}(hw:Region.wanted o (yielded z a.tmps)=true)(ty:TypeId)(x:Operand)(V:o.op= .load ty x)(G:Addr)
  (U:a.eval x= .pointer (some G)) (v:Value) (J:(loadVar ty G).run P w= .ok v w) (h:wpList P z Q rest (a.put o.dst v) w):wpList P z Q (o::rest) a w:=
 wpList_step λ_ W=>by
  rw[aC hw];unfold Oper.wp execOp;simp only[V,U,Instr.loadAt,Instr.sureAddr,cg,fO,cm,J];exact W _ _ h
theorem l7{a:Act}{K:Act->World->Prop}{E:Prop}(G:o.guard=none)(ty:TypeId)(x:Operand)(W:o.op= .load ty x)(J:Addr)
  (V:a.eval x= .pointer (some J)) (v:Value) (U:(loadVar ty J).run P w= .ok v w) (h:K (a.put o.dst v) w):if Region.wanted o (yielded z a.tmps)=true then Oper.wp P o a w K Q else E:=by
 have hw:Region.wanted o (yielded z a.tmps)=true:=by simp[Region.wanted,G]
 rw[aC hw];unfold Oper.wp execOp;simp only[W,V,Instr.loadAt,Instr.sureAddr,cg,fO,cm,U];exact h
theorem ER{ty:TypeId}{k:IntKind}(z:P.underlying ty=some (.int k))(G:bh w g Z T)(U:Z[off]? =some v):(loadVar ty ⟨g,off,none⟩).run P w= .ok v w:=by
 have h:(isAgg ty).run P w= .ok false w:=by
  unfold isAgg;rw[cg,dQ z w];rfl
 have J:w.cell? ⟨g,off,none⟩=some v:=by rw[G.cell,U]
 simp[loadVar,h,J]
theorem uW (h:Addr)(w:World):(asAddr (.pointer (some h))).run P w= .ok h w:=rfl
theorem b9{a:Nat}{z:Addr}(h:fn.results= #[.cell a t])(G:tmps.getD a undef= .pointer (some z))(J:(loadVar t z).run P w= .ok v w):
  (results fn tmps).run P w= .ok v w:=by
 rw[fX] at G;unfold results;rw[h];simp[G,uW,J]
theorem bU{a:Nat}{z:Addr}{x y:Value}(h:fn.results= #[.cell a t,.tmp b,.tmp c])(J:tmps.getD a undef= .pointer (some z))(V:(loadVar t z).run P w= .ok v w)
  (G:tmps.getD b undef=x) (U:tmps.getD c undef=y):(results fn tmps).run P w= .ok (.tuple #[v,x,y]) w:=by
 rw[fX] at J G U;unfold results;rw[h];simp[J,uW,V,G,U]
theorem GQ (b c:Nat)(z:c<13)(w:World):(Instr.sliceAt 109 (.pointer (some ⟨b,0,none⟩)) (some (.int .i64 (c:Int))) none none).run prog w= .ok (.slice (some ⟨b,c,none⟩) (13-c) (13-c)) w:=by
 have h:c=0\/c=1\/c=2\/c=3\/c=4\/c=5\/c=6\/c=7\/c=8\/c=9\/c=10\/c=11\/c=12:=by omega
 rcases h with rfl|rfl|rfl|rfl|rfl|rfl|rfl|rfl|rfl|rfl|rfl|rfl|rfl
 all_goals (show Sem.run _ _ _=_;kernel_rfl)
theorem ES (b:Nat)(w:World):∃off cap,(Instr.sliceAt 109 (.pointer (some ⟨b,0,none⟩)) (some (.int .i64 (13:Nat))) none none).run prog w= .ok (.slice (some ⟨b,off,none⟩) 0 cap) w:=
 ⟨0,0,by show Sem.run _ _ _=_;kernel_rfl⟩
theorem OI (b c:Nat)(J:c<=13)(w:World):∃off cap,(Instr.sliceAt 109 (.pointer (some ⟨b,0,none⟩)) (some (.int .i64 (c:Int))) none none).run prog w= .ok (.slice (some ⟨b,off,none⟩) (13-c) cap) w/\(c<13->off=c):=by
 by_cases h:c<13
 ·exact⟨c,13-c,GQ b c h w,λ_=>rfl⟩
 ·obtain rfl:c=13:=by omega
  obtain⟨off,cap,z⟩:=ES b w;exact⟨off,cap,z,λG=>absurd G h⟩
theorem LG (b c:Nat)(z:c<=13)(w:World):(Instr.sliceAt 109 (.pointer (some ⟨b,0,none⟩)) none (some (.int .i64 (c:Int))) none).run prog w= .ok (.slice (some ⟨b,0,none⟩) c 13) w:=by
 have h:c=0\/c=1\/c=2\/c=3\/c=4\/c=5\/c=6\/c=7\/c=8\/c=9\/c=10\/c=11\/c=12\/c=13:=by omega
 rcases h with rfl|rfl|rfl|rfl|rfl|rfl|rfl|rfl|rfl|rfl|rfl|rfl|rfl|rfl
 all_goals (show Sem.run _ _ _=_;kernel_rfl)
theorem set_tail(l:List Int)(c:Nat)(h:l.length=13)(z:c<=13):((zs l).take c++zs (List.replicate (13-c) 0)++(zs l).drop (c+(zs (List.replicate (13-c) 0)).length)).toArray=(zs (mj l c)).toArray:=by
 rw[dF (by rw[eF,eF,bG,h];omega),bu];unfold mj;rw[BJ];simp[zs,List.map_take]
theorem GR (n:Nat):(Builtin.zeroCells (Value.int .i64 0).cells n).toList=zs (List.replicate n 0):=by
 have e:(Value.int IntKind.i64 0).cells= #[Value.int .i64 0]:=rfl;rw[e];apply dg
 ·simp[Builtin.zeroCells,zs]
 ·intro j h z
  simp[Builtin.zeroCells,zs,Nat.mod_one]
theorem OJ{cap:Nat}(J:bh w b (zs l).toArray T)(U:l.length=13)(hc:c<=13)(ho:c<13->off=c):∃w',(∀ty,(Builtin.clear_ #[141] ty #[.slice (some ⟨b,off,none⟩) (13-c) cap]).run prog w= .ok (.tuple #[]) w')/\bh w' b (zs (mj l c)).toArray T/\az [b] w w':=by
 by_cases h:c<13
 ·obtain rfl:=ho h
  have z:=run_storeCells_at prog b off T (zs (List.replicate (13-off) 0)) 0 (zs l).toArray w J (by simp[eF,U];omega) (l9 _);refine⟨_,λty=> ?_,?_,(az.refl _ _).setRow (g:=b) (by simp) ((zs l).take off++zs (List.replicate (13-off) 0)++(zs l).drop (off+(zs (List.replicate (13-off) 0)).length)).toArray⟩
  ·have V:(Builtin.zeroCells (Value.int .i64 0).cells (13-off)).toList=zs (List.replicate (13-off) 0):=GR _
   have G:(zeroValue 3).run prog w= .ok (.int .i64 0) w:=by kernel_rfl
   obtain⟨m,W⟩:∃m,13-off=m+1:=⟨12-off,by omega⟩;unfold Builtin.clear_;rw[W] at V z ⊢;simp only[cg,dQ underlying141,cm,aF,List.getElem?_cons_zero,G,V];simp only[dR] at z;rw[z];simp
  ·rw[set_tail l off U hc]
   exact kr J
 ·obtain rfl:c=13:=by omega
  refine⟨w,λty=> ?_,?_,az.refl _ _⟩
  ·unfold Builtin.clear_
   simp[dQ underlying141]
  ·rw[show mj l 13=l by unfold mj;rw[aV (by omega)];simp]
   exact J
end Go.Proofs.YtepbpdipenedhaaGreatDoor
namespace Go.Proofs.YtepbpdipenedhaaGreatDoor
open Go.Proofs.Tryz
open Go.RowKit Go.Shelf
variable{a l:List Int}{T b c f g j k off t:Nat}{E:List (ByteArray×Int)}{w:World}{v:Value}{P:Program}{Z tmps:Array Value}{s:ByteArray}{z:Array Oper}{o:Oper}{Q:Exit->Act->World->Prop}{fn:Func}
attribute [local go_sem] jO
theorem We (a:Option Addr)(len cap:Nat)(w:World):Calls prog 231 #[.slice a len cap,.int .i64 3] w λe w'=>
  e= .returned (.func (.func 237) #[] #[.pointer (some ⟨w.heap.size,0,none⟩),.pointer (some ⟨w.heap.size+1,0,none⟩)])/\
   w'=(w.alloc (.cells #[.slice a len cap] 32)).alloc (.cells #[.int .i64 3] 3):=by
 have h:=bh.new (w.alloc (.cells #[.slice a len cap] 32)) #[.int .i64 3] 3;have z:(w.alloc (.cells #[.slice a len cap] 32)).heap.size=w.heap.size+1:=by simp
 rw[z] at h;have G:((w.alloc (.cells #[.slice a len cap] 32)).alloc (.cells #[.int .i64 3] 3)).cell? ⟨w.heap.size+1,0,none⟩=some (.int .i64 3):=by rw[h.cell];rfl
 clear h;go_enter func231,ntmps231;go_wp2_with fail;go_ret;exact⟨rfl,rfl⟩
def chV (a:Option Addr) (len x:Nat):Value:=
 match a with
 |some ⟨g,off,_⟩=> .slice (some ⟨g,off+x*3*2,none⟩) (min 3 (len-3*x)) (min 3 (len-3*x))
 |none=> .slice none 0 0
def KpC (h G:Nat) (W z:World):Prop:=z.heap[h]? =W.heap[h]? /\z.heap[G]? =W.heap[G]?
theorem Sv (n l bs G g off len cap:Nat)(hn:1<=n)(ar:len<=10000)(ax:len<=cap)(J Jx:List Nat->World->Prop)(B:Nat)(hJ:AbidesFrom B J)
  (hY:∀h x W,J h W->h.length<(len+2)/3->YieldAt Fence.wide (n-1) prog l #[chV (some ⟨g,off,none⟩) len x] W λe W'=>
   (e= .returned (.bool true)/\J (h++[x]) W'/\KpC bs G W W')\/(e= .returned (.bool false)/\Jx (h++[x]) W'))
  (W:World) (aa:bh W bs #[.slice (some ⟨g,off,none⟩) len cap] 32) (CX:bh W G #[.int .i64 3] 3) (h0:J [] W):
  CallsIn Fence.wide n prog 237 #[.func (.yield l) #[] #[],.pointer (some ⟨bs,0,none⟩),.pointer (some ⟨G,0,none⟩)] W λe W'=>(∃v,e= .returned v)/\
   ((∃ys,ys=List.range ((len+2)/3)/\J ys W')\/(∃h,True/\Jx h W')):=by
 refine callsIn_of_wp func237 rfl trivial ?_ rfl;simp only[ntmps237,bN,bQ,b8,Nat.reduceAdd,Nat.reduceSub,gj,gy,iF,gM,bY,ib]
 gi_wp2
 gi_loopw [4] (λi wr=>∃k:Nat,k<=(len+2)/3/\i= .int .i64 ((k*3:Nat):Int)/\J (List.range k) wr/\KpC bs G W wr)
  (λi _=>len+3-(intOf i).toNat)
 case atStart=>exact⟨0,fC _,rfl,h0,rfl,rfl⟩
 case round=>
  obtain⟨k,hk,rfl,z,af,ag⟩:=hrel;have cs:wr.cell? ⟨bs,0,none⟩=some (.slice (some ⟨g,off,none⟩) len cap):=(aO (a:=⟨bs,0,none⟩) af).trans (by rw[aa.cell];rfl);have cn:wr.cell? ⟨G,0,none⟩=some (.int .i64 3):=(aO (a:=⟨G,0,none⟩) ag).trans (by rw[CX.cell];rfl);obtain⟨i,hi⟩:∃i:Nat,i=k*3:=⟨_,rfl⟩;rw[<-hi];by_cases aG:i<len
  ·have ah:J (List.range k) wr.drew:=hJ _ _ _ none z ⟨rfl,rfl,rfl,aI _,λ_ _ _=>rfl⟩ (λr e=>by cases e)
   obtain⟨fn,tmps,assign,body,hy,hR⟩:=hY _ k wr.drew ah (by rw[eN];omega);obtain⟨m,hm⟩:∃m:Nat,m=min 3 (len-i):=⟨_,rfl⟩;have hv:chV (some ⟨g,off,none⟩) len k= .slice (some ⟨g,off+i*2,none⟩) m m:=by
    show Value.slice (some ⟨g,off+k*3*2,none⟩) (min 3 (len-3*k)) (min 3 (len-3*k))=_;rw[hm,hi,Nat.mul_comm 3 k]
   rw[hv] at hy;clear hv hY aa CX;have ae:(i:Int)<(len:Int):=by omega
   have aH:(0:Int)<=(i:Int):=by omega
   have aP:(i:Int)<=(len:Int):=by omega
   have N5:cap≠i:=by omega
   have aM:(i:Int)<=((i+m:Nat):Int):=by omega
   have aB:((i+m:Nat):Int)<=(cap:Int):=by omega
   have az:i+m≠i:=by omega
   have aF:i+m-i=m:=by omega
   have ay:wrap64 ((i:Int)+3)=(i:Int)+3:=by unfold wrap64;omega
   have HI:=au hi;have ac:=au z;have lU:Hid (len+3-(i+3)<len+3-i/\k+1<=(len+2)/3):=by show _/\_;omega
   clear hk hJ z hi;obtain⟨y,aA,aC,aN,aD,aK⟩:∃y:Int,(i:Int)+(m:Int)=y/\wrap64 y=y/\(i:Int)<=y/\y<=(cap:Int)/\y.toNat=i+m:=⟨_,rfl,by unfold wrap64;omega,by omega,by omega,by omega⟩;obtain⟨r,hr⟩:∃r:Nat,r=len-i:=⟨_,rfl⟩;rw[<-hr] at hm;have av:(len:Int)-(i:Int)=(r:Int):=by omega
   have U:((3:Int)<=(r:Int)/\m=3)\/(¬(3:Int)<=(r:Int)/\m=r):=by omega
   have aj:=hr.symm;clear hr hm;rcases U with ⟨U,rfl⟩|⟨U,rfl⟩
   all_goals
    gi_wp2
    gi_region
    all_goals try clear aj
    gi_wp2
    refine hR.mono ?_;rintro e W3 (⟨rfl,ai,V⟩|⟨rfl,ak⟩)
    ·have aJ:W3.cell? ⟨G,0,none⟩=some (.int .i64 3):=(aO (w:=wr.drew) (a:=⟨G,0,none⟩) V.2).trans cn
     gi_wp2
     go_roundw
     case rel=>exact⟨k+1,lU.out.2,by rw[HI.out];simp;omega,by rw[dS];exact ai,V.1.trans af,V.2.trans ag⟩
     case measure=>have :=lU.out.1;simp[intOf];omega
    ·gi_wp2
     refine aL (results_none rfl _ _ _) rfl ?_;exact⟨⟨_,rfl⟩,.inr ⟨_,trivial,ak⟩⟩
  ·have ae:¬(i:Int)<(len:Int):=by omega
   obtain rfl:k=(len+2)/3:=by omega
   have ac:=au z;clear hY aa CX hi hk z hJ
   gi_wp2
   go_end0;exact⟨⟨_,rfl⟩,.inl ac.out⟩
theorem Sw (n l G bn:Nat)(a:Option Addr)(cap:Nat)(J Jx:List Nat->World->Prop)(W:World)(z:bh W G #[.slice a 0 cap] 32)(h0:J [] W):
  CallsIn Fence.wide n prog 237 #[.func (.yield l) #[] #[],.pointer (some ⟨G,0,none⟩),.pointer (some ⟨bn,0,none⟩)] W λe U=>(∃v,e= .returned v)/\
   ((∃V,V=List.range 0/\J V U)\/(∃h,True/\Jx h U)):=by
 have cs:W.cell? ⟨G,0,none⟩=some (.slice a 0 cap):=by rw[z.cell];rfl
 refine callsIn_of_wp func237 rfl trivial ?_ rfl;simp only[ntmps237,bN,bQ,b8,Nat.reduceAdd,Nat.reduceSub,gj,gy,iF,gM,bY,ib]
 gi_wp2
 gi_loopw [4] (λi wr=>i= .int .i64 0/\wr=W) (λ_ _=>0)
 case atStart=>exact⟨rfl,rfl⟩
 case round=>
  obtain⟨rfl,rfl⟩:=hrel
  gi_wp2
  go_end0;exact⟨⟨_,rfl⟩,.inl ⟨_,rfl,h0⟩⟩
theorem LH (n:Nat)(hn:1<=n)(a:Option Addr)(len cap:Nat)(V:len<=10000)(aa:len<=cap)(ha:len≠0->∃g off,a=some ⟨g,off,none⟩)(G z:Nat)(w:World)
  (ac:bh w G #[.slice a len cap] 32) (CX:bh w z #[.int .i64 3] 3):
  SeqStopsK Fence.wide n prog 237 #[.pointer (some ⟨G,0,none⟩),.pointer (some ⟨z,0,none⟩)] (λx=> #[chV a len x]) (KpC G z) (λys=>ys=List.range ((len+2)/3)) (λ_=>True) ((len+2)/3) w:=by
 intro l J Jx W hW hJ af hY hj;have U:bh W G #[.slice a len cap] 32 :=(hW.block G ac.lt).trans ac;have ae:bh W z #[.int .i64 3] 3 :=(hW.block z CX.lt).trans CX;by_cases h:len=0
 ·subst h
  exact Sw n l G z a cap J Jx W U hj
 ·obtain⟨g,off,rfl⟩:=ha h
  exact Sv n l G z g off len cap hn V aa J Jx _ hJ hY W U ae hj
end Go.Proofs.YtepbpdipenedhaaGreatDoor
namespace Go.Proofs.YtepbpdipenedhaaGreatDoor
open Go.Proofs.Tryz
open Go.RowKit
variable{a l:List Int}{T b c f g j k off t:Nat}{E:List (ByteArray×Int)}{w:World}{v:Value}{P:Program}{Z tmps:Array Value}{s:ByteArray}{z:Array Oper}{o:Oper}{Q:Exit->Act->World->Prop}{fn:Func}
def Dx (x:Int):Prop:=0<x/\x<256
instance (x:Int):Decidable (Dx x):=by unfold Dx;infer_instance
def lJ (l:List Int) (j:Nat):Prop:=0<j/\j<13/\Dx (l.getD j 0)/\Dx (l.getD (j-1) 0)/\l.getD j 0=l.getD (j-1) 0+1
instance (l:List Int) (j:Nat):Decidable (lJ l j):=by unfold lJ;infer_instance
def nS (l:List Int):Nat->Nat->Nat
 |0,e=>e
 |f+1,e=>if lJ l e then nS l f (e+1) else e
theorem LI (l:List Int)(j:Nat)(G:¬lJ l j):∀(f e:Nat),e<=j->j-e<=f->(∀i,e<=i->i<j->lJ l i)->nS l f e=j
 |0,e,h1,h2,_=>by unfold nS;omega
 |f+1,e,h1,h2,h3=>by
  unfold nS;by_cases h:e=j
  ·subst h;rw[aB G]
  ·rw[aC (h3 e (aI _) (by omega))]
   exact LI l j G f (e+1) (by omega) (by omega) λi J z=>h3 i (by omega) z
def xe (l:List Int) (k:Nat):Prop:=Dx (l.getD k 0)/\¬lJ l k
instance (l:List Int) (k:Nat):Decidable (xe l k):=by unfold xe;infer_instance
def qM (l:List Int) (k:Nat):Nat:=nS l 13 (k+1)-k
def tL (k:Nat) (b:Int) (n:Nat):Int:=(k:Int)*4294967296+b*256+(n:Int)
def fS (l:List Int):Nat->List Int
 |0=>[]
 |k+1=>if xe l k then fS l k++[tL k (l.getD k 0) (qM l k)] else fS l k
def fu (l:List Int):List Int:=fS l 13
theorem lN (l:List Int):∀k,(fS l k).length<=k
 |0=>by simp[fS]
 |k+1=>by
  unfold fS;have :=lN l k;split
  ·rw[aD,jM];omega
  ·omega
theorem CY (l:List Int)(f:Nat):∀j,f<=j->(∀i,f<=i->i<j->lJ l i)->fS l j=fS l f
 |0,h,_=>by have :f=0:=by omega
            subst this;rfl
 |j+1,h,hc=>by
  by_cases e:f=j+1
  ·subst e;rfl
  ·rw[fS,aB (λG=>G.2 (hc j (by omega) (by omega)))]
   exact CY l f j (by omega) λi z J=>hc i z (by omega)
theorem zn (V:xe l f)(U:f<j)(W:j<=13)(z:∀i,f<i->i<j->lJ l i)(J:¬lJ l j):fS l j=fS l f++[tL f (l.getD f 0) (j-f)]:=by
 rw[CY l (f+1) j (by omega) (λi G h=>z i (by omega) h),fS,aC V,qM,LI l j J 13 (f+1) (by omega) (by omega) λi G h=>z i (by omega) h]
theorem LJ (h:¬Dx (l.getD f 0)):fS l (f+1)=fS l f:=by
 rw[fS,aB (λz=>h z.1)]
theorem aaq (G:∀i,f<i->i<j->lJ l i):∀i,f<=i->i<j->l.getD i 0=l.getD f 0+((i-f:Nat):Int):=by
 intro i;induction i with
 |zero=>intro h _;have :f=0:=by omega
        subst this;simp
 |succ i ih=>
  intro J z;by_cases e:f=i+1
  ·subst e;simp
  ·have h:=(G (i+1) (by omega) z).2.2.2.2
   rw[ic] at h;rw[h,ih (by omega) (by omega)];omega
theorem QU (z:Dx (l.getD f 0))(G:∀i,f<i->i<j->lJ l i)(i:Nat)(J:f<=i)(h:i<j):Dx (l.getD i 0):=by
 by_cases e:f=i
 ·subst e;exact z
 ·exact(G i (by omega) h).2.2.1
theorem Wf (G:Dx (l.getD f 0))(z:f<j)(J:∀i,f<i->i<j->lJ l i):lJ l j↔j<13/\Dx (l.getD j 0)/\l.getD j 0=l.getD (j-1) 0+1:=by
 unfold lJ;exact⟨λh=>⟨h.2.1,h.2.2.1,h.2.2.2.2⟩,λh=>⟨by omega,h.1,h.2.1,QU G J _ (by omega) (by omega),h.2.2⟩⟩
end Go.Proofs.YtepbpdipenedhaaGreatDoor
