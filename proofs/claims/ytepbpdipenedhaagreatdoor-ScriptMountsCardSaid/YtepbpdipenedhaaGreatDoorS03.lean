/- Lemmas. -/
import Derived.Test.YtepbpdipenedhaaGreatDoorChecked
import Derived.Lib.BufferWrite
import Derived.Laws.IdiomStrings
import Derived.Test.YtepbpdipenedhaaGreatDoorS02
import Derived.RangeFuncNested
import Derived.RangeFuncBound
import Derived.Shelf.Abstract
import Derived.Shelf.RegionOpen
import Derived.OwnWalkIn
import Derived.TacticsInMore
import Derived.LoopNIn
import Derived.LoopIn
set_option maxHeartbeats 2000000
set_option maxRecDepth 100000
namespace Go.Proofs.YtepbpdipenedhaaGreatDoor
open Go.Proofs.Tryz
open Go.RowKit
variable{a l:List Int}{T b c f g j k off t:Nat}{E:List (ByteArray×Int)}{w:World}{v:Value}{P:Program}{Z tmps:Array Value}{s:ByteArray}{y:Array Oper}{o:Oper}{Q:Exit->Act->World->Prop}{fn:Func}
def zs (l:List Int):List Value:=l.map (Value.int .i64)
theorem dG (l:List Int):(zs l).length=l.length:=by simp[zs]
theorem fp (h:j<l.length):(zs l)[j]? =some (.int .i64 (l.getD j 0)):=by simp[zs,h]
theorem KE (l:List Int)(j:Nat)(x:Int):(zs l).set j (.int .i64 x)=zs (l.set j x):=by simp[zs,List.map_set]
theorem yA (xs h:List Int):zs (xs++h)=zs xs++zs h:=by simp[zs]
theorem kD (l:List Int):∀u∈zs l,u.oneCell'=true:=by
 intro u h;simp only[zs,bL] at h;obtain⟨x,-,rfl⟩:=h;rfl
def dH (E:List (ByteArray×Int)):List Value:=E.flatMap λp=>[.string p.1,.int .i64 p.2]
def dZ (E:List (ByteArray×Int)) (j:Nat):ByteArray:=(E.getD j (ByteArray.empty,0)).1
def iC (E:List (ByteArray×Int)) (j:Nat):Int:=(E.getD j (ByteArray.empty,0)).2
theorem Ic (p:ByteArray×Int)(E:List (ByteArray×Int))(j:Nat):dZ (p::E) (j+1)=dZ E j:=rfl
theorem Ie (p:ByteArray×Int)(E:List (ByteArray×Int))(j:Nat):iC (p::E) (j+1)=iC E j:=rfl
theorem Rh (h:k<E.length):(dZ E k,iC E k)∈E:=by
 have :E.getD k (ByteArray.empty,0)=E[k]:=by simp[h]
 rw[dZ,iC,this];exact bA h
theorem Ri{F:List (ByteArray×Int)}(G:E.length=F.length)(h:∀k,k<E.length->dZ E k=dZ F k/\iC E k=iC F k):E=F:=by
 apply dB G;intro k y z;have :=h k y;have U:E.getD k (ByteArray.empty,0)=E[k]:=by simp[y]
 have J:F.getD k (ByteArray.empty,0)=F[k]:=by simp[z]
 rw[dZ,dZ,iC,iC,U,J] at this;exact Prod.ext this.1 this.2
theorem jb (E:List (ByteArray×Int)):(dH E).length=E.length*2:=by
 induction E with
 |nil=>rfl
 |cons p E ih=>simp[dH] at ih ⊢;omega
theorem lN (E F:List (ByteArray×Int)):dH (E++F)=dH E++dH F:=by simp[dH]
theorem na (E:List (ByteArray×Int)):∀k,k<E.length->(dH E)[k*2]? =some (.string (dZ E k))/\(dH E)[k*2+1]? =some (.int .i64 (iC E k)):=by
 induction E with
 |nil=>intro k h;simp at h
 |cons p E ih=>
  intro k h;have y:dH (p::E)= .string p.1:: .int .i64 p.2::dH E:=rfl;cases k with
  |zero=>rw[y];exact⟨rfl,rfl⟩
  |succ k=>
   have :=ih k (by simpa using h);rw[y,show(k+1)*2=k*2+1+1 by omega,Ic,Ie];simp only[cN];exact this
theorem rA (E:List (ByteArray×Int)):∀u∈dH E,u.oneCell'=true:=by
 intro u h;simp only[dH,List.mem_flatMap,aQ,aS,bD] at h;obtain⟨p,-,rfl|rfl⟩:=h<;>rfl
def br (w:World) (v:Value) (g:Nat) (E:List (ByteArray×Int)):Prop:=
 ∃a cap,v= .slice a E.length cap/\E.length<=cap/\cap<=maxLen/\(E.length≠0->g<w.heap.size/\∃off,a=some ⟨g,off,none⟩/\
  ∀j,j<E.length->w.cell? ⟨g,off+j*2,none⟩=some (.string (dZ E j))/\w.cell? ⟨g,off+j*2+1,none⟩=some (.int .i64 (iC E j)))
theorem br.keep{w':World}(h:br w v g E){l:List Nat}(V:ay l w w')(hg:E.length≠0->g∉l):br w' v g E:=by
 obtain⟨a,cap,h1,W,Z,h4⟩:=h;refine⟨a,cap,h1,W,Z,λz=> ?_⟩;obtain⟨y,off,h5,U⟩:=h4 z;refine⟨bt y V.size,off,h5,λj J=> ?_⟩;have G:=V.block g y (hg z);exact⟨(aK (w:=w) (w':=w') (a:=⟨g,off+j*2,none⟩) G).trans (U j J).1,(aK (w:=w) (w':=w') (a:=⟨g,off+j*2+1,none⟩) G).trans (U j J).2⟩
theorem br.open(h:br w v g E):∃a cap,v= .slice a E.length cap/\E.length<=cap/\cap<=maxLen/\
  Hid (∀k,k<E.length->g<w.heap.size/\∃off,a=some ⟨g,off,none⟩/\w.cell? ⟨g,off+k*2,none⟩=some (.string (dZ E k))/\w.cell? ⟨g,off+k*2+1,none⟩=some (.int .i64 (iC E k))):=by
 obtain⟨a,cap,G,y,z,Z⟩:=h;refine⟨a,cap,G,y,z,λk U=> ?_⟩;obtain⟨V,off,J,W⟩:=Z (by omega);exact⟨V,off,J,W k U⟩
theorem br.apart(h:br w v g E){l:List Nat}(G:∀x,x∈l->w.heap.size<=x):E.length≠0->g∉l:=λz y=>by
 obtain⟨a,cap,W,U,V,J⟩:=h;have :=(J z).1;have :=G g y;omega
theorem br.nil(w:World)(g:Nat):br w (.slice none 0 0) g []:=⟨none,0,rfl,by simp,by simp[maxLen],λh=>absurd rfl h⟩
theorem br.anyG(h:br w v g E)(G:E.length=0)(J:Nat):br w v J E:=by
 obtain⟨a,cap,U,y,z,V⟩:=h;exact⟨a,cap,U,y,z,λh=>absurd G h⟩
theorem eQ.ereads{n:Nat}(h:eQ w v g T 2 n (dH E))(Z:n=E.length):br w v g E:=by
 subst Z;obtain⟨a,cap,G,h1,U⟩:=h.val;refine⟨a,cap,G,h1,U,λW=> ?_⟩;obtain⟨hg,⟨J,y,-,-⟩,z,-⟩:=h.cell W;rw[G] at y;cases y;refine⟨hg,0,rfl,λj V=> ?_⟩;rw[aV,z (j*2) (by omega),z (j*2+1) (by omega)];exact na E j V
structure bN where
 F:Int
 K:Int
 L:Int
 S:Int
 B:List Int
 E:List (ByteArray×Int)
def mr (n:bN) (v:Value):List Value:= .int .i64 n.F:: .int .i64 n.K:: .int .i64 n.L:: .int .i64 n.S::(zs n.B++[v])
def aU (n:bN) (v:Value):Array Value:=(mr n v).toArray
theorem fT (n:bN)(v:Value):(mr n v).length=n.B.length+5:=by simp[mr,dG]
theorem yB{n:bN}(v:Value){k:Nat}(h:k<n.B.length):(aU n v)[4+k]? =some (.int .i64 (n.B.getD k 0)):=by
 rw[aU,aC,mr,show 4+k=k+1+1+1+1 by omega];simp only[cN];rw[bg (by rw[dG];exact h),fp h]
theorem vN{n:bN}(v:Value)(h:n.B.length=13):(aU n v)[17]? =some v:=by
 rw[aU,aC,mr];simp only[cN];rw[aT (by rw[dG,h];omega),dG,h];rfl
structure My (Z:Array Value) (n:bN) (v:Value):Prop where
 f0:Z[0]? =some (.int .i64 n.F)
 f1:Z[1]? =some (.int .i64 n.K)
 f2:Z[2]? =some (.int .i64 n.L)
 f3:Z[3]? =some (.int .i64 n.S)
 f4:∀k,k<13->Z[4+k]? =some (.int .i64 (n.B.getD k 0))
 f5:Z[17]? =some v
 len:n.B.length=13
 eq:Z=aU n v
theorem jL{n:bN}(v:Value)(h:n.B.length=13):My (aU n v) n v:=
 ⟨rfl,rfl,rfl,rfl,λ_ y=>yB v (by omega),vN v h,h,rfl⟩
theorem zB{m:List Int}(z:l.length=m.length)(h:∀k,k<l.length->l.getD k 0=m.getD k 0):l=m:=by
 apply dB z;intro k y G;have :=h k y;simpa[aj,y,G] using this
theorem nb (w:World)(d:Nat)(t e:TypeId)(len:Nat)(k k':IntKind)(a b:List Int)(ht:P.underlying t=some (.array len e))(he:P.underlying e=some (.int k'))(Z:(P.info? e).map (·.size)=some 1)
  (ha:a.length=len) (hb:b.length=len):
  (Op.equalIn (d+2) t (.agg (a.map (Value.int k)).toArray) (.agg (b.map (Value.int k)).toArray)).run P w= .ok (decide (a=b)) w:=by
 have WX:∀(l:List Int) (i:Nat) (z:World),i<l.length->(part e (l.map (Value.int k)).toArray i).run P z= .ok (.int k (l.getD i 0)) z:=by
  intro l i z hi;have J:(isAgg e).run P z= .ok false z:=by
   unfold isAgg;rw[bM,cP he z];rfl
  unfold part;rw[bM,J];simp[hi]
 have aa:∀z:World,(sizeOf e).run P z= .ok 1 z:=by
  intro z;cases hq:P.info? e with
  |none=>simp[hq] at Z
  |some i=>simp[sizeOf,typeInfo,hq] at Z ⊢;exact Z
 have ae:∀(x y:Int) (z:World),(Op.equalIn (d+1) e (.int k x) (.int k y)).run P z= .ok (x==y) z:=λx y z=>run_equalIn_int z d e k k' x y he
 rw[Op.equalIn];simp only[bM,cP ht,bX,aa,Std.Legacy.Range.forIn_eq_forIn_range',Std.Legacy.Range.size,Nat.sub_zero,fO,Nat.div_one,Nat.mul_one];have ac:∀(m s:Nat),s+m=len->Sem.run P (forIn (List.range' s m) ((none:Option Bool),()) λi _=>do
      let x <-part e (List.map (Value.int k) a).toArray i
      let y <-part e (List.map (Value.int k) b).toArray i
      let r <-Op.equalIn (d+1) e x y
      if (!r)=true then pure (ForInStep.done (some false,())) else pure (ForInStep.yield (none,()))) w= .ok (if a.drop s=b.drop s then none else some false,()) w:=by
  intro m;induction m with
  |zero=>
   intro s hs;rw[cZ (by omega),cZ (by omega),aB rfl];simp
  |succ m ih=>
   intro s hs;have U:s<a.length:=by omega
   have V:s<b.length:=by omega
   rw[List.range'_succ,List.forIn_cons];simp only[bM,WX a s w U,WX b s w V,bX,ae];rw[eV U,eV V];have g1:a.getD s 0=a[s]:=by simp[U]
   have g2:b.getD s 0=b[s]:=by simp[V]
   by_cases G:a[s]=b[s]
   ·rw[g1,g2,G]
    have :=ih (s+1) (by omega);simp only[BEq.rfl,Bool.not_true,Bool.false_eq_true,if_false,eZ,bX,iV,true_and];exact this
   ·have W:(a[s]==b[s])=false:=by simpa using G
    rw[g1,g2,W];simp;intro hd;rw[eV U,eV V] at hd;exact absurd (List.cons.inj hd).1 G
 rw[ac len 0 (by omega)];by_cases h:a=b
 ·simp[h]
 ·simp[h]
theorem jR (t e:TypeId)(len:Nat)(k':IntKind)(Z:Array Value)(k:Nat)(v:Value)(V:P.underlying t=some (.array len e))(W:P.underlying e=some (.int k'))(z:(P.info? e).map (·.size)=some 1)
  (hk:k<len) (hv:Z[k]? =some v) (w:World):(Instr.index t (.agg Z) (.int .i64 (k:Int))).run P w= .ok v w:=by
 have G:∀J:World,(sizeOf e).run P J= .ok 1 J:=by
  intro J;cases hq:P.info? e with
  |none=>simp[hq] at z
  |some i=>simp[sizeOf,typeInfo,hq] at z ⊢;exact z
 have y:(isAgg e).run P w= .ok false w:=by
  unfold isAgg;rw[bM,cP W w];rfl
 have U:(0:Int)<=(k:Int)/\(k:Int)<(len:Int):=by omega
 unfold Instr.index;simp[cP V,U,G,part,y,hv,asIntOf];intro h;omega
theorem jC:(prog.info? 109).map (·.size)=some 13:=by kernel_rfl
theorem Mz:(prog.info? 255).map (·.size)=some 8:=by kernel_rfl
theorem il:(prog.info? 195).map (·.size)=some 8:=by kernel_rfl
theorem Rj:(prog.info? 254).map (·.size)=some 13:=by kernel_rfl
theorem iH:(prog.info? 111).map (·.size)=some 18:=by kernel_rfl
theorem mg:(prog.info? 3).map (·.size)=some 1:=by kernel_rfl
theorem mH (w:World):(zeroValue 109).run prog w= .ok (.agg (zs (List.replicate 13 0)).toArray) w:=by kernel_rfl
theorem FQ (w:World):(zeroValue 255).run prog w= .ok (.agg (zs (List.replicate 8 0)).toArray) w:=by kernel_rfl
theorem jx (w:World):(zeroValue 195).run prog w= .ok (.agg (aO (List.replicate 8 0)).toArray) w:=by kernel_rfl
theorem Rk (w:World):(zeroValue 254).run prog w= .ok (.agg (aO (List.replicate 13 0)).toArray) w:=by kernel_rfl
def cX:bN:=⟨0,0,0,0,List.replicate 13 0,[]⟩
theorem fu (w:World):(zeroValue 111).run prog w= .ok (.agg (aU cX (.slice none 0 0))) w:=by kernel_rfl
theorem KF{b:List Int}(y:a.length=13)(h:b.length=13)(w:World):(Op.equalIn 10000 109 (.agg (zs a).toArray) (.agg (zs b).toArray)).run prog w= .ok (decide (a=b)) w:=
 nb w 9998 109 3 13 .i64 .i64 a b underlying109 underlying3 mg y h
theorem WY{b:List Int}(y:a.length=8)(h:b.length=8)(w:World):(Op.equalIn 10000 255 (.agg (zs a).toArray) (.agg (zs b).toArray)).run prog w= .ok (decide (a=b)) w:=
 nb w 9998 255 3 8 .i64 .i64 a b underlying255 underlying3 mg y h
theorem Es{b:List Int}(y:a.length=8)(h:b.length=8)(w:World):(Op.equalIn 10000 195 (.agg (aO a).toArray) (.agg (aO b).toArray)).run prog w= .ok (decide (a=b)) w:=
 nb w 9998 195 56 8 .u64 .u64 a b underlying195 underlying56 nG y h
theorem yC: prog.eqGuardType prog.depth 109 =false:=by kernel_rfl
theorem Ig: prog.eqGuardType prog.depth 255 =false:=by kernel_rfl
theorem qA: prog.eqGuardType prog.depth 195 =false:=by kernel_rfl
theorem Et (h:k<13)(y:Z[k]? =some v)(w:World):(Instr.index 109 (.agg Z) (.int .i64 (k:Int))).run prog w= .ok v w:=
 jR 109 3 13 .i64 Z k v underlying109 underlying3 mg h y w
theorem Rl (h:k<8)(y:Z[k]? =some v)(w:World):(Instr.index 255 (.agg Z) (.int .i64 (k:Int))).run prog w= .ok v w:=
 jR 255 3 8 .i64 Z k v underlying255 underlying3 mg h y w
theorem Rm (h:k<8)(y:Z[k]? =some v)(w:World):(Instr.index 195 (.agg Z) (.int .i64 (k:Int))).run prog w= .ok v w:=
 jR 195 56 8 .u64 Z k v underlying195 underlying56 nG h y w
theorem Eu (h:k<13)(y:Z[k]? =some v)(w:World):(Instr.index 254 (.agg Z) (.int .i64 (k:Int))).run prog w= .ok v w:=
 jR 254 56 13 .u64 Z k v underlying254 underlying56 nG h y w
theorem eN (z:bf w g Z T)(y:l.length=13)(G:∀k,k<13->Z[off+k]? =some (.int .i64 (l.getD k 0))):
  (loadVar 109 ⟨g,off,none⟩).run prog w= .ok (.agg (zs l).toArray) w:=
 bE g off (zs l) underlying109 rfl (by rw[dG,y];exact jC) λj h=>by
  rw[dG,y] at h;rw[z.cell,G j h,fp (by omega)]
theorem dX (h:bf w g (aO l).toArray T)(y:l.length=8):
  (loadVar 195 ⟨g,0,none⟩).run prog w= .ok (.agg (aO l).toArray) w:=
 bE g 0 (aO l) underlying195 rfl (by rw[aZ,y];exact il) λj _=>by
  rw[h.cell,aV,aC]
theorem Ih (h:bf w g (aO l).toArray T)(y:l.length=13):
  (loadVar 254 ⟨g,0,none⟩).run prog w= .ok (.agg (aO l).toArray) w:=
 bE g 0 (aO l) underlying254 rfl (by rw[aZ,y];exact Rj) λj _=>by
  rw[h.cell,aV,aC]
theorem MA (z:bf w g Z T)(y:l.length=8)(G:∀k,k<8->Z[off+k]? =some (.int .i64 (l.getD k 0))):
  (loadVar 255 ⟨g,off,none⟩).run prog w= .ok (.agg (zs l).toArray) w:=
 bE g off (zs l) underlying255 rfl (by rw[dG,y];exact Mz) λj h=>by
  rw[dG,y] at h;rw[z.cell,G j h,fp (by omega)]
theorem cC{n:bN}(h:bf w g (aU n v) T)(y:n.B.length=13):
  (loadVar 111 ⟨g,0,none⟩).run prog w= .ok (.agg (aU n v)) w:=
 bE g 0 (mr n v) underlying111 rfl (by rw[fT,y];exact iH) λj _=>by
  rw[h.cell,aV,aU,aC]
theorem bo{ty:Nat}{cs:List Value}{h:Array Value}(z:(P.info? ty).map (·.size)=some cs.length)(y:bf w g h T)(J:h.size=cs.length)(G:∀v∈cs,v.oneCell'=true):
  ∃w',(storeVar ty ⟨g,0,none⟩ (.agg cs.toArray)).run P w= .ok () w'/\bf w' g cs.toArray T/\ay [g] w w':=by
 refine⟨_,iL g 0 cs h z y (by omega) G,?_,(ay.refl _ _).setRow (by simp) _⟩;have e:(h.toList.take 0++cs++h.toList.drop (0+cs.length)).toArray=cs.toArray:=by
  rw[cZ (by simp;omega)];simp
 rw[e];exact j6 y
theorem jD{n:bN}(y:v.oneCell'=true):∀u∈mr n v,u.oneCell'=true:=by
 intro u h;simp only[mr,aQ,aR,aS,bD] at h;rcases h with rfl|rfl|rfl|rfl|h|rfl
 all_goals first|rfl|exact y|exact kD _ u h
def mV (l:List Nat):List Value:=l.map λc:Nat=>Value.int .u8 (c:Int)
theorem ui (l:List Nat):(mV l).length=l.length:=by simp[mV]
theorem xf{l:List Nat}(h:j<l.length):(mV l)[j]? =some (.int .u8 (l.getD j 0:Nat)):=by simp[mV,h]
theorem UU (l:List Nat):∀u∈mV l,u.oneCell'=true:=by
 intro u h;simp only[mV,bL] at h;obtain⟨x,-,rfl⟩:=h;rfl
theorem Yf{α:Type}{l:List α}(h:l.length=8):∃J G U z V W Z y,l=[J,G,U,z,V,W,Z,y]:=by
 match l,h with
 | [J,G,U,z,V,W,Z,y],_=>exact⟨J,G,U,z,V,W,Z,y,rfl⟩
theorem zC (l:List Nat)(h:l.length=8)(k:Nat)(Z:k<8)(w:World):(Instr.index 203 (.agg (mV l).toArray) (.int .i64 (k:Int))).run prog w= .ok (.int .u8 (l.getD k 0:Nat)) w:=by
 obtain⟨U,J,V,G,W,x5,x6,z,rfl⟩:=Yf h;have y:k=0\/k=1\/k=2\/k=3\/k=4\/k=5\/k=6\/k=7:=by omega
 rcases y with rfl|rfl|rfl|rfl|rfl|rfl|rfl|rfl<;>(show Sem.run _ _ _=_;kernel_rfl)
theorem Bz (n:Nat)(h:n<18446744073709551616):IntKind.u64.wrap (n:Int)=(n:Int):=by rw[fN];omega
theorem UW (k:Nat):2^(8*k)=256^k:=by rw[Nat.pow_mul]
theorem BA (G:c<256)(z:k<8):c*256^k<18446744073709551616:=by
 have h:256^k<=256^7:=Nat.pow_le_pow_right (by decide) (by omega);have y:(256:Nat)^7=72057594037927936:=rfl;rw[y] at h;have :=Nat.mul_le_mul (show c<=255 by omega) h;omega
theorem UX (y:c<256)(h:k<8):IntKind.u64.wrap (IntKind.u64.wrap (c:Int)*2^(8*k))=((c*256^k:Nat):Int):=by
 rw[Bz c (by omega),show(2:Int)^(8*k)=((256^k:Nat):Int) by rw[<-UW];simp,<-Int.natCast_mul,Bz _ (BA y h)]
theorem UY{l:List Nat}(U:l.length=8)(h:∀c∈l,c<256){k:Nat}(G:k<8):
  bits .or .u64 ((jX (l.take k):Nat):Int) (IntKind.u64.wrap (IntKind.u64.wrap ((l.getD k 0:Nat):Int)*2^(8*k)))=((jX (l.take (k+1)):Nat):Int):=by
 have z:l.getD k 0<256:=by
  rw[aj,aF (by omega)];exact h _ (bA _)
 have y:=Hg (Mt h k);rw[aI,cA (by omega)] at y;have J:256^k<=256^7:=Nat.pow_le_pow_right (by decide) (by omega);rw[show(256:Nat)^7=72057594037927936 from rfl] at J;rw[UX z G,u64_or_nat _ _ (by omega) (BA z G),Ab l k (by omega),Nat.or_comm,nat_join (8*k) _ _ (by rw[UW];exact Nat.mul_mod_left _ _) (by rw[UW];exact y),Nat.add_comm]
theorem UZ (l:List Nat)(G:l.length=8)(hb:∀c∈l,c<256)(w:World):
  Calls prog 152 #[.agg (mV l).toArray] w λe w'=>e= .returned (.int .u64 (jX l:Nat))/\ay [] w w':=by
 have W:=λk hk=>zC l G k hk
 have Z:∀z:World,(∀j,j<8->z.cell? ⟨w.heap.size,j,none⟩=(mV l)[j]?)->(loadVar 203 ⟨w.heap.size,0,none⟩).run prog z= .ok (.agg (mV l).toArray) z:=λz hc=>
  bE w.heap.size 0 (mV l) underlying203 rfl (by rw[ui,G];kernel_rfl) λj J=>by
   rw[ui,G] at J;rw[aV];exact hc j J
 have V:=ar (Z (w.alloc (.cells (mV l).toArray 203)) λj J=>by rw[(bf.new w (mV l).toArray 203).cell];simp);have U:=ar W;clear Z W;go_enter func152,ntmps152;go_wp2_with(with_reducible refine gL 203 V.out ?_);clear V;go_loop [3,7] (λs3 s7=>∃k:Nat,k<=8/\s7= .int .i64 (k:Int)/\s3= .int .u64 (jX (l.take k):Nat)) (λ_ i=>8-(intOf i).toNat)
 case atStart=>exact⟨0,by omega,rfl,rfl⟩
 case round=>
  obtain⟨k,hk,rfl,rfl⟩:=hrel;by_cases y:k<8
  ·have hx:=U.out k y
   have h:(k:Int)<8:=by omega
   have HO:=ar (UY G hb y);generalize l.getD k 0=c at *;go_wp2_with fail
   go_round
   case rel=>
    refine⟨k+1,by omega,by go_num,?_⟩;rw[<-HO.out]
   case measure=>simp[intOf];omega
  ·have h:¬(k:Int)<8:=by omega
   obtain rfl:k=8:=by omega
   rw[aW (by omega)];go_wp2_with fail;go_ret;exact⟨rfl,(ay.refl _ _).alloc _⟩
theorem Tryz.info_bytes:(prog.info? 203).map (·.size)=some 8:=by kernel_rfl
def mI (W k:Nat):List Nat:=(List.range 8).map λj=>if j<k then pU W j else 0
theorem Ev (W:Nat):mI W 8=jW W:=by
 unfold mI jW;apply dL;intro j h;rw[aB (by simpa using h)]
theorem NL (W k:Nat)(z:k<8):(mV (mI W k)).set k (.int .u8 (pU W k:Nat))=mV (mI W (k+1)):=by
 apply bW;intro j;rw[eB];simp only[mV,mI,bC,bG,eX];by_cases h:k=j
 ·subst h
  simp[z]
 ·rw[aA h]
  by_cases y:j<8
  ·simp only[y,bV,fC]
   simp only[show j<k+1↔j<k by omega]
  ·simp[y]
theorem qB (W k:Nat):(mI W k).length=8:=by simp[mI]
theorem U0 (W k:Nat):(W:Int)/2^(8*k)%256=((pU W k:Nat):Int):=by
 rw[show(2:Int)^(8*k)=((256^k:Nat):Int) by rw[<-UW];simp];rfl
theorem BB{l:List Nat}(y:l.length=8)(h:bf w b (mV l).toArray 203):(loadVar 203 ⟨b,0,none⟩).run prog w= .ok (.agg (mV l).toArray) w:=
 bE b 0 (mV l) underlying203 rfl (by rw[ui,y];exact Tryz.info_bytes) λj _=>by rw[h.cell];simp
theorem tD{l m:List Nat}(z:l.length=8)(y:m.length=8)(h:bf w b (mV l).toArray 203):
  ∃w',(storeVar 203 ⟨b,0,none⟩ (.agg (mV m).toArray)).run prog w= .ok () w'/\bf w' b (mV m).toArray 203/\ay [b] w w':=by
 have G:=iL (P:= prog) (ty:= 203) b 0 (mV m) _ (by rw[ui,y];exact Tryz.info_bytes) h (by simp[ui,z,y]) (UU m);refine⟨_,G,?_,(ay.refl _ _).setRow (by simp) _⟩;have :=setRow_heap _ b _ (List.take 0 (mV l).toArray.toList++mV m++List.drop (0+(mV m).length) (mV l).toArray.toList).toArray _ _ h;unfold bf;rw[this];simp[cZ,ui,z,y]
theorem vO (W:Nat):(#[.int .u8 0,.int .u8 0,.int .u8 0,.int .u8 0,.int .u8 0,.int .u8 0,.int .u8 0,.int .u8 0]:Array Value)=(mV (mI W 0)).toArray:=by
 simp[mV,mI,List.range,List.range.loop]
theorem BC (W:Nat)(w:World):
  Calls prog 148 #[.int .u64 (W:Int)] w λe w'=>e= .returned (.agg (mV (jW W)).toArray)/\ay [] w w':=by
 go_enter func148,ntmps148;go_wp2_with fail;go_loopg [5] 8 (λg s5 z=>∃k:Nat,k+g=8/\s5= .int .i64 (k:Int)/\Hid (bf z (w.heap.size+1) (mV (mI W k)).toArray 203/\bf z w.heap.size (mV (mI W 0)).toArray 203/\ay [] w z))
 case atStart=>
  refine⟨0,by omega,rfl,?_,?_,((ay.refl _ _).alloc _).alloc _⟩
  ·have :=bf.new (w.alloc (.cells (mV (mI W 0)).toArray 203)) (mV (mI W 0)).toArray 203
   simpa[vO W] using this
  ·have :=(bf.new w (mV (mI W 0)).toArray 203).alloc (.cells (mV (mI W 0)).toArray 203)
   simpa[vO W] using this
 case round=>
  obtain⟨k,sX,rfl,y⟩:=hrel;cases gk with
  |zero=>
   obtain rfl:k=8:=by omega
   have J:=ar (BB (qB W 8) y.out.1);obtain⟨w2,V,h,U⟩:=tD (qB W 0) (qB W 8) y.out.2.1;have G:=ar V;rw[Ev] at h;have HB:Hid (∀j,j<8->w2.cell? ⟨w.heap.size,j,none⟩=some (.int .u8 (pU W j:Nat))):=λj Z=>by
    rw[h.cell,<-sV W j Z];simpa using xf (l:=jW W) (j:=j) (by rw[kS];omega)
   have HK:=ar (y.out.2.2.trans U (by simp));clear V h U y;rw[Ev] at J G;go_wp2_with(first|(with_reducible refine gL 203 J.out ?_)|(with_reducible refine gS 203 G.out ?_));have h:=HB.out;exact aL (v:= .agg (mV (jW W)).toArray) (by simp[results,results148,go_sem,h 0,h 1,h 2,h 3,h 4,h 5,h 6,h 7,mV,jW,List.range,List.range.loop]) rfl ⟨rfl,HK.out⟩
  |succ g=>
   have aa:(k:Int)<8:=by omega
   have hc:wr.cell? ⟨w.heap.size+1,k,none⟩=some (.int .u8 ((mI W k).getD k 0:Nat)):=by
    rw[y.out.1.cell];simpa using xf (l:=mI W k) (j:=k) (by rw[qB];omega)
   have hf:wr.frozen? ⟨w.heap.size+1,k,none⟩=false:=y.out.1.frozen _;generalize (mI W k).getD k 0=c at *;go_wp2_with fail;go_roundg g;case measure=>omega
   case rel=>
    refine⟨k+1,by omega,by go_num,?_⟩;rw[U0];refine⟨?_,y.out.2.1.other (by simp) _,y.out.2.2.setCell (.inr (by simp)) _⟩;have :=y.out.1.set k (.int .u8 (pU W k:Nat));rw[ag,NL W k (by omega)] at this;exact this
def bl (s:ByteArray):List Nat:=s.data.toList.map UInt8.toNat
theorem kF (s:ByteArray):(bl s).length=s.size:=by simp[bl]
theorem xg (s:ByteArray):∀c∈bl s,c<256:=by
 intro c h;simp only[bl,bL] at h;obtain⟨x,-,rfl⟩:=h;exact x.toNat_lt
theorem Yg (s:ByteArray)(k:Nat)(h:k<s.size):(bl s).getD k 0=s[k].toNat:=by
 simp[bl,h];rfl
theorem FR{t:ByteArray}(h:bl s=bl t):s=t:=by
 apply ByteArray.ext;apply Array.toList_inj.1;have :=List.map_inj_right (f:=UInt8.toNat) (λa b e=>UInt8.toNat_inj.1 e) |>.1 h;exact this
theorem Ii (c:Nat)(w:World):Calls prog 189 #[.int .u8 (c:Int)] w λe w'=>e= .returned (.bool (lD c))/\w=w':=by
 by_cases y:33<=c
 ·by_cases z:c<=126
  ·by_cases h:c=47
   ·subst h
    go_enter func189,ntmps189;go_wp2;go_ret;exact⟨rfl,rfl⟩
   ·have e:lD c=true:=by simp[lD,y,z,h]
    have G:((c:Int) != 47)=true:=by simp;omega
    rw[e];clear e h;go_enter func189,ntmps189;go_wp2;go_ret;exact⟨rfl,rfl⟩
  ·have e:lD c=false:=by simp[lD,z]
   rw[e];go_enter func189,ntmps189;go_wp2;go_ret;exact⟨rfl,rfl⟩
 ·have e:lD c=false:=by simp[lD,y]
  rw[e];go_enter func189,ntmps189;go_wp2;go_ret;exact⟨rfl,rfl⟩
theorem Dr (l:List Nat)(k:Nat)(h:k<l.length):(l.take (k+1)).all lD=((l.take k).all lD&&lD (l.getD k 0)):=by
 rw[bz h,List.all_append];simp[h]
theorem all_false{l:List Nat}(h:k<l.length)(y:lD (l.getD k 0)=false):l.all lD=false:=by
 rw[List.all_eq_false];refine⟨l.getD k 0,?_,by rw[y];simp⟩;rw[aj,aF h];exact bA _
theorem Rn (h:s≠⟨#[46]⟩)(z:s≠⟨#[46,46]⟩)(G:1<=s.size)(y:s.size<=7):gA (bl s)=(bl s).all lD:=by
 have U:(bl s != [46])=true:=by
  simp only[bne_iff_ne,ne_eq];intro e;exact h (FR (t:=⟨#[46]⟩) e)
 have J:(bl s != [46,46])=true:=by
  simp only[bne_iff_ne,ne_eq];intro e;exact z (FR (t:=⟨#[46,46]⟩) e)
 simp[gA,kF,G,y,U,J]
theorem Ro{l:List UInt8}(h:s≠⟨l.toArray⟩):(s.toList==l)=false:=by
 rw[iF];simp only[cj,ne_eq];intro e;apply h;apply ByteArray.ext;apply Array.toList_inj.1;rw[e]
theorem FT (s:ByteArray)(hs:s.size<=9223372036854775807)(w:World):Calls prog 170 #[.string s] w λe w'=>e= .returned (.bool (gA (bl s)))/\w=w':=by
 by_cases y:s=⟨#[46]⟩
 ·subst y
  go_enter func170,ntmps170;go_wp2;go_ret;exact⟨rfl,rfl⟩
 by_cases z:s=⟨#[46,46]⟩
 ·subst z
  go_enter func170,ntmps170;go_wp2;go_ret;exact⟨rfl,rfl⟩
 by_cases Z:1<=s.size
 ·by_cases W:s.size<=7
  ·rw[Rn y z Z W]
   have q1:(s.toList == [46])=false:=Ro (l:=[46]) y;have q2:(s.toList == [46,46])=false:=Ro (l:=[46,46]) z;have q3:decide ((s.size:Int)<1)=false:=by simp;omega
   have q4:decide (7<(s.size:Int))=false:=by simp;omega
   clear y z;go_enter func170,ntmps170;go_wp2;go_loop [22] (λi=>∃k:Nat,k<=s.size/\i= .int .i64 (k:Int)/\Hid (((bl s).take k).all lD=true)) (λi=>s.size-(intOf i).toNat)
   case atStart=>exact⟨0,eD _,rfl,rfl⟩
   case round=>
    obtain⟨k,hk,rfl,U⟩:=hrel;by_cases h:k<s.size
    ·have G:(k:Int)<(s.size:Int):=by omega
     have J:=ar (Ii (s[k].toNat) w);have HB:=ar (Yg s k h);have HT:=ar (Dr (bl s) k (by rw[kF];exact h));cases hb:lD s[k].toNat
     ·have V:=ar (all_false (l:=bl s) (k:=k) (by rw[kF];exact h) (by rw[HB.out];exact hb))
      rw[hb] at J;clear hb;go_wp2_with(go_at_call 189;refine J.out.mono ?_;rintro e w' ⟨rfl,rfl⟩);go_ret;exact⟨by rw[V.out];rfl,rfl⟩
     ·rw[hb] at J
      have V:=ar hb;clear hb;go_wp2_with(go_at_call 189;refine J.out.mono ?_;rintro e w' ⟨rfl,rfl⟩)
      go_round
      case rel=>exact⟨k+1,by omega,by go_num,by rw[HT.out,HB.out,V.out,U.out];rfl⟩
      case measure=>simp[intOf];omega
    ·obtain rfl:k=s.size:=by omega
     have G:¬(s.size:Int)<(s.size:Int):=by omega
     rw[aW (by rw[kF];exact aG _)] at U;go_wp2_with fail;go_ret;exact⟨by rw[U.out];rfl,rfl⟩
  ·have e:gA (bl s)=false:=by simp[gA,kF,W]
   rw[e];clear e y z;go_enter func170,ntmps170;go_wp2;go_ret;exact⟨rfl,rfl⟩
 ·have e:gA (bl s)=false:=by simp[gA,kF,Z]
  rw[e];clear e y z;go_enter func170,ntmps170;go_wp2;go_ret;exact⟨rfl,rfl⟩
def sF (l:List Nat):ByteArray:=⟨(l.map UInt8.ofNat).toArray⟩
theorem MB{l:List Nat}(h:∀c∈l,c<256):bl (sF l)=l:=by
 simp only[bl,sF,List.map_map]
 conv=>rhs;rw[<-List.map_id l]
 apply dL;intro c y;simp[Nat.mod_eq_of_lt (h c y)]
theorem AJ (s:ByteArray):sF (bl s)=s:=FR (MB (xg s))
theorem Ew (l:List Nat):(sF l).size=l.length:=by simp[sF,ByteArray.size]
theorem Tryz.info_byte:(prog.info? 5).map (·.size)=some 1:=by kernel_rfl
def jq (l:List Nat):Nat:=if gA l=true then ot l else 0
theorem U1{l:List Nat}(h:l.length<=7):(mV (l++List.replicate (8-l.length) 0)).set 7 (.int .u8 (l.length:Int))=mV (wR l):=by
 have e:List.replicate (8-l.length) 0=List.replicate (7-l.length) 0++[0]:=by rw[show 8-l.length=7-l.length+1 by omega,List.replicate_succ']
 rw[e,<-ba,wR];generalize z:l++List.replicate (7-l.length) 0=A;have y:A.length=7:=by rw[<-z];simp;omega
 simp only[mV,eJ,List.map_cons,List.map_nil];rw[cQ _ _ (by simp[y])];simp[y]
theorem copied(h:s.size<=7)(y:bf w b (mV (List.replicate 8 0)).toArray 203):∃w',
  (Builtin.copy_ #[31,9] 3 #[.slice (some ⟨b,0,none⟩) 8 8,.string s]).run prog w= .ok (goInt s.size) w'/\bf w' b (mV (bl s++List.replicate (8-s.size) 0)).toArray 203/\ay [b] w w':=by
 have z:=Lib.run_copy_row_string (P:= prog) w 31 9 3 5 b 0 8 8 s _ _ underlying31 Tryz.info_byte y (by omega) (by simp[mV];omega);refine⟨_,z,?_,(ay.refl _ _).setRow (by simp) _⟩;unfold bf;rw[setRow_heap _ b _ _ _ _ y];have J:List.take 0 (mV (List.replicate 8 0)).toArray.toList++Lib.byteCells s.data.toList++List.drop (0+s.size) (mV (List.replicate 8 0)).toArray.toList=mV (bl s++List.replicate (8-s.size) 0):=by
  have G:mV (List.replicate 8 0)=List.replicate 8 (Value.int .u8 0):=by simp only[mV,List.map_replicate];rfl
  rw[G,aV,eI,bT,iG];simp only[mV,bl,Lib.byteCells,eJ,List.map_map,List.map_replicate];rfl
 rw[J]
theorem FU (s:ByteArray)(hs:s.size<=9223372036854775807)(w:World):Calls prog 221 #[.string s] w λe w'=>e= .returned (.tuple #[.int .u64 (jq (bl s):Nat),.bool (gA (bl s))])/\ay [] w w':=by
 have G:=ar (FT s hs w);unfold jq;cases hg:gA (bl s)
 ·rw[hg] at G
  clear hg;go_enter func221,ntmps221;go_wp2_with(go_at_call 170;refine G.out.mono ?_;rintro e w' ⟨rfl,rfl⟩);go_ret2;exact⟨rfl,ay.refl _ _⟩
 ·rw[hg] at G
  rw[aB rfl];obtain⟨l1,l2⟩:=mX hg;rw[kF] at l1 l2;clear hg;obtain⟨V,U,z,W⟩:=copied l2 (bf.new w (mV (List.replicate 8 0)).toArray 203);have ac:V.cell? ⟨w.heap.size,7,none⟩=some (.int .u8 ((bl s++List.replicate (8-s.size) 0).getD 7 0:Nat)):=by
   rw[z.cell];simpa using xf (l:=bl s++List.replicate (8-s.size) 0) (j:=7) (by simp[kF];omega)
  have aa:V.frozen? ⟨w.heap.size,7,none⟩=false:=z.frozen 7;have h:=z.set 7 (.int .u8 (s.size:Int));rw[ag,<-kF,U1 (by rw[kF];exact l2),kF] at h;have HL:=ar (BB (sW (by rw[kF];exact l2)) h);have HC:=ar U;have HK:=ar ((((ay.refl [] w).alloc (.cells (mV (List.replicate 8 0)).toArray 203)).trans W (by simp)).setCell (p:=⟨w.heap.size,7,none⟩) (.inr (aG _)) (.int .u8 (s.size:Int)));have J:=λZ=>UZ (wR (bl s)) (sW (by rw[kF];exact l2)) (Fz (by rw[kF];exact l2) (xg s)) Z
  rw[vH (by rw[kF];exact l2)] at J;have J:=ar J;generalize (bl s++List.replicate (8-s.size) 0).getD 7 0=c at *;clear U z h W;go_enter func221,ntmps221;go_wp2_with(first|(go_at_call 170;refine G.out.mono ?_;rintro e w' ⟨rfl,rfl⟩)|((with_reducible show wpList _ _ _ (⟨some 10,_,_,_,_,_⟩::_) _ _);refine gW rfl (.tmp 8) (.tmp 9) 31 9 rfl _ _ rfl rfl HC.out ?_)|(with_reducible refine gL 203 HL.out ?_)|(go_at_call 152;refine(J.out _).mono ?_;rintro e w' ⟨rfl,y⟩;have oN:=ar y;clear y));go_ret2;exact⟨rfl,HK.out.trans oN.out (by simp)⟩
def sf (l:List Int):Prop:=∀k,k<13->(0<=l.getD k 0/\l.getD k 0<256)/\(l.getD k 0≠0->∀j,j<k->l.getD j 0≠l.getD k 0)
instance (l:List Int):Decidable (sf l):=by unfold sf;infer_instance
def kW (l:List Int) (c:Nat):List Int:=l.take c++List.replicate (13-c) 0
theorem uj (h:l.length=13){c:Nat}(y:c<=13):(kW l c).length=13:=by simp[kW,h];omega
theorem yD (y:l.length=13){c:Nat}(z:c<=13)(k:Nat):(kW l c).getD k 0=if k<c then l.getD k 0 else 0:=by
 simp only[kW,aj,gj,aI,cy,bb];by_cases h:k<c
 ·rw[aB (by omega),aB h,aB h]
 ·rw[aA (by omega),aA h]
  split<;>rfl
def aY (n:Nat):Nat:=(n+3)/4
def lX (n:Nat):Nat:=(n+63)/64
def leB (a b:ByteArray):Bool:=Op.bytesLess a.toList b.toList||(a.toList==b.toList)
def p8 (n:bN):Prop:=(0<=n.S/\n.S<=832)/\n.E.length=0/\n.B=kW n.B (lX n.S.toNat)/\sf n.B
def Ah (E:List (ByteArray×Int)) (k:Nat):Prop:=gA (bl (dZ E k))=true/\(0<=iC E k/\iC E k<=31)/\(0<k->leB (dZ E k) (dZ E (k-1))=false)
def mz (n:bN):Prop:=n.E.length<=24/\n.S=n.E.length/\n.B=List.replicate 13 0/\∀k,k<n.E.length->Ah n.E k
def bR (n:bN):Prop:=(n.F=1\/n.F=2)/\(0<=n.L/\n.L<=65535)/\(n.K=1/\p8 n\/n.K=2/\mz n)
instance (n:bN):Decidable (p8 n):=by unfold p8;infer_instance
instance (E:List (ByteArray×Int)) (k:Nat):Decidable (Ah E k):=by unfold Ah;infer_instance
instance (n:bN):Decidable (mz n):=by unfold mz;infer_instance
instance (n:bN):Decidable (bR n):=by unfold bR;infer_instance
def o9 (l:List Int) (k:Nat):List Bool:=(List.range 256).map λc=>decide (∃j,j<k/\l.getD j 0=((c:Nat):Int))
theorem uk (l:List Int)(k:Nat):(o9 l k).length=256:=by rw[o9,bG,eX]
theorem NM (l:List Int)(k c:Nat)(h:c<256):(o9 l k).getD c false=decide (∃j,j<k/\l.getD j 0=((c:Nat):Int)):=by
 rw[o9,aj,bC,bV h];rfl
theorem BD (l:List Int):List.replicate 256 false=o9 l 0:=by
 apply dB (by rw[bj,uk]);intro j z y;rw[List.getElem_replicate];simp only[o9,fQ,iQ];exact(aM λ⟨i,h,_⟩=>by omega).symm
theorem KG (l:List Int)(k c:Nat)(h:l.getD k 0=((c:Nat):Int)):(o9 l k).set c true=o9 l (k+1):=by
 apply dB (by rw[dW,uk,uk]);intro j U J;rw[List.getElem_set];simp only[o9,fQ,iQ];by_cases e:c=j
 ·subst e
  rw[aB rfl];exact(bh ⟨k,by omega,h⟩).symm
 ·rw[aA e]
  refine decide_eq_decide.2 ⟨λ⟨i,G,y⟩=>⟨i,by omega,y⟩,λ⟨i,G,y⟩=> ?_⟩;by_cases z:i=k
  ·subst z
   rw[h] at y;exact absurd (Int.ofNat_inj.1 y) e
  ·exact⟨i,by omega,y⟩
theorem dC{rest:List Oper}{a:Act}(J:Region.wanted o (yielded y a.tmps)=true)(ty:TypeId)(x:Operand)(W:o.op= .load ty x)(z:Addr)
  (G:a.eval x= .pointer (some z)) (v:Value) (U:(loadVar ty z).run P w= .ok v w) (h:wpList P y Q rest (a.put o.dst v) w):wpList P y Q (o::rest) a w:=
 wpList_step λ_ V=>by
  rw[aB J];unfold Oper.wp execOp;simp only[W,G,Instr.loadAt,Instr.sureAddr,bM,eZ,bX,U];exact V _ _ h
theorem kz{a:Act}{K:Act->World->Prop}{E:Prop}(z:o.guard=none)(ty:TypeId)(x:Operand)(W:o.op= .load ty x)(G:Addr)
  (J:a.eval x= .pointer (some G)) (v:Value) (V:(loadVar ty G).run P w= .ok v w) (h:K (a.put o.dst v) w):if Region.wanted o (yielded y a.tmps)=true then Oper.wp P o a w K Q else E:=by
 have U:Region.wanted o (yielded y a.tmps)=true:=by simp[Region.wanted,z]
 rw[aB U];unfold Oper.wp execOp;simp only[W,J,Instr.loadAt,Instr.sureAddr,bM,eZ,bX,V];exact h
theorem BF{ty:TypeId}{k:IntKind}(y:P.underlying ty=some (.int k))(z:bf w g Z T)(J:Z[off]? =some v):(loadVar ty ⟨g,off,none⟩).run P w= .ok v w:=by
 have h:(isAgg ty).run P w= .ok false w:=by
  unfold isAgg;rw[bM,cP y w];rfl
 have G:w.cell? ⟨g,off,none⟩=some v:=by rw[z.cell,J]
 simp[loadVar,h,G]
theorem rB (h:Addr)(w:World):(asAddr (.pointer (some h))).run P w= .ok h w:=rfl
theorem dJ{a:Nat}{y:Addr}(h:fn.results= #[.cell a t])(z:tmps.getD a undef= .pointer (some y))(G:(loadVar t y).run P w= .ok v w):
  (results fn tmps).run P w= .ok v w:=by
 rw[gJ] at z;unfold results;rw[h];simp[z,rB,G]
theorem bB{a:Nat}{J:Addr}{x y:Value}(h:fn.results= #[.cell a t,.tmp b,.tmp c])(U:tmps.getD a undef= .pointer (some J))(V:(loadVar t J).run P w= .ok v w)
  (z:tmps.getD b undef=x) (G:tmps.getD c undef=y):(results fn tmps).run P w= .ok (.tuple #[v,x,y]) w:=by
 rw[gJ] at U z G;unfold results;rw[h];simp[U,rB,V,z,G]
theorem Dt (b c:Nat)(y:c<13)(w:World):(Instr.sliceAt 109 (.pointer (some ⟨b,0,none⟩)) (some (.int .i64 (c:Int))) none none).run prog w= .ok (.slice (some ⟨b,c,none⟩) (13-c) (13-c)) w:=by
 have h:c=0\/c=1\/c=2\/c=3\/c=4\/c=5\/c=6\/c=7\/c=8\/c=9\/c=10\/c=11\/c=12:=by omega
 rcases h with rfl|rfl|rfl|rfl|rfl|rfl|rfl|rfl|rfl|rfl|rfl|rfl|rfl
 all_goals (show Sem.run _ _ _=_;kernel_rfl)
theorem BG (b:Nat)(w:World):∃off cap,(Instr.sliceAt 109 (.pointer (some ⟨b,0,none⟩)) (some (.int .i64 (13:Nat))) none none).run prog w= .ok (.slice (some ⟨b,off,none⟩) 0 cap) w:=
 ⟨0,0,by show Sem.run _ _ _=_;kernel_rfl⟩
theorem KH (b c:Nat)(G:c<=13)(w:World):∃off cap,(Instr.sliceAt 109 (.pointer (some ⟨b,0,none⟩)) (some (.int .i64 (c:Int))) none none).run prog w= .ok (.slice (some ⟨b,off,none⟩) (13-c) cap) w/\(c<13->off=c):=by
 by_cases h:c<13
 ·exact⟨c,13-c,Dt b c h w,λ_=>rfl⟩
 ·obtain rfl:c=13:=by omega
  obtain⟨off,cap,y⟩:=BG b w;exact⟨off,cap,y,λz=>absurd z h⟩
theorem Ij (b c:Nat)(y:c<=13)(w:World):(Instr.sliceAt 109 (.pointer (some ⟨b,0,none⟩)) none (some (.int .i64 (c:Int))) none).run prog w= .ok (.slice (some ⟨b,0,none⟩) c 13) w:=by
 have h:c=0\/c=1\/c=2\/c=3\/c=4\/c=5\/c=6\/c=7\/c=8\/c=9\/c=10\/c=11\/c=12\/c=13:=by omega
 rcases h with rfl|rfl|rfl|rfl|rfl|rfl|rfl|rfl|rfl|rfl|rfl|rfl|rfl|rfl
 all_goals (show Sem.run _ _ _=_;kernel_rfl)
theorem set_tail(l:List Int)(c:Nat)(h:l.length=13)(y:c<=13):((zs l).take c++zs (List.replicate (13-c) 0)++(zs l).drop (c+(zs (List.replicate (13-c) 0)).length)).toArray=(zs (kW l c)).toArray:=by
 rw[cZ (by rw[dG,dG,bj,h];omega),bq];unfold kW;rw[yA];simp[zs,List.map_take]
theorem Du (n:Nat):(Builtin.zeroCells (Value.int .i64 0).cells n).toList=zs (List.replicate n 0):=by
 have e:(Value.int IntKind.i64 0).cells= #[Value.int .i64 0]:=rfl;rw[e];apply dB
 ·simp[Builtin.zeroCells,zs]
 ·intro j y h
  simp[Builtin.zeroCells,zs,Nat.mod_one]
theorem KI{cap:Nat}(y:bf w b (zs l).toArray T)(U:l.length=13)(W:c<=13)(Z:c<13->off=c):∃w',(∀ty,(Builtin.clear_ #[141] ty #[.slice (some ⟨b,off,none⟩) (13-c) cap]).run prog w= .ok (.tuple #[]) w')/\bf w' b (zs (kW l c)).toArray T/\ay [b] w w':=by
 by_cases h:c<13
 ·obtain rfl:=Z h
  have z:=run_storeCells_at prog b off T (zs (List.replicate (13-off) 0)) 0 (zs l).toArray w y (by simp[dG,U];omega) (kD _);refine⟨_,λty=> ?_,?_,(ay.refl _ _).setRow (g:=b) (by simp) ((zs l).take off++zs (List.replicate (13-off) 0)++(zs l).drop (off+(zs (List.replicate (13-off) 0)).length)).toArray⟩
  ·have J:(Builtin.zeroCells (Value.int .i64 0).cells (13-off)).toList=zs (List.replicate (13-off) 0):=Du _
   have G:(zeroValue 3).run prog w= .ok (.int .i64 0) w:=by kernel_rfl
   obtain⟨m,V⟩:∃m,13-off=m+1:=⟨12-off,by omega⟩;unfold Builtin.clear_;rw[V] at J z ⊢;simp only[bM,cP underlying141,bX,aC,iE,G,J];simp only[dP] at z;rw[z];simp
  ·rw[set_tail l off U W]
   exact j6 y
 ·obtain rfl:c=13:=by omega
  refine⟨w,λty=> ?_,?_,ay.refl _ _⟩
  ·unfold Builtin.clear_
   simp[cP underlying141]
  ·rw[show kW l 13=l by unfold kW;rw[aW (by omega)];simp]
   exact y
end Go.Proofs.YtepbpdipenedhaaGreatDoor
namespace Go.Proofs.YtepbpdipenedhaaGreatDoor
open Go.Proofs.Tryz
open Go.RowKit Go.Shelf
variable{a l:List Int}{T b c f g j k off t:Nat}{E:List (ByteArray×Int)}{w:World}{v:Value}{P:Program}{Z tmps:Array Value}{s:ByteArray}{y:Array Oper}{o:Oper}{Q:Exit->Act->World->Prop}{fn:Func}
attribute [local go_sem] iW
theorem Rp (a:Option Addr)(len cap:Nat)(w:World):Calls prog 231 #[.slice a len cap,.int .i64 3] w λe w'=>
  e= .returned (.func (.func 237) #[] #[.pointer (some ⟨w.heap.size,0,none⟩),.pointer (some ⟨w.heap.size+1,0,none⟩)])/\
   w'=(w.alloc (.cells #[.slice a len cap] 32)).alloc (.cells #[.int .i64 3] 3):=by
 have h:=bf.new (w.alloc (.cells #[.slice a len cap] 32)) #[.int .i64 3] 3;have y:(w.alloc (.cells #[.slice a len cap] 32)).heap.size=w.heap.size+1:=by simp
 rw[y] at h;have z:((w.alloc (.cells #[.slice a len cap] 32)).alloc (.cells #[.int .i64 3] 3)).cell? ⟨w.heap.size+1,0,none⟩=some (.int .i64 3):=by rw[h.cell];rfl
 clear h;go_enter func231,ntmps231;go_wp2_with fail;go_ret;exact⟨rfl,rfl⟩
def WZ (a:Option Addr) (len x:Nat):Value:=
 match a with
 |some ⟨g,off,_⟩=> .slice (some ⟨g,off+x*3*2,none⟩) (min 3 (len-3*x)) (min 3 (len-3*x))
 |none=> .slice none 0 0
def KpC (h y:Nat) (W z:World):Prop:=z.heap[h]? =W.heap[h]? /\z.heap[y]? =W.heap[y]?
theorem NN (n l bs G g off len cap:Nat)(hn:1<=n)(ak:len<=10000)(au:len<=cap)(J Jx:List Nat->World->Prop)(B:Nat)(hJ:AbidesFrom B J)
  (hY:∀h x W,J h W->h.length<(len+2)/3->YieldAt Fence.wide (n-1) prog l #[WZ (some ⟨g,off,none⟩) len x] W λe W'=>
   (e= .returned (.bool true)/\J (h++[x]) W'/\KpC bs G W W')\/(e= .returned (.bool false)/\Jx (h++[x]) W'))
  (W:World) (Z:bf W bs #[.slice (some ⟨g,off,none⟩) len cap] 32) (Ex:bf W G #[.int .i64 3] 3) (h0:J [] W):
  CallsIn Fence.wide n prog 237 #[.func (.yield l) #[] #[],.pointer (some ⟨bs,0,none⟩),.pointer (some ⟨G,0,none⟩)] W λe W'=>(∃v,e= .returned v)/\
   ((∃ys,ys=List.range ((len+2)/3)/\J ys W')\/(∃h,True/\Jx h W')):=by
 refine callsIn_of_wp func237 rfl trivial ?_ rfl;simp only[ntmps237,bH,bF,b9,Nat.reduceAdd,Nat.reduceSub,fk,fo,gG,fx,bT,fL]
 gi_wp2
 gi_loopw [4] (λi wr=>∃k:Nat,k<=(len+2)/3/\i= .int .i64 ((k*3:Nat):Int)/\J (List.range k) wr/\KpC bs G W wr)
  (λi _=>len+3-(intOf i).toNat)
 case atStart=>exact⟨0,eD _,rfl,h0,rfl,rfl⟩
 case round=>
  obtain⟨k,hk,rfl,z,ac,af⟩:=hrel;have cs:wr.cell? ⟨bs,0,none⟩=some (.slice (some ⟨g,off,none⟩) len cap):=(aK (a:=⟨bs,0,none⟩) ac).trans (by rw[Z.cell];rfl);have cn:wr.cell? ⟨G,0,none⟩=some (.int .i64 3):=(aK (a:=⟨G,0,none⟩) af).trans (by rw[Ex.cell];rfl);obtain⟨i,hi⟩:∃i:Nat,i=k*3:=⟨_,rfl⟩;rw[<-hi];by_cases aJ:i<len
  ·have aj:J (List.range k) wr.drew:=hJ _ _ _ none z ⟨rfl,rfl,rfl,aG _,λ_ _ _=>rfl⟩ (λr e=>by cases e)
   obtain⟨fn,tmps,assign,body,hy,hR⟩:=hY _ k wr.drew aj (by rw[eX];omega);obtain⟨m,hm⟩:∃m:Nat,m=min 3 (len-i):=⟨_,rfl⟩;have hv:WZ (some ⟨g,off,none⟩) len k= .slice (some ⟨g,off+i*2,none⟩) m m:=by
    show Value.slice (some ⟨g,off+k*3*2,none⟩) (min 3 (len-3*k)) (min 3 (len-3*k))=_;rw[hm,hi,Nat.mul_comm 3 k]
   rw[hv] at hy;clear hv hY Z Ex;have ae:(i:Int)<(len:Int):=by omega
   have aM:(0:Int)<=(i:Int):=by omega
   have aB:(i:Int)<=(len:Int):=by omega
   have MD:cap≠i:=by omega
   have ay:(i:Int)<=((i+m:Nat):Int):=by omega
   have aH:((i+m:Nat):Int)<=(cap:Int):=by omega
   have aD:i+m≠i:=by omega
   have ax:i+m-i=m:=by omega
   have aF:wrap64 ((i:Int)+3)=(i:Int)+3:=by unfold wrap64;omega
   have HI:=ar hi;have aa:=ar z;have mJ:Hid (len+3-(i+3)<len+3-i/\k+1<=(len+2)/3):=by show _/\_;omega
   clear hk hJ z hi;obtain⟨y,aC,aI,aO,az,aA⟩:∃y:Int,(i:Int)+(m:Int)=y/\wrap64 y=y/\(i:Int)<=y/\y<=(cap:Int)/\y.toNat=i+m:=⟨_,rfl,by unfold wrap64;omega,by omega,by omega,by omega⟩;obtain⟨r,hr⟩:∃r:Nat,r=len-i:=⟨_,rfl⟩;rw[<-hr] at hm;have av:(len:Int)-(i:Int)=(r:Int):=by omega
   have V:((3:Int)<=(r:Int)/\m=3)\/(¬(3:Int)<=(r:Int)/\m=r):=by omega
   have ai:=hr.symm;clear hr hm;rcases V with ⟨V,rfl⟩|⟨V,rfl⟩
   all_goals
    gi_wp2
    gi_region
    all_goals try clear ai
    gi_wp2
    refine hR.mono ?_;rintro e W3 (⟨rfl,ag,U⟩|⟨rfl,ah⟩)
    ·have aN:W3.cell? ⟨G,0,none⟩=some (.int .i64 3):=(aK (w:=wr.drew) (a:=⟨G,0,none⟩) U.2).trans cn
     gi_wp2
     go_roundw
     case rel=>exact⟨k+1,mJ.out.2,by rw[HI.out];simp;omega,by rw[dI];exact ag,U.1.trans ac,U.2.trans af⟩
     case measure=>have :=mJ.out.1;simp[intOf];omega
    ·gi_wp2
     refine aL (results_none rfl _ _ _) rfl ?_;exact⟨⟨_,rfl⟩,.inr ⟨_,trivial,ah⟩⟩
  ·have ae:¬(i:Int)<(len:Int):=by omega
   obtain rfl:k=(len+2)/3:=by omega
   have aa:=ar z;clear hY Z Ex hi hk z hJ
   gi_wp2
   go_end0;exact⟨⟨_,rfl⟩,.inl aa.out⟩
theorem NP (n l h bn:Nat)(a:Option Addr)(cap:Nat)(J Z:List Nat->World->Prop)(W:World)(y:bf W h #[.slice a 0 cap] 32)(V:J [] W):
  CallsIn Fence.wide n prog 237 #[.func (.yield l) #[] #[],.pointer (some ⟨h,0,none⟩),.pointer (some ⟨bn,0,none⟩)] W λe U=>(∃v,e= .returned v)/\
   ((∃G,G=List.range 0/\J G U)\/(∃z,True/\Z z U)):=by
 have cs:W.cell? ⟨h,0,none⟩=some (.slice a 0 cap):=by rw[y.cell];rfl
 refine callsIn_of_wp func237 rfl trivial ?_ rfl;simp only[ntmps237,bH,bF,b9,Nat.reduceAdd,Nat.reduceSub,fk,fo,gG,fx,bT,fL]
 gi_wp2
 gi_loopw [4] (λi wr=>i= .int .i64 0/\wr=W) (λ_ _=>0)
 case atStart=>exact⟨rfl,rfl⟩
 case round=>
  obtain⟨rfl,rfl⟩:=hrel
  gi_wp2
  go_end0;exact⟨⟨_,rfl⟩,.inl ⟨_,rfl,V⟩⟩
theorem Ik (n:Nat)(hn:1<=n)(a:Option Addr)(len cap:Nat)(G:len<=10000)(U:len<=cap)(ha:len≠0->∃g off,a=some ⟨g,off,none⟩)(y z:Nat)(w:World)
  (Z:bf w y #[.slice a len cap] 32) (Ex:bf w z #[.int .i64 3] 3):
  SeqStopsK Fence.wide n prog 237 #[.pointer (some ⟨y,0,none⟩),.pointer (some ⟨z,0,none⟩)] (λx=> #[WZ a len x]) (KpC y z) (λys=>ys=List.range ((len+2)/3)) (λ_=>True) ((len+2)/3) w:=by
 intro l J Jx W hW hJ ac hY hj;have V:bf W y #[.slice a len cap] 32 :=(hW.block y Z.lt).trans Z;have aa:bf W z #[.int .i64 3] 3 :=(hW.block z Ex.lt).trans Ex;by_cases h:len=0
 ·subst h
  exact NP n l y z a cap J Jx W V hj
 ·obtain⟨g,off,rfl⟩:=ha h
  exact NN n l y z g off len cap hn G U J Jx _ hJ hY W V aa hj
end Go.Proofs.YtepbpdipenedhaaGreatDoor
namespace Go.Proofs.YtepbpdipenedhaaGreatDoor
open Go.Proofs.Tryz
open Go.RowKit
variable{a l:List Int}{T b c f g j k off t:Nat}{E:List (ByteArray×Int)}{w:World}{v:Value}{P:Program}{Z tmps:Array Value}{s:ByteArray}{y:Array Oper}{o:Oper}{Q:Exit->Act->World->Prop}{fn:Func}
def Ai (x:Int):Prop:=0<x/\x<256
instance (x:Int):Decidable (Ai x):=by unfold Ai;infer_instance
def jY (l:List Int) (j:Nat):Prop:=0<j/\j<13/\Ai (l.getD j 0)/\Ai (l.getD (j-1) 0)/\l.getD j 0=l.getD (j-1) 0+1
instance (l:List Int) (j:Nat):Decidable (jY l j):=by unfold jY;infer_instance
def mh (l:List Int):Nat->Nat->Nat
 |0,e=>e
 |f+1,e=>if jY l e then mh l f (e+1) else e
theorem Il (l:List Int)(j:Nat)(z:¬jY l j):∀(f e:Nat),e<=j->j-e<=f->(∀i,e<=i->i<j->jY l i)->mh l f e=j
 |0,e,h1,h2,_=>by unfold mh;omega
 |f+1,e,h1,h2,h3=>by
  unfold mh;by_cases h:e=j
  ·subst h;rw[aA z]
  ·rw[aB (h3 e (aG _) (by omega))]
   exact Il l j z f (e+1) (by omega) (by omega) λi G y=>h3 i (by omega) y
def tE (l:List Int) (k:Nat):Prop:=Ai (l.getD k 0)/\¬jY l k
instance (l:List Int) (k:Nat):Decidable (tE l k):=by unfold tE;infer_instance
def ov (l:List Int) (k:Nat):Nat:=mh l 13 (k+1)-k
def qC (k:Nat) (b:Int) (n:Nat):Int:=(k:Int)*4294967296+b*256+(n:Int)
def fc (l:List Int):Nat->List Int
 |0=>[]
 |k+1=>if tE l k then fc l k++[qC k (l.getD k 0) (ov l k)] else fc l k
def eO (l:List Int):List Int:=fc l 13
theorem kf (l:List Int):∀k,(fc l k).length<=k
 |0=>by simp[fc]
 |k+1=>by
  unfold fc;have :=kf l k;split
  ·rw[aD,iT];omega
  ·omega
theorem zD (l:List Int)(f:Nat):∀j,f<=j->(∀i,f<=i->i<j->jY l i)->fc l j=fc l f
 |0,h,_=>by have :f=0:=by omega
            subst this;rfl
 |j+1,h,hc=>by
  by_cases e:f=j+1
  ·subst e;rfl
  ·rw[fc,aA (λy=>y.2 (hc j (by omega) (by omega)))]
   exact zD l f j (by omega) λi z G=>hc i z (by omega)
theorem vP (U:tE l f)(z:f<j)(V:j<=13)(y:∀i,f<i->i<j->jY l i)(G:¬jY l j):fc l j=fc l f++[qC f (l.getD f 0) (j-f)]:=by
 rw[zD l (f+1) j (by omega) (λi J h=>y i (by omega) h),fc,aB U,ov,Il l j G 13 (f+1) (by omega) (by omega) λi J h=>y i (by omega) h]
theorem Im (h:¬Ai (l.getD f 0)):fc l (f+1)=fc l f:=by
 rw[fc,aA (λy=>h y.1)]
theorem U2 (y:∀i,f<i->i<j->jY l i):∀i,f<=i->i<j->l.getD i 0=l.getD f 0+((i-f:Nat):Int):=by
 intro i;induction i with
 |zero=>intro h _;have :f=0:=by omega
        subst this;simp
 |succ i ih=>
  intro G z;by_cases e:f=i+1
  ·subst e;simp
  ·have h:=(y (i+1) (by omega) z).2.2.2.2
   rw[fO] at h;rw[h,ih (by omega) (by omega)];omega
theorem ME (z:Ai (l.getD f 0))(h:∀i,f<i->i<j->jY l i)(i:Nat)(G:f<=i)(y:i<j):Ai (l.getD i 0):=by
 by_cases e:f=i
 ·subst e;exact z
 ·exact(h i (by omega) y).2.2.1
theorem Rs (G:Ai (l.getD f 0))(z:f<j)(y:∀i,f<i->i<j->jY l i):jY l j↔j<13/\Ai (l.getD j 0)/\l.getD j 0=l.getD (j-1) 0+1:=by
 unfold jY;exact⟨λh=>⟨h.2.1,h.2.2.1,h.2.2.2.2⟩,λh=>⟨by omega,h.1,h.2.1,ME G y _ (by omega) (by omega),h.2.2⟩⟩
end Go.Proofs.YtepbpdipenedhaaGreatDoor
