/- Lemmas. -/
import Derived.Test.YtimcfdnbpkiniaaGreatDoorM02
import Derived.Test.YtimcfdnbpkiniaaGreatDoorChecked
import Derived.Lib.BufferWrite
import Derived.Laws.IdiomStrings
import Derived.RangeFuncNested
import Derived.RangeFuncBound
import Derived.Shelf.Abstract
import Derived.Shelf.RegionOpen
import Derived.OwnWalkIn
import Derived.TacticsInMore
import Derived.LoopNIn
import Derived.LoopIn
import Derived.OrdersHeld
set_option maxHeartbeats 2000000
set_option maxRecDepth 100000
namespace Go.Proofs.YtimcfdnbpkiniaaGreatDoor
open Go.Proofs.Tryz
section
open Go.RowKit
variable{a l:List Int}{T b c f g j k off t:Nat}{Z tmps:Array Value}{v:Value}{w:World}{n:bS}{P:Program}{s:ByteArray}{z:Array Oper}{o:Oper}{Q:Exit->Act->World->Prop}{fn:Func}
theorem lS:(prog.info? 73).map (·.size)=some 13:=by kernel_rfl
theorem Sj:(prog.info? 249).map (·.size)=some 8:=by kernel_rfl
theorem iZ:(prog.info? 132).map (·.size)=some 8:=by kernel_rfl
theorem XE:(prog.info? 248).map (·.size)=some 13:=by kernel_rfl
theorem iV:(prog.info? 75).map (·.size)=some 18:=by kernel_rfl
theorem oG:(prog.info? 3).map (·.size)=some 1:=by kernel_rfl
theorem pd (w:World):(zeroValue 73).run prog w= .ok (.agg (zs (List.replicate 13 0)).toArray) w:=by kernel_rfl
theorem KM (w:World):(zeroValue 249).run prog w= .ok (.agg (zs (List.replicate 8 0)).toArray) w:=by kernel_rfl
theorem kV (w:World):(zeroValue 132).run prog w= .ok (.agg (aX (List.replicate 8 0)).toArray) w:=by kernel_rfl
theorem XF (w:World):(zeroValue 248).run prog w= .ok (.agg (aX (List.replicate 13 0)).toArray) w:=by kernel_rfl
def bY:bS:=⟨0,0,0,0,List.replicate 13 0,[]⟩
theorem dC (w:World):(zeroValue 75).run prog w= .ok (.agg (aL bY (.slice none 0 0))) w:=by kernel_rfl
theorem P6{b:List Int}(h:a.length=13)(z:b.length=13)(w:World):(Op.equalIn 10000 73 (.agg (zs a).toArray) (.agg (zs b).toArray)).run prog w= .ok (decide (a=b)) w:=
 qd w 9998 73 3 13 .i64 .i64 a b underlying73 underlying3 oG h z
theorem ac8{b:List Int}(h:a.length=8)(z:b.length=8)(w:World):(Op.equalIn 10000 249 (.agg (zs a).toArray) (.agg (zs b).toArray)).run prog w= .ok (decide (a=b)) w:=
 qd w 9998 249 3 8 .i64 .i64 a b underlying249 underlying3 oG h z
theorem ML{b:List Int}(h:a.length=8)(z:b.length=8)(w:World):(Op.equalIn 10000 132 (.agg (aX a).toArray) (.agg (aX b).toArray)).run prog w= .ok (decide (a=b)) w:=
 qd w 9998 132 70 8 .u64 .u64 a b underlying132 underlying70 qH h z
theorem Cs: prog.eqGuardType prog.depth 73 =false:=by kernel_rfl
theorem MM: prog.eqGuardType prog.depth 249 =false:=by kernel_rfl
theorem xK: prog.eqGuardType prog.depth 132 =false:=by kernel_rfl
theorem yL (h:k<13)(z:Z[k]? =some v)(w:World):(Instr.index 73 (.agg Z) (.int .i64 (k:Int))).run prog w= .ok v w:=
 lR 73 3 13 .i64 Z k v underlying73 underlying3 oG h z w
theorem XG (h:k<8)(z:Z[k]? =some v)(w:World):(Instr.index 249 (.agg Z) (.int .i64 (k:Int))).run prog w= .ok v w:=
 lR 249 3 8 .i64 Z k v underlying249 underlying3 oG h z w
theorem XH (h:k<8)(z:Z[k]? =some v)(w:World):(Instr.index 132 (.agg Z) (.int .i64 (k:Int))).run prog w= .ok v w:=
 lR 132 70 8 .u64 Z k v underlying132 underlying70 qH h z w
theorem TU (h:k<13)(z:Z[k]? =some v)(w:World):(Instr.index 248 (.agg Z) (.int .i64 (k:Int))).run prog w= .ok v w:=
 lR 248 70 13 .u64 Z k v underlying248 underlying70 qH h z w
theorem fy (J:bc w g Z T)(z:l.length=13)(G:∀k,k<13->Z[off+k]? =some (.int .i64 (l.getD k 0))):
  (loadVar 73 ⟨g,off,none⟩).run prog w= .ok (.agg (zs l).toArray) w:=
 bX g off (zs l) underlying73 rfl (by rw[eT,z];exact lS) λj h=>by
  rw[eT,z] at h;rw[J.cell,G j h,gI (by omega)]
theorem fN (h:bc w g (aX l).toArray T)(z:l.length=8):
  (loadVar 132 g).run prog w= .ok (.agg (aX l).toArray) w:=
 bX g 0 (aX l) underlying132 rfl (by rw[bA,z];exact iZ) λj _=>by
  rw[h.cell,bp,aG]
theorem XI (h:bc w g (aX l).toArray T)(z:l.length=13):
  (loadVar 248 g).run prog w= .ok (.agg (aX l).toArray) w:=
 bX g 0 (aX l) underlying248 rfl (by rw[bA,z];exact XE) λj _=>by
  rw[h.cell,bp,aG]
theorem Sk (J:bc w g Z T)(z:l.length=8)(G:∀k,k<8->Z[off+k]? =some (.int .i64 (l.getD k 0))):
  (loadVar 249 ⟨g,off,none⟩).run prog w= .ok (.agg (zs l).toArray) w:=
 bX g off (zs l) underlying249 rfl (by rw[eT,z];exact Sj) λj h=>by
  rw[eT,z] at h;rw[J.cell,G j h,gI (by omega)]
theorem bZ (h:bc w g (aL n v) T)(z:n.B.length=13):
  (loadVar 75 g).run prog w= .ok (.agg (aL n v)) w:=
 bX g 0 (mQ n v) underlying75 rfl (by rw[gJ,z];exact iV) λj _=>by
  rw[h.cell,bp,aL,aG]
theorem bE{ty:Nat}{cs:List Value}{h:Array Value}(G:(P.info? ty).map (·.size)=some cs.length)(J:bc w g h T)(U:h.size=cs.length)(z:∀v∈cs,v.oneCell'=true):
  ∃w',(storeVar ty ⟨g,0,none⟩ (.agg cs.toArray)).run P w= .ok () w'/\bc w' g cs.toArray T/\ay [g] w w':=by
 refine⟨_,jH g 0 cs h G J (by omega) z,?_,(ay.refl _ _).setRow (by simp) _⟩
 grind [dV,j4]
theorem kR (z:v.oneCell'=true):∀u∈mQ n v,u.oneCell'=true:=by
 intro u h;simp only[mQ,aM,aR,aK,bC] at h;rcases h with rfl|rfl|rfl|rfl|h|rfl
 all_goals first|rfl|exact z|exact nt _ u h
def pQ (l:List Nat):List Value:=l.map λc:Nat=>Value.int .u8 (c:Int)
theorem yM (l:List Nat):(pQ l).length=l.length:=by simp[pQ]
theorem A7{l:List Nat}(h:j<l.length):(pQ l)[j]? =some (.int .u8 (l.getD j 0:Nat)):=by simp[pQ,h]
theorem abj (l:List Nat):∀u∈pQ l,u.oneCell'=true:=by
 intro u h;simp only[pQ,bH] at h;obtain⟨x,-,rfl⟩:=h;rfl
theorem adK{α:Type}{l:List α}(h:l.length=8):∃U V z x3 G W J x7,l=[U,V,z,x3,G,W,J,x7]:=by
 match l,h with
 | [U,V,z,x3,G,W,J,x7],_=>exact⟨U,V,z,x3,G,W,J,x7,rfl⟩
theorem DK (l:List Nat)(h:l.length=8)(k:Nat)(hk:k<8)(w:World):(Instr.index 205 (.agg (pQ l).toArray) (.int .i64 (k:Int))).run prog w= .ok (.int .u8 (l.getD k 0:Nat)) w:=by
 obtain⟨V,W,G,x3,J,x5,U,x7,rfl⟩:=adK h;have z:k=0\/k=1\/k=2\/k=3\/k=4\/k=5\/k=6\/k=7:=by omega
 rcases z with rfl|rfl|rfl|rfl|rfl|rfl|rfl|rfl<;>(show Sem.run _ _ _=_;kernel_rfl)
theorem FH (n:Nat)(h:n<18446744073709551616):IntKind.u64.wrap (n:Int)=(n:Int):=by rw[fW];omega
theorem abk (k:Nat):2^(8*k)=256^k:=by rw[Nat.pow_mul]
theorem FI (J:c<256)(G:k<8):c*256^k<18446744073709551616:=by
 have h:256^k<=256^7:=jc (by decide) (by omega);have z:(256:Nat)^7=72057594037927936:=rfl;rw[z] at h;have :=Nat.mul_le_mul (show c<=255 by omega) h;omega
theorem abl (h:c<256)(z:k<8):IntKind.u64.wrap (IntKind.u64.wrap (c:Int)*2^(8*k))=((c*256^k:Nat):Int):=by
 rw[FH c (by omega),show(2:Int)^(8*k)=((256^k:Nat):Int) by rw[<-abk];simp,<-Int.natCast_mul,FH _ (FI h z)]
theorem abm{l:List Nat}(V:l.length=8)(U:∀c∈l,c<256){k:Nat}(G:k<8):
  bits .or .u64 ((l7 (l.take k):Nat):Int) (IntKind.u64.wrap (IntKind.u64.wrap ((l.getD k 0:Nat):Int)*2^(8*k)))=((l7 (l.take (k+1)):Nat):Int):=by
 have h:l.getD k 0<256:=by
  simp_all
 have z:=Fl (R7 U k);rw[aJ,cZ (by omega)] at z;have J:256^k<=256^7:=jc (by decide) (by omega);rw[show(256:Nat)^7=72057594037927936 from rfl] at J;rw[abl h G,u64_or_nat _ _ (by omega) (FI h G),Es l k (by omega),Nat.or_comm,nat_join (8*k) _ _ (by rw[abk];exact Nat.mul_mod_left _ _) (by rw[abk];exact z),Nat.add_comm]
theorem Sl (l:List Nat)(U:l.length=8)(hb:∀c∈l,c<256)(w:World):
  Calls prog 158 #[(pQ l).toArray] w λe w'=>e= .returned (.int .u64 (l7 l:Nat))/\ay [] w w':=by
 have W:=λk hk=>DK l U k hk
 have pN:∀G:World,(∀j,j<8->G.cell? ⟨w.heap.size,j,none⟩=(pQ l)[j]?)->(loadVar 205 w.heap.size).run prog G= .ok (.agg (pQ l).toArray) G:=λG hc=>
  bX w.heap.size 0 (pQ l) underlying205 rfl (by rw[yM,U];kernel_rfl) λj hj=>by
   grind [yM]
 obtain⟨V,J⟩:=hh2 (pN (w.alloc (.cells (pQ l).toArray 205)) λj hj=>by rw[(bc.new w (pQ l).toArray 205).cell];simp) W;clear pN W;go_in;go_wp2_with(with_reducible refine gL 205 V.out ?_);clear V;go_loop [3,7] (λs3 s7=>∃k:Nat,k<=8/\s7= .int .i64 (k:Int)/\s3= .int .u64 (l7 (l.take k):Nat)) (λ_ i=>8-(intOf i).toNat)
 case atStart=>exact⟨0,by omega,rfl,rfl⟩
 case round=>
  obtain⟨k,hk,rfl,rfl⟩:=hrel;by_cases z:k<8
  ·have hx:=J.out k z
   have h:(k:Int)<8:=by omega
   have HO:=ar (abm U hb z);generalize l.getD k 0=c at *;go_wp2_with fail
   go_round
   case rel=>
    refine⟨k+1,by omega,by go_num,?_⟩;rw[<-HO.out]
   case measure=>simp[intOf];omega
  ·have h:¬(k:Int)<8:=by omega
   obtain rfl:k=8:=by omega
   rw[aW (by omega)];go_wp2;go_ret;exact⟨rfl,(ay.refl _ _).alloc _⟩
theorem Tryz.info_bytes:(prog.info? 205).map (·.size)=some 8:=by kernel_rfl
def pV (W k:Nat):List Nat:=(List.range 8).map λj=>if j<k then rG W j else 0
theorem Jw (W:Nat):pV W 8=lO W:=by
 grind [pV,lO,dL]
theorem TV (W k:Nat)(h:k<8):(pQ (pV W k)).set k (.int .u8 (rG W k:Nat))=pQ (pV W (k+1)):=by
 apply cG
 grind [pQ,pV]
theorem uO (W k:Nat):(pV W k).length=8:=by simp[pV]
theorem abn (W k:Nat):(W:Int)/2^(8*k)%256=((rG W k:Nat):Int):=by
 rw[show(2:Int)^(8*k)=((256^k:Nat):Int) by rw[<-abk];simp];rfl
theorem FJ{l:List Nat}(z:l.length=8)(h:bc w b (pQ l).toArray 205):(loadVar 205 b).run prog w= .ok (.agg (pQ l).toArray) w:=
 bX b 0 (pQ l) underlying205 rfl (by rw[yM,z];exact Tryz.info_bytes) λj _=>by rw[h.cell];simp
theorem xL{l m:List Nat}(J:l.length=8)(z:m.length=8)(h:bc w b (pQ l).toArray 205):
  ∃w',(storeVar 205 b (.agg (pQ m).toArray)).run prog w= .ok () w'/\bc w' b (pQ m).toArray 205/\ay [b] w w':=by
 have G:=jH (P:= prog) (ty:= 205) b 0 (pQ m) _ (by rw[yM,z];exact Tryz.info_bytes) h (by simp[yM,J,z]) (abj m);refine⟨_,G,?_,(ay.refl _ _).setRow (by simp) _⟩
 grind [setRow_heap,bc,yM]
theorem Ab (W:Nat):(#[.int .u8 0,.int .u8 0,.int .u8 0,.int .u8 0,.int .u8 0,.int .u8 0,.int .u8 0,.int .u8 0]:Array Value)=(pQ (pV W 0)).toArray:=by
 simp[pQ,pV,List.range,List.range.loop]
theorem A8 (W:Nat)(w:World):
  Calls prog 154 #[.int .u64 (W:Int)] w λe w'=>e=(pQ (lO W)).toArray/\ay [] w w':=by
 go_in;go_wp2_with fail;go_loopg [5] 8 (λg s5 G=>∃k:Nat,k+g=8/\s5= .int .i64 (k:Int)/\Hid (bc G (w.heap.size+1) (pQ (pV W k)).toArray 205/\bc G w.heap.size (pQ (pV W 0)).toArray 205/\ay [] w G))
 case atStart=>
  refine⟨0,by omega,rfl,?_,?_,((ay.refl _ _).alloc _).alloc _⟩
  ·have :=bc.new (w.alloc (.cells (pQ (pV W 0)).toArray 205)) (pQ (pV W 0)).toArray 205
   simpa[Ab W] using this
  ·have :=(bc.new w (pQ (pV W 0)).toArray 205).alloc (.cells (pQ (pV W 0)).toArray 205)
   simpa[Ab W] using this
 case round=>
  obtain⟨k,rM,rfl,z⟩:=hrel;cases gk with
  |zero=>
   obtain rfl:k=8:=by omega
   have HL:=ar (FJ (uO W 8) z.out.1);obtain⟨w2,V,h,U⟩:=xL (uO W 0) (uO W 8) z.out.2.1;have J:=ar V;rw[Jw] at h;have HB:Hid (∀j,j<8->w2.cell? ⟨w.heap.size,j,none⟩=some (.int .u8 (rG W j:Nat))):=λj hj=>by
    rw[h.cell,<-uH W j hj]
    grind [A7,mr]
   have HK:=ar (z.out.2.2.trans U);clear V h U z;rw[Jw] at HL J;go_wp2_with(with_reducible first|refine gL 205 HL.out ?_|refine gS 205 J.out ?_);have h:=HB.out;exact aH (v:= .agg (pQ (lO W)).toArray) (by simp[results,results154,go_sem,h 0,h 1,h 2,h 3,h 4,h 5,h 6,h 7,pQ,lO,List.range,List.range.loop]) rfl ⟨rfl,HK.out⟩
  |succ g=>
   have aa:(k:Int)<8:=by omega
   have hc:wr.cell? ⟨w.heap.size+1,k,none⟩=some (.int .u8 ((pV W k).getD k 0:Nat)):=by
    rw[z.out.1.cell]
    grind [A7,uO]
   have hf:wr.frozen? ⟨w.heap.size+1,k,none⟩=false:=z.out.1.frozen _;generalize (pV W k).getD k 0=c at *;go_wp2;go_roundg g;case measure=>omega
   case rel=>
    refine⟨k+1,by omega,by go_num,?_⟩;rw[abn];refine⟨?_,z.out.2.1.other (by simp) _,z.out.2.2.setCell (.inr (by simp)) _⟩;have :=z.out.1.set k (.int .u8 (rG W k:Nat))
    grind [TV]
def bl (s:ByteArray):List Nat:=s.data.toList.map UInt8.toNat
theorem mh (s:ByteArray):(bl s).length=s.size:=by simp[bl]
theorem A9 (s:ByteArray):∀c∈bl s,c<256:=by
 intro c h;simp only[bl,bH] at h;obtain⟨x,-,rfl⟩:=h;exact x.toNat_lt
theorem adL (s:ByteArray)(k:Nat)(h:k<s.size):(bl s).getD k 0=s[k].toNat:=by
 simp[bl,h];rfl
theorem KN{t:ByteArray}(h:bl s=bl t):s=t:=by
 apply ByteArray.ext;apply Array.toList_inj.1;have :=List.map_inj_right (f:=UInt8.toNat) (λa b e=>UInt8.toNat_inj.1 e) |>.1 h;exact this
theorem MN (c:Nat)(w:World):Calls prog 203 #[.int .u8 (c:Int)] w λe w'=>e=(nO c:Bool)/\w=w':=by
 by_cases z:33<=c
 ·by_cases G:c<=126
  ·by_cases h:c=47
   ·subst h
    go_in;go_wp2;go_ret;exact⟨rfl,rfl⟩
   ·have e:nO c=true:=by simp[nO,z,G,h]
    have J:((c:Int) != 47)=true:=by simp;omega
    rw[e];clear e h;go_in;go_wp2;go_ret;exact⟨rfl,rfl⟩
  ·have e:nO c=false:=by simp[nO,G]
   rw[e];go_in;go_wp2;go_ret;exact⟨rfl,rfl⟩
 ·have e:nO c=false:=by simp[nO,z]
  rw[e];go_in;go_wp2;go_ret;exact⟨rfl,rfl⟩
theorem Iu (l:List Nat)(k:Nat)(h:k<l.length):(l.take (k+1)).all nO=((l.take k).all nO&&nO (l.getD k 0)):=by
 grind [bR]
theorem all_false{l:List Nat}(h:k<l.length)(z:nO (l.getD k 0)=false):l.all nO=false:=by
 grind
theorem XJ (z:s≠⟨#[46]⟩)(J:s≠⟨#[46,46]⟩)(h:1<=s.size)(U:s.size<=7):ig (bl s)=(bl s).all nO:=by
 have G:(bl s != [46])=true:=by
  simp only[bne_iff_ne,ne_eq];intro e;exact z (KN (t:=⟨#[46]⟩) e)
 have V:(bl s != [46,46])=true:=by
  simp only[bne_iff_ne,ne_eq];intro e;exact J (KN (t:=⟨#[46,46]⟩) e)
 simp[ig,mh,h,U,G,V]
theorem XK{l:List UInt8}(h:s≠⟨l.toArray⟩):(s.toList==l)=false:=by
 rw[jw];simp only[cg,ne_eq];intro e;apply h;apply ByteArray.ext;apply Array.toList_inj.1;rw[e]
theorem KO (s:ByteArray)(hs:s.size<=9223372036854775807)(w:World):Calls prog 176 #[.string s] w λe w'=>e=(ig (bl s):Bool)/\w=w':=by
 by_cases z:s=⟨#[46]⟩
 ·subst z
  go_in;go_wp2;go_ret;exact⟨rfl,rfl⟩
 by_cases G:s=⟨#[46,46]⟩
 ·subst G
  go_in;go_wp2;go_ret;exact⟨rfl,rfl⟩
 by_cases h1:1<=s.size
 ·by_cases h2:s.size<=7
  ·rw[XJ z G h1 h2]
   have q1:(s.toList == [46])=false:=XK (l:=[46]) z;have q2:(s.toList == [46,46])=false:=XK (l:=[46,46]) G;have q3:decide ((s.size:Int)<1)=false:=by simp;omega
   have q4:decide (7<(s.size:Int))=false:=by simp;omega
   clear z G;go_in;go_wp2;go_loop [22] (λi=>∃k:Nat,k<=s.size/\i= .int .i64 (k:Int)/\Hid (((bl s).take k).all nO=true)) (λi=>s.size-(intOf i).toNat)
   case atStart=>exact⟨0,fD _,rfl,rfl⟩
   case round=>
    obtain⟨k,hk,rfl,W⟩:=hrel;by_cases h:k<s.size
    ·have J:(k:Int)<(s.size:Int):=by omega
     obtain⟨U,HB,HT⟩:=hh3 (MN (s[k].toNat) w) (adL s k h) (Iu (bl s) k (by rw[mh];exact h));cases hb:nO s[k].toNat
     ·have V:=ar (all_false (l:=bl s) (k:=k) (by rw[mh];exact h) (by rw[HB.out];exact hb))
      rw[hb] at U;clear hb;go_wp2_with(go_at_call 203;refine C' U.out ?_);go_ret;exact⟨by rw[V.out];rfl,rfl⟩
     ·rw[hb] at U
      have V:=ar hb;clear hb;go_wp2_with(go_at_call 203;refine C' U.out ?_)
      go_round
      case rel=>exact⟨k+1,by omega,by go_num,by rw[HT.out,HB.out,V.out,W.out];rfl⟩
      case measure=>simp[intOf];omega
    ·obtain rfl:k=s.size:=by omega
     have J:¬(s.size:Int)<(s.size:Int):=by omega
     rw[aW (by rw[mh];exact aI _)] at W;go_wp2;go_ret;exact⟨by rw[W.out];rfl,rfl⟩
  ·have e:ig (bl s)=false:=by simp[ig,mh,h2]
   rw[e];clear e z G;go_in;go_wp2;go_ret;exact⟨rfl,rfl⟩
 ·have e:ig (bl s)=false:=by simp[ig,mh,h1]
  rw[e];clear e z G;go_in;go_wp2;go_ret;exact⟨rfl,rfl⟩
def xk (l:List Nat):ByteArray:=⟨(l.map UInt8.ofNat).toArray⟩
theorem Sm{l:List Nat}(h:∀c∈l,c<256):bl (xk l)=l:=by
 simp only[bl,xk,List.map_map]
 conv=>rhs;rw[<-List.map_id l]
 apply dL;intro c z;simp[Nat.mod_eq_of_lt (h c z)]
theorem ER (s:ByteArray):xk (bl s)=s:=KN (Sm (A9 s))
theorem Jy (l:List Nat):(xk l).size=l.length:=by simp[xk,ByteArray.size]
theorem Tryz.info_byte:(prog.info? 5).map (·.size)=some 1:=by kernel_rfl
def kS (l:List Nat):Nat:=if ig l=true then sH l else 0
theorem abo{l:List Nat}(h:l.length<=7):(pQ (l++List.replicate (8-l.length) 0)).set 7 (.int .u8 (l.length:Int))=pQ (Et l):=by
 have e:List.replicate (8-l.length) 0=List.replicate (7-l.length) 0++[0]:=by rw[show 8-l.length=7-l.length+1 by omega,List.replicate_succ']
 rw[e,<-aV,Et];generalize z:l++List.replicate (7-l.length) 0=A;have G:A.length=7:=by rw[<-z];simp;omega
 simp only[pQ,ez,List.map_cons,List.map_nil]
 simp_all
theorem copied(h:s.size<=7)(z:bc w b (pQ (List.replicate 8 0)).toArray 205):∃w',
  (Builtin.copy_ #[29,9] 3 #[.slice b 8 8,.string s]).run prog w= .ok (goInt s.size) w'/\bc w' b (pQ (bl s++List.replicate (8-s.size) 0)).toArray 205/\ay [b] w w':=by
 have G:=Lib.run_copy_row_string (P:= prog) w 29 9 3 5 b 0 8 8 s _ _ underlying29 Tryz.info_byte z (by omega) (by simp[pQ];omega);refine⟨_,G,?_,(ay.refl _ _).setRow (by simp) _⟩;unfold bc;rw[setRow_heap _ b _ _ _ _ z];have J:List.take 0 (pQ (List.replicate 8 0)).toArray.toList++Lib.byteCells s.data.toList++List.drop (0+s.size) (pQ (List.replicate 8 0)).toArray.toList=pQ (bl s++List.replicate (8-s.size) 0):=by
  have U:pQ (List.replicate 8 0)=List.replicate 8 (Value.int .u8 0):=by simp only[pQ,jP];rfl
  rw[U,bp,eW,bN,jy];simp only[pQ,bl,Lib.byteCells,ez,List.map_map,jP];rfl
 rw[J]
theorem KP (s:ByteArray)(hs:s.size<=9223372036854775807)(w:World):Calls prog 222 #[.string s] w λe w'=>e= .returned (.tuple #[.int .u64 (kS (bl s):Nat),(ig (bl s):Bool)])/\ay [] w w':=by
 have U:=ar (KO s hs w);unfold kS;cases hg:ig (bl s)
 ·rw[hg] at U
  clear hg;go_in;go_wp2_with(go_at_call 176;refine C' U.out ?_);go_ret2;exact⟨rfl,ay.refl _ _⟩
 ·rw[hg] at U
  rw[aB rfl];obtain⟨l1,l2⟩:=oz hg;rw[mh] at l1 l2;clear hg;obtain⟨W,V,J,hk⟩:=copied l2 (bc.new w (pQ (List.replicate 8 0)).toArray 205);have ac:W.cell? ⟨w.heap.size,7,none⟩=some (.int .u8 ((bl s++List.replicate (8-s.size) 0).getD 7 0:Nat)):=by
   rw[J.cell]
   grind [A7,mh]
  have aa:W.frozen? ⟨w.heap.size,7,none⟩=false:=J.frozen 7;have h:=J.set 7 (.int .u8 (s.size:Int));rw[ag,<-mh,abo (by rw[mh];exact l2),mh] at h;obtain⟨HL,HC,HK⟩:=hh3 (FJ (AL (by rw[mh];exact l2)) h) V ((((ay.refl [] w).alloc (.cells (pQ (List.replicate 8 0)).toArray 205)).trans hk).setCell (p:=⟨w.heap.size,7,none⟩) (.inr (aI _)) (.int .u8 (s.size:Int)));have G:=λwz=>Sl (Et (bl s)) (AL (by rw[mh];exact l2)) (Ky (by rw[mh];exact l2) (A9 s)) wz
  rw[zT (by rw[mh];exact l2)] at G;have G:=ar G;generalize (bl s++List.replicate (8-s.size) 0).getD 7 0=c at *;clear V J h hk;go_in;go_wp2_with(first|(go_at_call 176;refine C' U.out ?_)|((with_reducible show wpList _ _ _ (⟨some 10,_,_,_,_,_⟩::_) _ _);refine jm rfl (.tmp 8) (.tmp 9) 29 9 rfl _ _ rfl rfl HC.out ?_)|(with_reducible refine gL 205 HL.out ?_)|(go_at_call 158;refine Rr (G.out _) λw' z=> ?_;have qB:=ar z;clear z));go_ret2;exact⟨rfl,HK.out.trans qB.out⟩
def lh (l:List Int):Prop:=∀k,k<13->(0<=l.getD k 0/\l.getD k 0<256)/\(l.getD k 0≠0->∀j,j<k->l.getD j 0≠l.getD k 0)
instance (l:List Int):Decidable (lh l):=by unfold lh;infer_instance
def jn (l:List Int) (c:Nat):List Int:=l.take c++List.replicate (13-c) 0
theorem nI (h:l.length=13){c:Nat}(z:c<=13):(jn l c).length=13:=by simp[jn,h];omega
theorem qf (z:l.length=13){c:Nat}(h:c<=13)(k:Nat):(jn l c).getD k 0=if k<c then l.getD k 0 else 0:=by
 grind [jn]
def bj (n:Nat):Nat:=(n+3)/4
def bF (n:Nat):Nat:=(n+63)/64
def leB (a b:ByteArray):Bool:=Op.bytesLess a.toList b.toList||(a.toList==b.toList)
def qM (n:bS):Prop:=(0<=n.S/\n.S<=832)/\n.E.length=0/\n.B=jn n.B (bF n.S.toNat)/\lh n.B
def Ev (E:List (ByteArray×Int)) (k:Nat):Prop:=ig (bl (eY E k))=true/\(0<=jq E k/\jq E k<=31)/\(0<k->leB (eY E k) (eY E (k-1))=false)
def oW (n:bS):Prop:=n.E.length<=24/\n.S=n.E.length/\n.B=List.replicate 13 0/\∀k,k<n.E.length->Ev n.E k
def cm (n:bS):Prop:=(n.F=1\/n.F=2)/\(0<=n.L/\n.L<=65535)/\(n.K=1/\qM n\/n.K=2/\oW n)
instance (n:bS):Decidable (qM n):=by unfold qM;infer_instance
instance (E:List (ByteArray×Int)) (k:Nat):Decidable (Ev E k):=by unfold Ev;infer_instance
instance (n:bS):Decidable (oW n):=by unfold oW;infer_instance
instance (n:bS):Decidable (cm n):=by unfold cm;infer_instance
def sM (l:List Int) (k:Nat):List Bool:=(List.range 256).map λc=>decide (∃j,j<k/\l.getD j 0=((c:Nat):Int))
theorem yN (l:List Int)(k:Nat):(sM l k).length=256:=by rw[sM,b7,fK]
theorem TW (l:List Int)(k c:Nat)(h:c<256):(sM l k).getD c false=decide (∃j,j<k/\l.getD j 0=((c:Nat):Int)):=by
 grind [sM]
theorem FK (l:List Int):List.replicate 256 false=sM l 0:=by
 grind [cX,bJ,yN,sM]
theorem P7 (l:List Int)(k c:Nat)(h:l.getD k 0=((c:Nat):Int)):(sM l k).set c true=sM l (k+1):=by
 apply cX (by rw[dg,yN,yN]);intro j z G;rw[List.getElem_set];simp only[sM,iN,lv]
 grind
theorem eB{rest:List Oper}{a:Act}(U:Region.wanted o (yielded z a.tmps)=true)(ty:TypeId)(x:Operand)(ho:o.op= .load ty x)(G:Addr)
  (J:a.eval x= .pointer (some G)) (v:Value) (W:(loadVar ty G).run P w= .ok v w) (h:wpList P z Q rest (a.put o.dst v) w):wpList P z Q (o::rest) a w:=
 wpList_step λ_ V=>by
  rw[aB U];unfold Oper.wp execOp;simp only[ho,J,Instr.loadAt,Instr.sureAddr,ck,fQ,cN,W];exact V _ _ h
theorem mI{a:Act}{K:Act->World->Prop}{E:Prop}(G:o.guard=none)(ty:TypeId)(x:Operand)(ho:o.op= .load ty x)(J:Addr)
  (U:a.eval x= .pointer (some J)) (v:Value) (W:(loadVar ty J).run P w= .ok v w) (h:K (a.put o.dst v) w):if Region.wanted o (yielded z a.tmps)=true then Oper.wp P o a w K Q else E:=by
 have V:Region.wanted o (yielded z a.tmps)=true:=by simp[Region.wanted,G]
 rw[aB V];unfold Oper.wp execOp;simp only[ho,U,Instr.loadAt,Instr.sureAddr,ck,fQ,cN,W];exact h
theorem FL{ty:TypeId}{k:IntKind}(J:P.underlying ty=some (.int k))(U:bc w g Z T)(z:Z[off]? =some v):(loadVar ty ⟨g,off,none⟩).run P w= .ok v w:=by
 have h:(isAgg ty).run P w= .ok false w:=by
  unfold isAgg;rw[ck,dD J w];rfl
 have G:w.cell? ⟨g,off,none⟩=some v:=by rw[U.cell,z]
 simp[loadVar,h,G]
theorem vT (h:Addr)(w:World):(asAddr (.pointer (some h))).run P w= .ok h w:=rfl
theorem bu{a:Nat}{G:Addr}(h:fn.results= #[.cell a t])(z:tmps.getD a undef= .pointer (some G))(J:(loadVar t G).run P w= .ok v w):
  (results fn tmps).run P w= .ok v w:=by
 rw[fg] at z;unfold results;rw[h];simp[z,vT,J]
theorem cJ{a:Nat}{J:Addr}{x y:Value}(h:fn.results= #[.cell a t,.tmp b,.tmp c])(U:tmps.getD a undef= .pointer (some J))(V:(loadVar t J).run P w= .ok v w)
  (G:tmps.getD b undef=x) (z:tmps.getD c undef=y):(results fn tmps).run P w= .ok (.tuple #[v,x,y]) w:=by
 rw[fg] at U G z;unfold results;rw[h];simp[U,vT,V,G,z]
theorem Iw (b c:Nat)(z:c<13)(w:World):(Instr.sliceAt 73 (.pointer (some ⟨b,0,none⟩)) (some (.int .i64 (c:Int))) none none).run prog w= .ok (.slice (some ⟨b,c,none⟩) (13-c) (13-c)) w:=by
 have h:c=0\/c=1\/c=2\/c=3\/c=4\/c=5\/c=6\/c=7\/c=8\/c=9\/c=10\/c=11\/c=12:=by omega
 rcases h with rfl|rfl|rfl|rfl|rfl|rfl|rfl|rfl|rfl|rfl|rfl|rfl|rfl
 all_goals (show Sem.run _ _ _=_;kernel_rfl)
theorem FM (b:Nat)(w:World):∃off cap,(Instr.sliceAt 73 (.pointer (some ⟨b,0,none⟩)) (some (.int .i64 (13:Nat))) none none).run prog w= .ok (.slice (some ⟨b,off,none⟩) 0 cap) w:=
 ⟨0,0,by show Sem.run _ _ _=_;kernel_rfl⟩
theorem P8 (b c:Nat)(J:c<=13)(w:World):∃off cap,(Instr.sliceAt 73 (.pointer (some ⟨b,0,none⟩)) (some (.int .i64 (c:Int))) none none).run prog w= .ok (.slice (some ⟨b,off,none⟩) (13-c) cap) w/\(c<13->off=c):=by
 by_cases h:c<13
 ·exact⟨c,13-c,Iw b c h w,λ_=>rfl⟩
 ·obtain rfl:c=13:=by omega
  obtain⟨off,cap,z⟩:=FM b w;exact⟨off,cap,z,λG=>absurd G h⟩
theorem MO (b c:Nat)(z:c<=13)(w:World):(Instr.sliceAt 73 (.pointer (some ⟨b,0,none⟩)) none (some (.int .i64 (c:Int))) none).run prog w= .ok (.slice b c 13) w:=by
 have h:c=0\/c=1\/c=2\/c=3\/c=4\/c=5\/c=6\/c=7\/c=8\/c=9\/c=10\/c=11\/c=12\/c=13:=by omega
 rcases h with rfl|rfl|rfl|rfl|rfl|rfl|rfl|rfl|rfl|rfl|rfl|rfl|rfl|rfl
 all_goals (show Sem.run _ _ _=_;kernel_rfl)
theorem set_tail(l:List Int)(c:Nat)(z:l.length=13)(h:c<=13):((zs l).take c++zs (List.replicate (13-c) 0)++(zs l).drop (c+(zs (List.replicate (13-c) 0)).length)).toArray=(zs (jn l c)).toArray:=by
 grind [jn,zs]
theorem Iy (n:Nat):(Builtin.zeroCells (Value.int .i64 0).cells n).toList=zs (List.replicate n 0):=by
 have e:(Value.int IntKind.i64 0).cells= #[Value.int .i64 0]:=rfl;rw[e];apply cX
 ·simp[Builtin.zeroCells,zs]
 grind [Builtin.zeroCells,zs]
theorem P9{cap:Nat}(U:bc w b (zs l).toArray T)(V:l.length=13)(hc:c<=13)(W:c<13->off=c):∃w',(∀ty,(Builtin.clear_ #[76] ty #[.slice (some ⟨b,off,none⟩) (13-c) cap]).run prog w= .ok (.tuple #[]) w')/\bc w' b (zs (jn l c)).toArray T/\ay [b] w w':=by
 by_cases h:c<13
 ·obtain rfl:=W h
  have z:=run_storeCells_at prog b off T (zs (List.replicate (13-off) 0)) 0 (zs l).toArray w U (by simp[eT,V];omega) (nt _);refine⟨_,λty=> ?_,?_,(ay.refl _ _).setRow (g:=b) (by simp) ((zs l).take off++zs (List.replicate (13-off) 0)++(zs l).drop (off+(zs (List.replicate (13-off) 0)).length)).toArray⟩
  ·have J:(Builtin.zeroCells (Value.int .i64 0).cells (13-off)).toList=zs (List.replicate (13-off) 0):=Iy _
   have G:(zeroValue 3).run prog w= .ok (.int .i64 0) w:=by kernel_rfl
   obtain⟨m,hm⟩:∃m,13-off=m+1:=⟨12-off,by omega⟩;unfold Builtin.clear_;rw[hm] at J z ⊢;simp only[ck,dD underlying76,cN,aG,ju,G,J];simp only[dE] at z;rw[z];simp
  grind [set_tail,j4]
 ·obtain rfl:c=13:=by omega
  refine⟨w,λty=> ?_,?_,ay.refl _ _⟩
  ·unfold Builtin.clear_
   simp[dD underlying76]
  grind [jn]
end
section
open Go.RowKit Go.Shelf
variable{a l:List Int}{T b c f g j k off t:Nat}{Z tmps:Array Value}{v:Value}{w:World}{n:bS}{P:Program}{s:ByteArray}{z:Array Oper}{o:Oper}{Q:Exit->Act->World->Prop}{fn:Func}
attribute [local go_sem] jV
theorem XL (a:Option Addr)(len cap:Nat)(w:World):Calls prog 232 #[.slice a len cap,(3:Int)] w λe w'=>
  e= .returned (.func (.func 238) #[] #[w.heap.size,(w.heap.size+1:Nat)])/\
   w'=(w.alloc (.cells #[.slice a len cap] 30)).alloc (.cells #[(3:Int)] 3):=by
 have h:=bc.new (w.alloc (.cells #[.slice a len cap] 30)) #[(3:Int)] 3;have z:(w.alloc (.cells #[.slice a len cap] 30)).heap.size=w.heap.size+1:=by simp
 rw[z] at h;have G:((w.alloc (.cells #[.slice a len cap] 30)).alloc (.cells #[(3:Int)] 3)).cell? (w.heap.size+1:Nat)=some (.int .i64 3):=by rw[h.cell];rfl
 clear h;go_in;go_wp2;go_ret;exact⟨rfl,rfl⟩
def chV (a:Option Addr) (len x:Nat):Value:=
 match a with
 |some ⟨g,off,_⟩=> .slice (some ⟨g,off+x*3*2,none⟩) (min 3 (len-3*x)) (min 3 (len-3*x))
 |none=> .slice none 0 0
def KpC (h G:Nat) (W z:World):Prop:=z.heap[h]? =W.heap[h]? /\z.heap[G]? =W.heap[G]?
theorem TX (n l bs G g off len cap:Nat)(hn:1<=n)(av:len<=10000)(au:len<=cap)(J Jx:List Nat->World->Prop)(B:Nat)(hJ:AbidesFrom B J)
  (hY:∀h x W,J h W->h.length<(len+2)/3->YieldAt Fence.wide (n-1) prog l #[chV (some ⟨g,off,none⟩) len x] W λe W'=>
   (e=true/\J (h++[x]) W'/\KpC bs G W W')\/(e=false/\Jx (h++[x]) W'))
  (W:World) (V:bc W bs #[.slice (some ⟨g,off,none⟩) len cap] 30) (DL:bc W G #[(3:Int)] 3) (h0:J [] W):
  CallsIn Fence.wide n prog 238 #[.func (.yield l) #[] #[],bs,G] W λe W'=>(∃v,e=(v:Value))/\
   ((∃ys,ys=List.range ((len+2)/3)/\J ys W')\/(∃h,True/\Jx h W')):=by
 refine callsIn_of_wp func238 rfl trivial ?_ rfl;simp only[ntmps238,bP,cA,cD,Nat.reduceAdd,Nat.reduceSub,fX,fY,iA,gU,bN,iO]
 gi_wp2
 gi_loopw [4] (λi wr=>∃k:Nat,k<=(len+2)/3/\i= .int .i64 ((k*3:Nat):Int)/\J (List.range k) wr/\KpC bs G W wr)
  (λi _=>len+3-(intOf i).toNat)
 case atStart=>exact⟨0,fD _,rfl,h0,rfl,rfl⟩
 case round=>
  obtain⟨k,hk,rfl,z,af,ag⟩:=hrel;have cs:wr.cell? bs=some (.slice (some ⟨g,off,none⟩) len cap):=(aO (a:=⟨bs,0,none⟩) af).trans (by rw[V.cell];rfl);have cn:wr.cell? G=some (.int .i64 3):=(aO (a:=⟨G,0,none⟩) ag).trans (by rw[DL.cell];rfl);obtain⟨i,hi⟩:∃i:Nat,i=k*3:=⟨_,rfl⟩;rw[<-hi];by_cases aA:i<len
  ·have ah:J (List.range k) wr.drew:=hJ _ _ _ none z ⟨rfl,rfl,rfl,aI _,λ_ _ _=>rfl⟩ (λr e=>by cases e)
   obtain⟨fn,tmps,assign,body,hy,hR⟩:=hY _ k wr.drew ah (by rw[fK];omega);obtain⟨m,hm⟩:∃m:Nat,m=min 3 (len-i):=⟨_,rfl⟩;have hv:chV (some ⟨g,off,none⟩) len k= .slice (some ⟨g,off+i*2,none⟩) m m:=by
    show Value.slice (some ⟨g,off+k*3*2,none⟩) (min 3 (len-3*k)) (min 3 (len-3*k))=_;rw[hm,hi,Nat.mul_comm 3 k]
   rw[hv] at hy;clear hv hY V DL;have ae:(i:Int)<(len:Int):=by omega
   have aG:(0:Int)<=(i:Int):=by omega
   have aL:(i:Int)<=(len:Int):=by omega
   have Pw:cap≠i:=by omega
   have aP:(i:Int)<=((i+m:Nat):Int):=by omega
   have az:((i+m:Nat):Int)<=(cap:Int):=by omega
   have aJ:i+m≠i:=by omega
   have aK:i+m-i=m:=by omega
   have aF:wrap64 ((i:Int)+3)=(i:Int)+3:=by unfold wrap64;omega
   obtain⟨HI,ac⟩:=hh2 hi z;have mi:Hid (len+3-(i+3)<len+3-i/\k+1<=(len+2)/3):=by show _/\_;omega
   clear hk hJ z hi;obtain⟨y,aD,aB,ay,aN,ax⟩:∃y:Int,(i:Int)+(m:Int)=y/\wrap64 y=y/\(i:Int)<=y/\y<=(cap:Int)/\y.toNat=i+m:=⟨_,rfl,by unfold wrap64;omega,by omega,by omega,by omega⟩;obtain⟨r,hr⟩:∃r:Nat,r=len-i:=⟨_,rfl⟩;rw[<-hr] at hm;have ak:(len:Int)-(i:Int)=(r:Int):=by omega
   have U:((3:Int)<=(r:Int)/\m=3)\/(¬(3:Int)<=(r:Int)/\m=r):=by omega
   have ai:=hr.symm;clear hr hm;rcases U with ⟨U,rfl⟩|⟨U,rfl⟩
   all_goals
    gi_wp2
    gi_region
    all_goals try clear ai
    gi_wp2
    refine hR.mono ?_;rintro e W3 (⟨rfl,aj,aa⟩|⟨rfl,aC⟩)
    ·have aM:W3.cell? G=some (.int .i64 3):=(aO (w:=wr.drew) (a:=⟨G,0,none⟩) aa.2).trans cn
     gi_wp2
     go_roundw
     case rel=>exact⟨k+1,mi.out.2,by rw[HI.out];simp;omega,by rw[dQ];exact aj,aa.1.trans af,aa.2.trans ag⟩
     grind [intOf]
    ·gi_wp2
     refine aH (results_none rfl _ _ _) rfl ?_
     grind
  ·have ae:¬(i:Int)<(len:Int):=by omega
   obtain rfl:k=(len+2)/3:=by omega
   have ac:=ar z;clear hY V DL hi hk z hJ
   gi_wp2
   go_end0;exact⟨⟨_,rfl⟩,.inl ac.out⟩
theorem TY (n l G bn:Nat)(a:Option Addr)(cap:Nat)(J Jx:List Nat->World->Prop)(W:World)(z:bc W G #[.slice a 0 cap] 30)(h0:J [] W):
  CallsIn Fence.wide n prog 238 #[.func (.yield l) #[] #[],G,bn] W λe U=>(∃v,e=(v:Value))/\
   ((∃V,V=List.range 0/\J V U)\/(∃h,True/\Jx h U)):=by
 have cs:W.cell? G=some (.slice a 0 cap):=by rw[z.cell];rfl
 refine callsIn_of_wp func238 rfl trivial ?_ rfl;simp only[ntmps238,bP,cA,cD,Nat.reduceAdd,Nat.reduceSub,fX,fY,iA,gU,bN,iO]
 gi_wp2
 gi_loopw [4] (λi wr=>i= .int .i64 0/\wr=W) (λ_ _=>0)
 case atStart=>exact⟨rfl,rfl⟩
 case round=>
  obtain⟨rfl,rfl⟩:=hrel
  gi_wp2
  go_end0;exact⟨⟨_,rfl⟩,.inl ⟨_,rfl,h0⟩⟩
theorem MP (n:Nat)(hn:1<=n)(a:Option Addr)(len cap:Nat)(V:len<=10000)(U:len<=cap)(ha:len≠0->∃g off,a=some ⟨g,off,none⟩)(G z:Nat)(w:World)
  (aa:bc w G #[.slice a len cap] 30) (DL:bc w z #[(3:Int)] 3):
  SeqStopsK Fence.wide n prog 238 #[G,z] (λx=> #[chV a len x]) (KpC G z) (λys=>ys=List.range ((len+2)/3)) (λ_=>True) ((len+2)/3) w:=by
 intro l J Jx W hW hJ af hY hj;have ac:bc W G #[.slice a len cap] 30 :=(hW.block G aa.lt).trans aa;have ae:bc W z #[(3:Int)] 3 :=(hW.block z DL.lt).trans DL;by_cases h:len=0
 ·subst h
  exact TY n l G z a cap J Jx W ac hj
 ·obtain⟨g,off,rfl⟩:=ha h
  exact TX n l G z g off len cap hn V U J Jx _ hJ hY W ac ae hj
end
section
open Go.RowKit
variable{a l:List Int}{T b c f g j k off t:Nat}{Z tmps:Array Value}{v:Value}{w:World}{n:bS}{P:Program}{s:ByteArray}{z:Array Oper}{o:Oper}{Q:Exit->Act->World->Prop}{fn:Func}
def DN (x:Int):Prop:=0<x/\x<256
instance (x:Int):Decidable (DN x):=by unfold DN;infer_instance
def lT (l:List Int) (j:Nat):Prop:=0<j/\j<13/\DN (l.getD j 0)/\DN (l.getD (j-1) 0)/\l.getD j 0=l.getD (j-1) 0+1
instance (l:List Int) (j:Nat):Decidable (lT l j):=by unfold lT;infer_instance
def oH (l:List Int):Nat->Nat->Nat
 |0,e=>e
 |f+1,e=>if lT l e then oH l f (e+1) else e
theorem MQ (l:List Int)(j:Nat)(G:¬lT l j):∀(f e:Nat),e<=j->j-e<=f->(∀i,e<=i->i<j->lT l i)->oH l f e=j
 |0,e,h1,h2,_=>by unfold oH;omega
 |f+1,e,h1,h2,h3=>by
  unfold oH;by_cases h:e=j
  ·subst h;rw[aA G]
  ·rw[aB (h3 e (aI _) (by omega))]
   exact MQ l j G f (e+1) (by omega) (by omega) λi J z=>h3 i (by omega) z
def sO (l:List Int) (k:Nat):Prop:=DN (l.getD k 0)/\¬lT l k
instance (l:List Int) (k:Nat):Decidable (sO l k):=by unfold sO;infer_instance
def rI (l:List Int) (k:Nat):Nat:=oH l 13 (k+1)-k
def zq (k:Nat) (b:Int) (n:Nat):Int:=(k:Int)*4294967296+b*256+(n:Int)
def gy (l:List Int):Nat->List Int
 |0=>[]
 |k+1=>if sO l k then gy l k++[zq k (l.getD k 0) (rI l k)] else gy l k
def fu (l:List Int):List Int:=gy l 13
theorem mj (l:List Int):∀k,(gy l k).length<=k
 |0=>by simp[gy]
 |k+1=>by
  unfold gy;have :=mj l k
  grind
theorem DR (l:List Int)(f:Nat):∀j,f<=j->(∀i,f<=i->i<j->lT l i)->gy l j=gy l f
 |0,h,_=>by simp_all
 |j+1,h,hc=>by
  by_cases e:f=j+1
  ·subst e;rfl
  ·rw[gy,aA (λG=>G.2 (hc j (by omega) (by omega)))]
   exact DR l f j (by omega) λi z J=>hc i z (by omega)
theorem Qa (J:sO l f)(U:f<j)(W:j<=13)(z:∀i,f<i->i<j->lT l i)(V:¬lT l j):gy l j=gy l f++[zq f (l.getD f 0) (j-f)]:=by
 rw[DR l (f+1) j (by omega) (λi G h=>z i (by omega) h),gy,aB J,rI,MQ l j V 13 (f+1) (by omega) (by omega) λi G h=>z i (by omega) h]
theorem MR (h:¬DN (l.getD f 0)):gy l (f+1)=gy l f:=by
 rw[gy,aA (λz=>h z.1)]
theorem abp (z:∀i,f<i->i<j->lT l i):∀i,f<=i->i<j->l.getD i 0=l.getD f 0+((i-f:Nat):Int):=by
 intro i;induction i with
 |zero=>simp_all
 |succ i ih=>
  intro J G;by_cases e:f=i+1
  ·subst e;simp
  ·have h:=(z (i+1) (by omega) G).2.2.2.2
   grind
theorem Sn (h:DN (l.getD f 0))(z:∀i,f<i->i<j->lT l i)(i:Nat)(J:f<=i)(G:i<j):DN (l.getD i 0):=by
 by_cases e:f=i
 ·subst e;exact h
 ·exact(z i (by omega) G).2.2.1
theorem XM (z:DN (l.getD f 0))(J:f<j)(G:∀i,f<i->i<j->lT l i):lT l j↔j<13/\DN (l.getD j 0)/\l.getD j 0=l.getD (j-1) 0+1:=by
 unfold lT;exact⟨λh=>⟨h.2.1,h.2.2.1,h.2.2.2.2⟩,λh=>⟨by omega,h.1,h.2.1,Sn z G _ (by omega) (by omega),h.2.2⟩⟩
end
section
variable{a l:List Int}{T b c f g j k t:Nat}{Z tmps:Array Value}{v:Value}{w:World}{n:bS}{P:Program}{s:ByteArray}{z:Array Oper}{o:Oper}{Q:Exit->Act->World->Prop}{fn:Func}
section
variable {P:Program} {ops:Array Oper} {Q:Exit->Act->World->Prop} {md:Region.Mode} {S:World->Prop}
def Steps (P:Program) (S:World->Prop) (v:Value):Result Next->Prop
 | .ok (.value u) w'=>u=v/\S w'
 | .ok .skip w'=>v=undef/\S w'
 | .ok (.enter f args) w'=>Calls P f args w' λe h=>e=v/\S h
 |_=>False
def bG (P:Program) (ops:Array Oper) (S:World->Prop) (o:Oper) (v:Value) (a:Act):Prop:=
 (Region.wanted o (yielded ops a.tmps)=true/\∀w,S w->Steps P S v ((execOp a.eval o).run P w))\/(Region.wanted o (yielded ops a.tmps)=false/\v=undef)
theorem bG.of_same{o:Oper}{v:Value}{a h:Act}(z:bG P ops S o v a)(G:execOp h.eval o=execOp a.eval o)
  (J:Region.wanted o (yielded ops h.tmps)=Region.wanted o (yielded ops a.tmps)):bG P ops S o v h:=by
 unfold bG at *;rw[G,J];exact z
theorem bG.wpOp{i:Nat}{o:Oper}{v:Value}{a:Act}(hi:ops[i]? =some o)(hy:bG P ops S o v a){K:Act->World->Prop}{w:World}(U:S w)(h:∀w',S w'->K (a.put o.dst v) w'):wpOp P ops Q i K a w:=by
 unfold Go.wpOp;simp only[hi];rcases hy with ⟨J,V⟩|⟨J,rfl⟩
 ·have z:=V w U
  simp only[J,if_true];refine .inl ?_;unfold Oper.wp;generalize (execOp a.eval o).run P w=r at *;cases r with
  |ok n w'=>
   cases n with
   |value u=>obtain⟨rfl,G⟩:=z;exact h _ G
   |skip=>obtain⟨rfl,G⟩:=z;exact h _ G
   |enter f args=>
    refine Calls.mono z λe aa W=> ?_
    obtain⟨rfl,G⟩:=W;exact h _ G
   |_=>exact z.elim
  |halt x w'=>exact z.elim
 ·simp only[J,Bool.false_eq_true,if_false];exact h _ U
def Jz (P:Program) (ops:Array Oper) (S h:World->Prop) (o:Oper) (v:Value) (a:Act):Prop:=
 Region.wanted o (yielded ops a.tmps)=true/\∀w,S w->Steps P h v ((execOp a.eval o).run P w)
theorem Jz.wpOp{S J:World->Prop}{i:Nat}{o:Oper}{v:Value}{a:Act}(hi:ops[i]? =some o)(hy:Jz P ops S J o v a){K:Act->World->Prop}{w:World}(U:S w)(h:∀w',J w'->K (a.put o.dst v) w'):wpOp P ops Q i K a w:=by
 unfold Go.wpOp;simp only[hi];obtain⟨V,W⟩:=hy;have z:=W w U;simp only[V,if_true];refine .inl ?_;unfold Oper.wp;generalize (execOp a.eval o).run P w=r at *;cases r with
 |ok n w'=>
  cases n with
  |value u=>obtain⟨rfl,G⟩:=z;exact h _ G
  |skip=>obtain⟨rfl,G⟩:=z;exact h _ G
  |enter f args=>
   refine Calls.mono z λe aa he=> ?_
   obtain⟨rfl,G⟩:=he;exact h _ G
  |_=>exact z.elim
 |halt x w'=>exact z.elim
def FN {ι:Type} (P:Program) (ops:Array Oper) (S:ι->World->Prop) (o:Oper) (v:Value) (a:Act):Prop:=∀b,bG P ops (S b) o v a
theorem Ba {ι:Type}{S:ι->World->Prop}{j:Nat}{z J:Oper}{v:Value}(hj:ops[j]? =some J)(ae:z.apart ops J=true)
  (af:∀cs b,z.op≠.select cs b) (aa:∀cs b,J.op≠.select cs b)
  (hQ:∀c a w,Q (.panic c) (a.put z.dst v) w->Q (.panic c) a w) {K:Act->World->Prop} {a:Act} {w:World}
  (U:FN P ops S z v a) (h:wpOp P ops Q j K (a.put z.dst v) w):
  wpOp P ops Q j (λa' w'=>FN P ops S z v a'/\K (a'.put z.dst v) w') a w:=by
 obtain⟨h1,V,h3⟩:=Oper.apart_spec ae;have keep:∀(a:Act),FN P ops S z v a->∀u,FN P ops S z v (a.put J.dst u):=λa U u=>
  λb=>(U b).of_same (execOp_put z af a J.dst u h3) (wanted_put z a J.dst u h3)
 have ah:∀d,FN P ops S z v { a with defers:=d::a.defers }:=λd=>λb=>(U b).of_same rfl rfl
 unfold Go.wpOp at *;simp only[hj] at *;rw[wanted_put J a z.dst v h1] at h;split
 ·rename_i hw
  simp only[hw,if_true] at h;rcases h with h|⟨G,ac⟩
  case inr=>exact .inr ⟨by unfold Oper.asks at *;rw[execOp_put J aa a z.dst v h1] at G;exact G,ac⟩
  refine .inl ?_;unfold Oper.wp at *;rw[execOp_put J aa a z.dst v h1] at h;generalize (execOp a.eval J).run P w=r at *;cases r with
  |ok n w'=>
   cases n<;>simp only[Oper.upon] at h ⊢
   case value u=>exact⟨keep a U u,by rw[<-Act.put_comm a v u V];exact h⟩
   case skip=>exact⟨keep a U _,by rw[<-Act.put_comm a v undef V];exact h⟩
   case defer d=>
    refine⟨keep _ (ah d) _,?_⟩;rw[<-Act.put_comm _ v undef V,<-Act.put_defers];exact h
   case enter f args=>
    refine Calls.mono h λe ag W=> ?_
    cases e with
    |returned u=>exact⟨keep a U u,by rw[<-Act.put_comm a v u V];exact W⟩
    |panicked c=>exact hQ _ _ _ W
    |outgrown=>exact W
   case row row args=>exact Rows.mono h λu ag W=>⟨keep a U u,by rw[<-Act.put_comm a v u V];exact W⟩
  |halt x w'=>
   cases x<;>simp only[Oper.upon] at h ⊢
   case panic u=>exact hQ _ _ _ h
 ·rename_i hw
  simp only[hw] at h;exact⟨keep a U _,by rw[<-Act.put_comm a v undef V];exact h⟩
def uA (md:Region.Mode) (ops:Array Oper) (h:Array Bool):Prop:=
 ∀k o,ops[k]? =some o->h.getD k true=true->∀e∈o.after,Region.binds md e=true->h.getD e.on false=true
def leads (md:Region.Mode) (ops:Array Oper):Nat->Nat->Nat->Bool
 |0,_,_=>false
 |fuel+1,i,L=>(List.range ops.size).any λk=>k != i&&((ops[k]?).map (·.after.any λe=>Region.binds md e&&e.on==i)).getD false&&(k==L||leads md ops fuel k L)
theorem Ct {z:Array Bool}{i:Nat}(h:z.getD i true=false):z.getD i false=false:=by
 rcases dF i z.size with G|G
 ·simp[G] at h ⊢;exact h
 ·simp[Array.getElem?_eq_none G] at h
theorem DT {z:Array Bool}(hc:uA md ops z):∀(fuel i L:Nat),leads md ops fuel i L=true->z.getD i true=false->L∉Region.ready md ops z:=by
 intro fuel;induction fuel with
 |zero=>intro i L h;simp[leads] at h
 |succ fuel ih=>
  intro i L h hi;unfold leads at h;rw[List.any_eq_true] at h;obtain⟨k,-,hk⟩:=h;simp only[fF,Bool.or_eq_true,bne_iff_ne,ne_eq] at hk;obtain⟨⟨-,W⟩,G⟩:=hk;cases ho:ops[k]? with
  |none=>simp[ho] at W
  |some o=>
   have ae:o.after.any (λe=>Region.binds md e&&e.on==i)=true:=by simpa[ho] using W
   obtain⟨e,he,U⟩:=Array.any_eq_true'.1 ae;simp only[fF,beq_iff_eq] at U;obtain⟨hb,xm⟩:=U;have J:z.getD e.on false=false:=by rw[xm];exact Ct hi
   by_cases aa:k=L
   ·subst aa
    intro hm;obtain⟨-,o',ac,V⟩:=mem_ready.1 hm;rw[ho] at ac;cases ac;rw[V e he hb] at J;cases J
   ·rcases G with G|G
    ·exact absurd (by simpa using G) aa
    ·refine ih k L G ?_
     cases hl:z.getD k true with
     |false=>rfl
     |true=>
      rw[hc k o ho hl e he hb] at J;cases J
theorem vU {h:Array Bool}{j:Nat}(hc:uA md ops h)(hj:j∈Region.ready md ops h):uA md ops (h.setIfInBounds j true):=by
 intro k o W hl e U V;by_cases G:j=k
 ·subst G
  obtain⟨-,o',J,z⟩:=mem_ready.1 hj;rw[W] at J;cases J;exact getD_set_true (z e U V)
 ·rw[Go.getD_set_ne true G] at hl
  exact getD_set_true (hc k o W hl e U V)
def xM (P:Program) (md:Region.Mode) (ops:Array Oper) (Q:Exit->Act->World->Prop) (S:Bool->World->Prop) (F L:Nat):Nat->Array Bool->Act->Prop
 |0,listed,a=>Region.ready md ops listed=[]/\∀w,S (listed.getD F false) w->Q .normal a w
 |fuel+1,listed,a=>
  (Region.ready md ops listed=[]->∀w,S (listed.getD F false) w->Q .normal a w)/\
  (∀i∈Region.ready md ops listed,i≠L->∀w,S (listed.getD F false) w->wpOp P ops Q i (λh w'=>S ((listed.setIfInBounds i true).getD F false) w'/\xM P md ops Q S F L fuel (listed.setIfInBounds i true) h) a w)/\
  (L∈Region.ready md ops listed->∀w,S (listed.getD F false) w->wpOp P ops Q L (wpAny P md ops Q fuel (listed.setIfInBounds L true)) a w)
theorem oo {S:Bool->World->Prop}{F L:Nat}:∀(fuel:Nat) (z:Array Bool) (a:Act),xM P md ops Q S F L fuel z a->∀w,S (z.getD F false) w->wpAny P md ops Q fuel z a w
 |0,_,_,h,w,hS=>⟨h.1,h.2 w hS⟩
 |fuel+1,z,a,h,w,hS=>by
  refine⟨λW=>h.1 W w hS,λi U=> ?_⟩;by_cases G:i=L
  ·subst G
   exact h.2.2 U w hS
  ·exact wpOp_mono (λV w' J=>oo fuel _ V J.2 w' J.1) (h.2.1 i U G w hS)
theorem pg {z:Array Bool}{i j:Nat}(h:i≠j):(z.setIfInBounds i true).getD j false=z.getD j false:=by
 simp[Array.getElem?_setIfInBounds_ne h]
theorem KQ {S:Bool->World->Prop}{i F L:Nat}{W:Oper}{v:Value}(hi:ops[i]? =some W)(ak:i≠L)(U:i≠F)(XN:∀(j:Nat) (o:Oper) cs b,ops[j]? =some o->o.op≠.select cs b)
  (hQ:∀c a w,Q (.panic c) (a.put W.dst v) w->Q (.panic c) a w) (hL:L≥ops.size\/leads md ops ops.size i L=true):
  ∀(fuel:Nat) (z:Array Bool) (a:Act),uA md ops z->
   (∀j oj,ops[j]? =some oj->j≠i->z.getD j true=false->(∀e∈oj.after,Region.binds md e=true->e.on≠i)->W.apart ops oj=true)->
   i∈Region.ready md ops z->FN P ops S W v a->
   xM P md ops Q S F L fuel (z.setIfInBounds i true) (a.put W.dst v)->xM P md ops Q S F L (fuel+1) z a:=by
 have ag:∀z:Array Bool,uA md ops z->i∈Region.ready md ops z->L∉Region.ready md ops z:=by
  intro z hc J hm;rcases hL with hL|hL
  ·obtain⟨-,o,ho,-⟩:=mem_ready.1 hm
   rw[Array.getElem?_eq_none hL] at ho;cases ho
  ·exact DT hc _ i L hL (mem_ready.1 J).1 hm
 intro fuel;induction fuel with
 |zero=>
  intro z a hc _ J hy H;refine⟨λh=>(by rw[h] at J;cases J),λj hj _ w hS=> ?_,λhm=>absurd hm (ag z hc J)⟩;by_cases V:j=i
  ·subst V;exact(hy _).wpOp hi hS λw' WR=>⟨by rw[pg U];exact WR,H⟩
  ·have :=ready_mono hj V
   rw[H.1] at this;cases this
 |succ fuel ih=>
  intro z a hc G J hy H;refine⟨λh=>(by rw[h] at J;cases J),λj hj aj w hS=> ?_,λhm=>absurd hm (ag z hc J)⟩;by_cases V:j=i
  ·subst V;exact(hy _).wpOp hi hS λw' WR=>⟨by rw[pg U];exact WR,H⟩
  ·have h1:=H.2.1 j (ready_mono hj V) aj w (by rw[pg U];exact hS)
   obtain⟨XO,oj,aa,ae⟩:=mem_ready.1 hj;have XP:∀e∈oj.after,Region.binds md e=true->e.on≠i:=λe he hb ai=>by
    have h1:=ae e he hb;have h0:=(mem_ready.1 J).1;rw[ai] at h1;rw[Ct h0] at h1;cases h1
   have h2:=Ba aa (G j oj aa V XO XP) (λcs b=>XN i W cs b hi) (λcs b=>XN j oj cs b aa) hQ hy h1;have Qb:∀k ok,ops[k]? =some ok->k≠i->(z.setIfInBounds j true).getD k true=false->
     (∀e∈ok.after,Region.binds md e=true->e.on≠i)->W.apart ops ok=true:=λk ok hk xa af ah=>by
    refine G k ok hk xa ?_ ah;by_cases ac:j=k
    ·subst ac;exact XO
    ·rw[Go.getD_set_ne true ac] at af;exact af
   refine wpOp_mono (λa' w' h3=> ?_) h2;obtain⟨h4,h5,h6⟩:=h3;rw[Array.setIfInBounds_comm _ _ (cV V)] at h6;rw[Array.setIfInBounds_comm _ _ (cV V),pg U] at h5;exact⟨h5,ih (z.setIfInBounds j true) a' (vU hc hj) Qb (ready_mono J (cV V)) h4 h6⟩
def dG (n i:Nat):Array Bool:=((List.range n).map λk=>decide (k<i)).toArray
theorem nJ (n i:Nat):(dG n i).setIfInBounds i true=dG n (i+1):=by
 apply Array.ext
 ·simp[dG]
 ·intro k z J
  simp only[dG,ag,fZ,List.getElem_set,iN,lv];by_cases h:i=k
  ·subst h;simp
  ·rw[aA h]
   exact decide_eq_decide.2 ⟨λh=>by omega,λG=>by omega⟩
theorem kF (n:Nat):dG n 0=Array.replicate n false:=by
 apply Array.ext
 ·simp[dG]
 ·intro k h z
  simp[dG]
def xb (md:Region.Mode) (ops:Array Oper) (m L:Nat):Bool:=
 Region.noSelect ops&&(List.range m).all λi=>Region.free md ops (dG ops.size i) i&&(Region.ready md ops (dG ops.size i)).contains i&&(decide (ops.size<=L)||leads md ops ops.size i L)
theorem TZ {m L:Nat}(h:xb md ops m L=true):∀i,i<=m->uA md ops (dG ops.size i):=by
 intro i;induction i with
 |zero=>
  intro _ k o J z;rw[kF] at z;have G:k<ops.size:=(Array.getElem?_eq_some_iff.1 J).1;simp[G] at z
 |succ i ih=>
  intro U;rw[<-nJ];simp only[xb,fF,iM,cu] at h;exact vU (ih (by omega)) (by simpa using (h.2 i (by omega)).1.2)
def aS (P:Program) (ops:Array Oper) (S:World->Prop) (E:Act->World->Prop):List Oper->Act->Prop
 | [],a=>∀w,S w->E a w
 |o::rest,a=>∃v,bG P ops S o v a/\aS P ops S E rest (a.put o.dst v)
def jW (P:Program) (ops:Array Oper) (S:Bool->World->Prop) (E:Act->Prop):List Oper->Act->Prop
 | [],a=>E a
 |o::rest,a=>∃v,FN P ops S o v a/\jW P ops S E rest (a.put o.dst v)
theorem aS.toB{E:Act->World->Prop}:∀(l:List Oper) (a:Act),aS P ops S E l a->jW P ops (λ_=>S) (λa=>∀w,S w->E a w) l a
 | [],_,h=>h
 |_::l,_,⟨v,h1,h2⟩=>⟨v,λ_=>h1,aS.toB l _ h2⟩
theorem JA {S:Bool->World->Prop}{m F L:Nat}(ht:xb md ops m L=true)(ac:m<=L)(aa:m<=F)(hQ:∀d v c a w,Q (.panic c) (Act.put a d v) w->Q (.panic c) a w){E:Act->Prop}
  (J:∀a,E a->xM P md ops Q S F L (ops.size-m) (dG ops.size m) a):
  ∀(l:List Oper) (i:Nat) (a:Act),i+l.length=m->m<=ops.size->(∀k,k<l.length->ops[i+k]? =l[k]?)->jW P ops S E l a->xM P md ops Q S F L (ops.size-i) (dG ops.size i) a:=by
 have G:=ht;simp only[xb,fF,iM,cu] at G;intro l;induction l with
 |nil=>
  intro i a U hm _ h;obtain rfl:i=m:=by simpa using U
  exact J a h
 |cons o rest ih=>
  intro i a U hm W h;rw[cA] at U;obtain⟨v,hv,hr⟩:=h;have ho:ops[i]? =some o:=by simpa using W 0 (by simp)
  obtain⟨⟨c1,c2⟩,V⟩:=G.2 i (by omega);have z:=ih (i+1) (a.put o.dst v) (by omega) hm (λk hk=>by
   have :=W (k+1) (by simpa using hk);rw[show i+1+k=i+(k+1) by omega,this];simp) hr
  rw[<-nJ] at z;rw[show ops.size-i=(ops.size-(i+1))+1 by omega];refine KQ ho (by omega) (by omega) (Region.noSelect_spec G.1) (hQ o.dst v) ?_ _ _ a (TZ ht i (by omega)) (Region.free_spec ho c1) (by simpa using c2) hv z;simp only[Bool.or_eq_true,decide_eq_true_eq] at V;exact V
theorem FO {G:Nat}{a:Act}{w:World}(W:P.follows .mixedOrders=true)(V:xb .any ops ops.size ops.size=true)(U:∀d v c a w,Q (.panic c) (Act.put a d v) w->Q (.panic c) a w)(z:S w.drew)
  (J:Region.ready .any ops (dG ops.size ops.size)=[]) (h:aS P ops S (Q .normal) ops.toList a):(Code.region G ops true).wp P Q a w:=by
 refine wp_region_any W ?_;rw[<-kF];refine oo (S:=λ_=>S) (F:=ops.size) (L:=ops.size) _ _ _ ?_ _ z;refine JA (m:=ops.size) V (aI _) (aI _) U (E:=λa=>∀w,S w->Q .normal a w) (λa h=> ?_) ops.toList 0 a (by simp) (aI _) (λk hk=>by simp) (aS.toB _ _ h);rw[ja];exact⟨J,h⟩
theorem iW {G:Nat}{a:Act}{w:World}(z:S w.drew)(h:aS P ops S (Q .normal) ops.toList a)(W:P.follows .mixedOrders=true:=by kernel_rfl)(V:xb .any ops ops.size ops.size=true:=by kernel_rfl)
  (J:Region.ready .any ops (dG ops.size ops.size)=[]:=by kernel_rfl) (U:∀d v c a w,Q (.panic c) (Act.put a d v) w->Q (.panic c) a w:=by intro d _ _ _ _ h;cases d<;>exact h):(Code.region G ops true).wp P Q a w:=FO W V U z J h
theorem FP:∀(l:List Oper) (i:Nat) (a:Act) (w:World),i+l.length=ops.size->(∀k,k<l.length->ops[i+k]? =l[k]?)->(∀j,i<=j->j<ops.size->Region.ready md ops (dG ops.size j)=[j])->
  Region.ready md ops (dG ops.size ops.size)=[]->wpList P ops Q l a w->wpAny P md ops Q (ops.size-i) (dG ops.size i) a w:=by
 intro l;induction l with
 |nil=>
  intro i a w J _ _ G h;obtain rfl:i=ops.size:=by simpa using J
  rw[ja];exact⟨G,h⟩
 |cons o rest ih=>
  intro i a w J V lj G h;rw[cA] at J;have ho:ops[i]? =some o:=by simpa using V 0 (by simp)
  have U:=lj i (aI _) (by omega);rw[show ops.size-i=(ops.size-(i+1))+1 by omega];refine⟨λh0=>(by rw[U] at h0;cases h0),λj W=> ?_⟩;rw[U,au] at W;subst W;rw[nJ];have h2:wpOp P ops Q j (wpList P ops Q rest) a w:=by
   unfold Go.wpOp;simp only[ho];unfold wpList at h;exact h
  refine wpOp_mono (λa' w' h'=>ih (j+1) a' w' (by omega) (λk hk=> ?_) (λi hi z=>lj i (by omega) z) G h') h2;have :=V (k+1) (by simpa using hk);rw[show j+1+k=j+(k+1) by omega,this];simp
theorem vV {m r:Nat}(h:((List.range r).all λk=>Region.ready md ops (dG ops.size (m+k)) == [m+k])=true):∀j,m<=j->j<m+r->Region.ready md ops (dG ops.size j)=[j]:=λj G z=>by
 have :=iM.1 h (j-m) (by rw[cu];omega);rw[show m+(j-m)=j by omega] at this;simpa using this
theorem FQ {id:Nat}{a:Act}{w:World}{l:List Oper}{o:Oper}{tl:List Oper}(hm:P.follows .mixedOrders=true)(pj:ops.toList=l++(o::tl))(ht:xb .any ops l.length l.length=true)(hQ:∀d v c a w,Q (.panic c) (Act.put a d v) w->Q (.panic c) a w)(G:S w.drew)
  (V:((List.range (tl.length+1)).all λk=>Region.ready .any ops (dG ops.size (l.length+k)) == [l.length+k])=true) (U:Region.ready .any ops (dG ops.size ops.size)=[]) (h:aS P ops S (wpList P ops Q (o::tl)) l a):(Code.region id ops true).wp P Q a w:=by
 have J:ops.size=l.length+(tl.length+1):=by rw[<-dK,pj];simp
 have lj:=vV V;rw[<-J] at lj;refine wp_region_any hm ?_;rw[<-kF];refine oo (S:=λ_=>S) (F:=ops.size) (L:=l.length) _ _ _ ?_ _ G;have z:∀k,ops[k]? =(l++(o::tl))[k]? :=λk=>by rw[<-pj,dw]
 refine JA (m:=l.length) ht (aI _) (by omega) hQ (E:=λa=>∀w,S w->wpList P ops Q (o::tl) a w) (λa h=> ?_) l 0 a (by simp) (by omega) (λk hk=>by rw[z,bp,bh hk]) (aS.toB _ _ h);have h1:=lj l.length (aI _) (by omega);have MS:∀w,S w->wpAny P .any ops Q (ops.size-l.length) (dG ops.size l.length) a w:=λw G=>
  FP (o::tl) l.length a w (by simpa using J.symm) (λk hk=>by rw[z,aT (by omega),dS]) lj U (h w G)
 rw[show ops.size-l.length=tl.length+1 by omega] at MS ⊢;refine⟨λh0=>(by rw[h1] at h0;cases h0),λi hi W=> ?_,λhm w G=>(MS w G).2 _ hm⟩;rw[h1,au] at hi;exact absurd hi W
theorem jR {U:Nat}{a:Act}{w:World}{l:List Oper}{o:Oper}{tl:List Oper}(V:ops.toList=l++(o::tl))(J:S w.drew)(h:aS P ops S (wpList P ops Q (o::tl)) l a)(hm:P.follows .mixedOrders=true:=by kernel_rfl)(ht:xb .any ops l.length l.length=true:=by kernel_rfl)
  (G:((List.range (tl.length+1)).all λk=>Region.ready .any ops (dG ops.size (l.length+k)) == [l.length+k])=true:=by kernel_rfl) (z:Region.ready .any ops (dG ops.size ops.size)=[]:=by kernel_rfl) (W:∀d v c a w,Q (.panic c) (Act.put a d v) w->Q (.panic c) a w:=by intro d _ _ _ _ h;cases d<;>exact h):(Code.region U ops true).wp P Q a w:=FQ hm V ht W J G z h
theorem mJ {n F i:Nat}(h:F<n):(dG n i).getD F false=decide (F<i):=by
 simp[dG,h]
theorem aiw {S:Bool->World->Prop}{F L:Nat}(lj:∀j,F<j->j<ops.size->Region.ready md ops (dG ops.size j)=[j]){E:Act->World->Prop}
  (G:∀a,(∀w,S true w->E a w)->xM P md ops Q S F L (ops.size-L) (dG ops.size L) a):
  ∀(l:List Oper) (i:Nat) (a:Act),F<i->i+l.length=L->L<ops.size->(∀k,k<l.length->ops[i+k]? =l[k]?)->aS P ops (S true) E l a->xM P md ops Q S F L (ops.size-i) (dG ops.size i) a:=by
 intro l;induction l with
 |nil=>
  intro i a _ U _ _ h;obtain rfl:i=L:=by simpa using U
  exact G a h
 |cons o rest ih=>
  intro i a hF U hL W h;rw[cA] at U;obtain⟨v,hv,hr⟩:=h;have ho:ops[i]? =some o:=by simpa using W 0 (by simp)
  have J:=lj i hF (by omega);have z:=ih (i+1) (a.put o.dst v) (by omega) (by omega) hL (λk hk=>by
   have :=W (k+1) (by simpa using hk);rw[show i+1+k=i+(k+1) by omega,this];simp) hr
  rw[show ops.size-i=(ops.size-(i+1))+1 by omega];refine⟨λh0=>(by rw[J] at h0;cases h0),λj hj _ w V=> ?_,λhm=> ?_⟩
  ·rw[J,au] at hj
   subst hj;rw[mJ (by omega),bq (show F<j by omega)] at V;refine hv.wpOp ho V λw' WR=> ?_
   rw[nJ,mJ (by omega),bq (show F<j+1 by omega)];exact⟨WR,z⟩
  ·rw[J,au] at hm
   omega
theorem Ew {S:Bool->World->Prop}{id:Nat}{a:Act}{w:World}{l mid:List Oper}{f o:Oper}{tl:List Oper}(V:P.follows .mixedOrders=true)(pj:ops.toList=l++(f::(mid++(o::tl))))(ht:xb .any ops l.length (l.length+1+mid.length)=true)(hQ:∀d v c a w,Q (.panic c) (Act.put a d v) w->Q (.panic c) a w)(G:S false w.drew)
  (ae:((List.range (ops.size-l.length)).all λk=>Region.ready .any ops (dG ops.size (l.length+k)) == [l.length+k])=true) (ac:Region.ready .any ops (dG ops.size ops.size)=[])
  (h:jW P ops S (λa=>∃v,Jz P ops (S false) (S true) f v a/\aS P ops (S true) (wpList P ops Q (o::tl)) mid (a.put f.dst v)) l a):(Code.region id ops true).wp P Q a w:=by
 have af:ops.size=l.length+(1+(mid.length+(1+tl.length))):=by rw[<-dK,pj];simp;omega
 have lj:=vV ae;rw[show l.length+(ops.size-l.length)=ops.size by omega] at lj;refine wp_region_any V ?_;rw[<-kF];refine oo (S:=S) (F:=l.length) (L:=l.length+1+mid.length) _ _ _ ?_ _ (by rw[mJ (by omega)];exact G);have z:∀k,ops[k]? =(l++(f::(mid++(o::tl))))[k]? :=λk=>by rw[<-pj,dw]
 refine JA (m:=l.length) ht (by omega) (aI _) hQ (λa h=> ?_) l 0 a (by simp) (by omega) (λk hk=>by rw[z,bp,bh hk]) h;obtain⟨v,hf,J⟩:=h;have h1:=lj l.length (aI _) (by omega);have aa:=aiw (md:= .any) (Q:=Q) (S:=S) (F:=l.length) (L:=l.length+1+mid.length) (λj hj=>lj j (by omega)) (E:=wpList P ops Q (o::tl)) (λa2 h=>by
  have h2:=lj (l.length+1+mid.length) (by omega) (by omega);have MS:∀w,S true w->wpAny P .any ops Q (ops.size-(l.length+1+mid.length)) (dG ops.size (l.length+1+mid.length)) a2 w:=λw G=>
   FP (o::tl) (l.length+1+mid.length) _ w (by simp;omega) (λk hk=>by
    rw[z,aT (by omega),show l.length+1+mid.length+k-l.length=mid.length+k+1 by omega,iu,aT (by omega),dS]) (λj hj=>lj j (by omega)) ac (h w G)
  rw[show ops.size-(l.length+1+mid.length)=tl.length+1 by omega] at MS ⊢;refine⟨λh0=>(by rw[h2] at h0;cases h0),λi U W=> ?_,λV w G=> ?_⟩
  ·rw[h2,au] at U
   exact absurd U W
  ·rw[mJ (by omega),bq (by omega)] at G
   exact(MS w G).2 _ V) mid (l.length+1) (a.put f.dst v) (by omega) rfl (by omega) (λk hk=>by
    rw[z,aT (by omega),show l.length+1+k-l.length=k+1 by omega,iu,bh hk]) J
 rw[show ops.size-l.length=(ops.size-(l.length+1))+1 by omega];refine⟨λh0=>(by rw[h1] at h0;cases h0),λi U W w G=> ?_,λV=> ?_⟩
 ·rw[h1,au] at U
  subst U;rw[mJ (by omega),aP (by omega)] at G;refine hf.wpOp (by rw[z];simp) G λw' WR=> ?_
  rw[nJ,mJ (by omega),bq (by omega)];exact⟨WR,aa⟩
 ·rw[h1,au] at V
  omega
theorem jW.cons{S:Bool->World->Prop}{E:Act->Prop}{o:Oper}{rest:List Oper}{a:Act}(v:Value)(h:∀b,bG P ops (S b) o v a)(z:jW P ops S E rest (a.put o.dst v)):jW P ops S E (o::rest) a:=⟨v,h,z⟩
theorem jW.done{S:Bool->World->Prop}{E:Act->Prop}{a:Act}(h:E a):jW P ops S E [] a:=h
theorem aS.cons{E:Act->World->Prop}{o:Oper}{rest:List Oper}{a:Act}(v:Value)(h:bG P ops S o v a)(z:aS P ops S E rest (a.put o.dst v)):aS P ops S E (o::rest) a:=⟨v,h,z⟩
theorem aS.done{E:Act->World->Prop}{a:Act}(h:∀w,S w->E a w):aS P ops S E [] a:=h
theorem bG.val{o:Oper}{v:Value}{a:Act}(G:Region.wanted o (yielded ops a.tmps)=true)(h:∀w,S w->(execOp a.eval o).run P w= .ok (.value v) w):bG P ops S o v a:=
 .inl ⟨G,λw z=>by rw[h w z];exact⟨rfl,z⟩⟩
theorem bG.off{o:Oper}{a:Act}(h:Region.wanted o (yielded ops a.tmps)=false):bG P ops S o undef a:= .inr ⟨h,rfl⟩
theorem bG.load{o:Oper}{v:Value}{a:Act}(U:Region.wanted o (yielded ops a.tmps)=true)(ty:TypeId)(x:Operand)(V:o.op= .load ty x)(z:Addr)(J:a.eval x= .pointer (some z))(h:∀w,S w->(loadVar ty z).run P w= .ok v w):bG P ops S o v a:=
 .val U λw G=>by
  unfold execOp;simp only[V,J,Instr.loadAt,Instr.sureAddr,ck,fQ,cN,h w G]
theorem Jz.store{S z:World->Prop}{o:Oper}{a:Act}(W:Region.wanted o (yielded ops a.tmps)=true)(ty:TypeId)(x y:Operand)(ho:o.op= .store ty x y)(G:Addr)(V:a.eval x= .pointer (some G))(v:Value)(hy:a.eval y=v)
  (h:∀w,S w->∃w',(storeVar ty G v).run P w= .ok () w'/\z w'):Jz P ops S z o undef a:=
 ⟨W,λw J=>by
  obtain⟨w',U,h2⟩:=h w J;unfold execOp;simp only[ho,V,hy,Instr.storeAt,Instr.sureAddr,ck,fQ,cN,U];exact⟨rfl,h2⟩⟩
theorem bG.call{o:Oper}{v:Value}{a:Act}(J:Region.wanted o (yielded ops a.tmps)=true)(f:Nat)(args:Array Value)(G:∀w,(execOp a.eval o).run P w= .ok (.enter f args) w)(h:∀w,S w->Calls P f args w λe w'=>e=v/\S w'):bG P ops S o v a:=
 .inl ⟨J,λw z=>by rw[G w];exact h w z⟩
end
end
end Go.Proofs.YtimcfdnbpkiniaaGreatDoor
