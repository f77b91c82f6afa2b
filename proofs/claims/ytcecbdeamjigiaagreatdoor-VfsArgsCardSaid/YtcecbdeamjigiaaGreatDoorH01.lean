/- Lemmas. -/
import Derived.Test.YtcecbdeamjigiaaGreatDoorH00
import Derived.RegionTactic
import Derived.Deep.LoopGhost
import Derived.Deep.RegionWith
import Derived.Laws.CopyRow
import Derived.Laws.IdiomCopy
import Derived.Laws.Tables
import Derived.Deep.RegionLaw
import Derived.Deep.AppendLies
set_option maxHeartbeats 2000000
set_option maxRecDepth 100000
namespace Go.Proofs.YtcecbdeamjigiaaGreatDoor
open Go.RowKit
variable{w w':World}{b g gf gl gn k n y:Nat}{s:ic}{P:Program}{ty:TypeId}{l:List Bool}{v z:Value}{B X ws xs:List Int}{G J ps qs:List (Int×Int)}{i x:Int}
theorem dO.mark(h:dO w b gn gl gf s)(J:s.now.length≠0)(j:Nat)(x:Bool):
  dO (w.setCell ⟨gf,j,none⟩ (.bool x)) b gn gl gf { s with fl:=s.fl.set j x }:=by
 obtain⟨n9,ll,fll,z,Z,V,vf,a,c,d,e⟩:=h;obtain⟨⟨p1,p2,W⟩,p4,G,U⟩:=z J;have y:ay [gf] w (w.setCell ⟨gf,j,none⟩ (.bool x)):=(ay.refl _ _).setCell (by simp) _;refine⟨n9,ll,by simpa using fll,z,Z,V,vf,a.keep y (by simpa using dx W),c.keep y (by simpa using G),d.keep y (by simpa using U),?_⟩;simpa[xR] using e.set j (.bool x)
def vg (fl:List Bool) (q k:Nat):List Bool:=fl.mapIdx λj x=>if q*8<=j/\j<q*8+k then true else x
theorem Nx (fl:List Bool)(q:Nat):vg fl q 0=fl:=by
 apply b8;intro j;simp only[vg,eQ];cases fl[j]? <;>simp
 omega
theorem Ny (fl:List Bool)(q k:Nat):(vg fl q k).set (q*8+k) true=vg fl q (k+1):=by
 apply b8;intro j;simp only[vg,er,eQ,List.length_mapIdx];by_cases y:q*8+k=j
 ·subst y
  by_cases z:q*8+k<fl.length
  ·simp[z]
  ·simp[z]
 ·rw[aA y]
  cases fl[j]? with
  |none=>simp
  |some x=>
   simp only[e9,Option.some.injEq];by_cases h:q*8<=j/\j<q*8+k
   ·rw[aB h,aB ⟨h.1,by omega⟩]
   ·rw[aA h,aA (by omega)]
def ic.flush (s:ic) (i:Int):ic:=if s.refusal i=0 then { s.count with fl:=vg s.fl (i.toNat/8) 8 } else s
theorem G8 (h:dO w b gn gl gf s)(hf:s.fit)(i:Int):
  Calls Tryz.prog 100 #[.pointer (some ⟨b,0,none⟩),.int .i64 i] w λe w'=>e= .returned (.int .i64 (s.refusal i))/\dO w' b gn gl gf (s.flush i)/\ay [b,gn,gl,gf] w w':=by
 have W:=ar (uZ h i);by_cases z:s.refusal i=0
 ·obtain⟨hg,i0,i1⟩:=ic.refusal_ok z
  rw[ic.flush,aB z];obtain⟨i,rfl⟩:=cj i0;rw[z] at W ⊢;have af:=h.n9;have hc:=ar (Bd h hf hg);clear z h hf;go_enter Tryz.func100,Tryz.ntmps100;go_wp2_with fail;refine W.out.mono ?_;rintro e w' ⟨rfl,rfl⟩;go_wp2_with fail;refine hc.out.mono ?_;rintro e w1 ⟨rfl,h,Z⟩;obtain⟨vn,vl,vf,a,c,d,e⟩:=h.at_;have U:s.count.now.length=s.now.length:=rfl;obtain⟨-,⟨cf,rfl,r1,r2⟩,-,-⟩:=e.cell (by omega);have k0:w1.cell? ⟨b,2,none⟩=some (.slice (some ⟨gf,0,none⟩) ((s.now.length+7)/8) cf):=by rw[a.cell];rfl
  have H:=ar h;have HK:=ar Z;clear a c d e h Z U;go_wp2_with fail
  go_loopw [23] (λc wr=>∃k:Nat,k<=8/\c= .int .i64 (k:Int)/\dO wr b gn gl gf { s.count with fl:=vg s.fl (i/8) k }/\ay [b,gn,gl,gf] w wr) (λc _=>8-(intOf c).toNat)
  case atStart=>exact⟨0,by omega,rfl,by rw[Nx];exact H.out,HK.out.mono (by simp)⟩
  case round=>
   obtain⟨k,qP,rfl,G,J⟩:=hrel;by_cases aa:k<8
   ·have hs:=ar (G.mark (show s.now.length≠0 by omega) (i/8*8+k) true)
    obtain⟨ac,ag,ae,a,c,d,e⟩:=G.at_;have U:({ s.count with fl:=vg s.fl (i/8) k }:ic).now.length=s.now.length:=rfl;obtain⟨-,-,r3,r4⟩:=e.cell (by omega);have k1:wr.cell? ⟨gf,i/8*8+k,none⟩=some (.bool ((vg s.fl (i/8) k).getD (i/8*8+k) false)):=by
     have :=G.fll;rw[r3 _ (by omega),pO (by rw[this];omega)]
    have k2:wr.frozen? ⟨gf,i/8*8+k,none⟩=false:=r4 _;have V:=ar J;clear a c d e r3 r4 G J U k0;generalize (vg s.fl (i/8) k).getD (i/8*8+k) false=y at *;go_wp2
    go_roundw
    case rel=>
     refine⟨k+1,by omega,by go_num,?_,V.out.setCell (by simp) _⟩;rw[<-Ny];exact hs.out
    case measure=>simp[intOf];omega
   ·obtain rfl:k=8:=by omega
    have HP:=ar G;have V:=ar J;clear G J;go_wp2;go_ret;exact⟨rfl,HP.out,V.out⟩
 ·rw[ic.flush,aA z]
  have h1:(s.refusal i != 0)=true:=by simpa using z
  have H:=ar h;generalize s.refusal i=r at *;clear h z;go_enter Tryz.func100,Tryz.ntmps100;go_wp2_with(go_at_call 42;refine W.out.mono ?_;rintro e w' ⟨rfl,rfl⟩);go_ret;exact⟨rfl,H.out,ay.refl _ _⟩
def mix (c l:List Int) (i:Nat):List Int:=c.take i++l.drop i
theorem Q4 (c l:List Int):mix c l 0=l:=by simp[mix]
theorem UT (c l:List Int)(i:Nat)(y:c.length<=i)(h:l.length<=i):mix c l i=c:=by simp[mix,aQ y,dm h]
theorem UU (c l:List Int)(i:Nat)(h:c.length=l.length):(mix c l i).length=l.length:=by
 simp[mix];omega
theorem Q5 (c l:List Int)(i:Nat)(h:c.length=l.length)(J:i<l.length):mix c l (i+1)=(mix c l i).set i (c.getD i 0):=by
 apply b8;intro j;simp only[mix,er,fK,aI,bN,bX,aF,bu,aj];by_cases y:i=j
 ·subst y
  have z:i<c.length:=by omega
  simp[z];rw[aB (by omega),aB (by omega)]
 ·rw[aA y]
  by_cases G:j<i
  ·rw[aB (by omega),aB (by omega),aB (by omega),aB (by omega)]
  ·rw[aA (by omega),aA (by omega)]
   congr 1;omega
theorem dO.setLast(h:dO w b gn gl gf s)(G:s.now.length≠0)(j:Nat)(x:Int):
  dO (w.setCell ⟨gl,j,none⟩ (.int .u64 x)) b gn gl gf { s with last:=s.last.set j x }:=by
 obtain⟨n9,ll,fll,z,Z,W,vf,a,c,d,e⟩:=h;obtain⟨⟨p1,V,p3⟩,U,p5,J⟩:=z G;have y:ay [gl] w (w.setCell ⟨gl,j,none⟩ (.int .u64 x)):=(ay.refl _ _).setCell (by simp) _;refine⟨n9,by simpa using ll,fll,z,Z,W,vf,a.keep y (by simpa using dx V),c.keep y (by simpa using U),?_,e.keep y (by simpa using dx J)⟩;simpa[jw] using d.set j (.int .u64 x)
theorem dO.drew(h:dO w b gn gl gf s):dO w.drew b gn gl gf s:=
 h.keep ((ay.refl [] w).drew) (by simp) (by simp)
theorem Kj (w:World):(zeroValue 102).run Tryz.prog w= .ok (.agg (Array.replicate 8 (.bool false))) w:=by kernel_rfl
theorem nx (n:Nat):(Builtin.zeroCells (Value.agg (Array.replicate 8 (.bool false))).cells n).toList=bools (List.replicate (n*8) false):=by
 apply b8;intro j;simp only[Builtin.zeroCells,Value.cells,bools,je,Array.size_replicate,Array.toList_map,Array.toList_range,bD,aY];by_cases h:j<n*8
 ·have y:j%8<8:=fJ _ (by omega)
  rw[b7 h];simp[h,y]
 ·rw[aO (by simpa using h)]
  simp[h]
theorem D8 (l:List Bool):∀u∈bools l,u.oneCell'=true:=by
 intro u h;simp only[bools,bB] at h;obtain⟨x,-,rfl⟩:=h;rfl
theorem dO.clear(h:dO w b gn gl gf s):
  ∃y w',w.cell? ⟨b,2,none⟩=some y/\(∀ty,(Builtin.clear_ #[98] ty #[y]).run Tryz.prog w= .ok (.tuple #[]) w')/\
   dO w' b gn gl gf { s with fl:=List.replicate s.fl.length false }/\ay [b,gn,gl,gf] w w':=by
 obtain⟨n9,ll,fll,J,vn,vl,y,a,c,d,e⟩:=h;obtain⟨w',z,V,G⟩:=A1 (P:= Tryz.prog) (ty:=0) Tryz.underlying98 Kj rfl (by rw[nx];exact D8 _) e;rw[nx,<-fll] at V;refine⟨y,w',by rw[a.cell];rfl,λty=> ?_,⟨n9,ll,by simpa using fll,J,vn,vl,y,?_,?_,?_,?_⟩,G.mono (by simp)⟩
 ·exact z
 ·by_cases Z:s.now.length=0
  ·obtain⟨U,W,e1,_,_⟩:=e.val
   have :w'=w:=by
    have hz:(s.now.length+7)/8=0:=by omega
    rw[e1,hz] at z;have h4:(Builtin.clear_ #[98] 0 #[.slice U 0 W]).run Tryz.prog w= .ok (.tuple #[]) w:=by
     cases U<;>simp[Builtin.clear_,cY Tryz.underlying98]
    rw[h4] at z;exact(Result.ok.inj z).2.symm
   rw[this];exact a
  ·exact a.keep G (by simpa using dx (J Z).1.2.2)
 ·exact c.keepIf G λh=>by simpa using (J h).2.2.1
 ·exact d.keepIf G λh=>by simpa using (J h).2.2.2
 ·exact V
end Go.Proofs.YtcecbdeamjigiaaGreatDoor
namespace Go.Proofs.YtcecbdeamjigiaaGreatDoor
open Go.RowKit
variable{w w':World}{b g gf gl gn k n y:Nat}{s:ic}{P:Program}{ty:TypeId}{l:List Bool}{v z:Value}{B X ws xs:List Int}{G J ps qs:List (Int×Int)}{i x:Int}
end Go.Proofs.YtcecbdeamjigiaaGreatDoor
namespace Go.Proofs.YtcecbdeamjigiaaGreatDoor
open Go.RowKit
variable{w w':World}{b g gf gl gn k n y:Nat}{s:ic}{P:Program}{ty:TypeId}{l:List Bool}{v z:Value}{B X ws xs:List Int}{G J ps qs:List (Int×Int)}{i x:Int}
section
variable {P:Program} {ops:Array Oper} {rest:List Oper} {o:Oper} {a:Act} {w:World} {Q:Exit->Act->World->Prop}
theorem eU (y:o.guard=none)(ty:TypeId)(x:Operand)(V:o.op= .load ty x)(z:Addr)(U:a.eval x= .pointer (some z))(v:Value)
  (G:(loadVar ty z).run P w= .ok v w) (h:wpList P ops Q rest (a.put o.dst v) w):wpList P ops Q (o::rest) a w:=
 wpList_plain y λ_ J=>by
  unfold Oper.wp execOp;simp only[V,U,Instr.loadAt,Instr.sureAddr,bV,eM,b9,G];exact J _ _ h
theorem pQ (z:o.guard=none)(ty:TypeId)(x y:Operand)(Z:o.op= .store ty x y)(G:Addr)(W:a.eval x= .pointer (some G))(v:Value)(U:a.eval y=v)(w':World)
  (J:(storeVar ty G v).run P w= .ok () w') (h:wpList P ops Q rest (a.put o.dst undef) w'):wpList P ops Q (o::rest) a w:=
 wpList_plain z λ_ V=>by
  unfold Oper.wp execOp;simp only[Z,W,U,Instr.storeAt,Instr.sureAddr,bV,eM,b9,J];exact V _ _ h
end
section
variable {P:Program} {ops:Array Oper} {rest:List Oper} {a:Act} {Q:Exit->Act->World->Prop}
theorem gL {w:World}{d:Option Tmp}{x:Operand}{s:String}{G:Array Go.Edge}{t:TypeId}{y:Addr}{v:Value}(T:TypeId)(z:(loadVar T y).run P w= .ok v w)(h:wpList P ops Q rest (a.put d v) w)(J:a.eval x= .pointer (some y):=by with_unfolding_all rfl):wpList P ops Q (⟨d,.load T x,t,s,G,none⟩::rest) a w:=
 eU rfl T x rfl y J v z h
theorem gS {w w':World}{d:Option Tmp}{x y:Operand}{s:String}{U:Array Go.Edge}{t:TypeId}{z:Addr}{v:Value}(T:TypeId)(G:(storeVar T z v).run P w= .ok () w')(h:wpList P ops Q rest (a.put d undef) w')(V:a.eval x= .pointer (some z):=by with_unfolding_all rfl)(J:a.eval y=v:=by with_unfolding_all rfl):wpList P ops Q (⟨d,.store T x y,t,s,U,none⟩::rest) a w:=
 pQ rfl T x y rfl z V v J w' G h
end
theorem bT{d:TypeDesc}(g off:Nat)(cs:List Value)(W:P.underlying ty=some d)(hd:(match d with | .struct _ | .array _ _=>true|_=>false)=true)
  (y:(P.info? ty).map (·.size)=some cs.length) (U:∀j,j<cs.length->w.cell? ⟨g,off+j,none⟩=cs[j]?):(loadVar ty ⟨g,off,none⟩).run P w= .ok (.agg cs.toArray) w:=by
 have V:(loadCells ⟨g,off,none⟩ cs.length).run P w= .ok cs.toArray w:=
  run_loadCells_list (P:=P) w ⟨g,off,none⟩ cs (λj v z=>by
   have G:(⟨g,off,none⟩:Addr).add j=⟨g,off+j,none⟩:=by unfold Addr.add;split<;>simp_all
   have Z:j<cs.length:=(List.getElem?_eq_some_iff.1 z).1;rw[G,U j Z,z])
 cases hq:P.info? ty with
 |none=>simp[hq] at y
 |some i=>
  have J:i.size=cs.length:=by simpa[hq] using y
  have h:(isAgg ty).run P w= .ok true w:=by
   unfold isAgg;rw[bV,cY W w];cases d<;>simp_all
  simp[loadVar,h,sizeOf,typeInfo,hq,J,V]
theorem ig{T:TypeId}(g off:Nat)(cs:List Value)(h:Array Value)(z:(P.info? ty).map (·.size)=some cs.length)(V:bm w g h T)(G:off+cs.length<=h.size)
  (J:∀v∈cs,v.oneCell'=true):(storeVar ty ⟨g,off,none⟩ (.agg cs.toArray)).run P w= .ok () (w.setRow g (h.toList.take off++cs++h.toList.drop (off+cs.length)).toArray):=by
 have y:=run_storeCells_at P g off T cs 0 h w V (by simpa using G) J;simp only[dH] at y;cases hq:P.info? ty with
 |none=>simp[hq] at z
 |some i=>
  have U:i.size=cs.length:=by simpa[hq] using z
  simp[storeVar,sizeOf,typeInfo,hq,Value.cells,U,y]
theorem gj{y:Array Oper}{rest:List Oper}{o:Oper}{a:Act}{Q:Exit->Act->World->Prop}(z:o.guard=none)(d x:Operand)(t J:TypeId)
  (ho:o.op= .call { callee:= .builtin .copy,args:= #[d,x],argTypes:= #[t,J] }) (v u:Value) (U:a.eval d=v) (Z:a.eval x=u) {G:Value} {w':World}
  (V:(Builtin.copy_ #[t,J] o.type #[v,u]).run P w= .ok G w') (h:wpList P y Q rest (a.put o.dst G) w'):wpList P y Q (o::rest) a w:=
 wpList_plain z λ_ W=>by
  unfold Oper.wp execOp;simp only[ho,resolve,invoke,builtin,bV,eM,b9,List.map_toArray,List.map_cons,List.map_nil,U,Z,V];exact W _ _ h
theorem Nz (z W h V U y G J:Bool)(w:World):(Op.equalIn 10000 102 (.agg (bools [z,W,h,V,U,y,G,J]).toArray) (.agg #[.bool false,.bool false,.bool false,.bool false,.bool false,.bool false,.bool false,.bool false])).run Tryz.prog w=
  .ok (!(z||W||h||V||U||y||G||J)) w:=by
 cases z<;>cases W<;>cases h<;>cases V<;>cases U<;>cases y<;>cases G<;>cases J<;>kernel_rfl
def noMark (l:List Bool):Bool:= !(l.any id)
theorem eight(h:l.length=8):∃G Z y W V z J U,l=[G,Z,y,W,V,z,J,U]:=by
 match l,h with
 | [G,Z,y,W,V,z,J,U],_=>exact⟨G,Z,y,W,V,z,J,U,rfl⟩
theorem Q7 (l:List Bool)(h:l.length=8)(w:World):(Op.equalIn 10000 102 (.agg (bools l).toArray) (.agg #[.bool false,.bool false,.bool false,.bool false,.bool false,.bool false,.bool false,.bool false])).run Tryz.prog w= .ok (noMark l) w:=by
 obtain⟨G,Z,y,W,V,z,J,U,rfl⟩:=eight h;rw[Nz];simp[noMark,Bool.or_assoc]
theorem G9 (l:List Bool)(h:l.length=8)(k:Nat)(W:k<8)(w:World):(Instr.index 102 (.agg (bools l).toArray) (.int .i64 (k:Int))).run Tryz.prog w= .ok (.bool (l.getD k false)) w:=by
 obtain⟨J,x1,z,x3,Z,G,U,V,rfl⟩:=eight h;have y:k=0\/k=1\/k=2\/k=3\/k=4\/k=5\/k=6\/k=7:=by omega
 rcases y with rfl|rfl|rfl|rfl|rfl|rfl|rfl|rfl<;>(show Sem.run _ _ _=_;kernel_rfl)
def fV (s:ic) (m:Nat):List Int:=s.last.mapIdx λj x=>if j<m/\s.fl.getD j false=true then s.now.getD j 0 else x
theorem za (s:ic)(m:Nat):(fV s m).length=s.last.length:=by simp[fV]
theorem Fq (s:ic):fV s 0=s.last:=by
 apply b8;intro j;simp only[fV,eQ];cases s.last[j]? <;>simp
theorem nP (s:ic)(m z:Nat)(h:∀j,j<s.last.length->s.fl.getD j false=true->(j<m↔j<z)):fV s m=fV s z:=by
 apply b8;intro j;simp only[fV,eQ];cases hj:s.last[j]? with
 |none=>rfl
 |some x=>
  have G:=(List.getElem?_eq_some_iff.1 hj).1;simp only[e9,Option.some.injEq];by_cases y:s.fl.getD j false=true
  ·simp only[y,and_true,h j G y]
  ·rw[aA (λe=>y e.2),aA (λe=>y e.2)]
theorem Fs (s:ic)(m:Nat)(z:s.fl.getD m false=true):fV s (m+1)=(fV s m).set m (s.now.getD m 0):=by
 apply b8;intro j;simp only[fV,er,eQ,List.length_mapIdx];by_cases y:m=j
 ·subst y
  by_cases h:m<s.last.length
  ·rw[aB rfl,aB h,aD h,e9,aB ⟨by omega,z⟩]
  ·simp[h]
 ·rw[aA y]
  cases s.last[j]? with
  |none=>rfl
  |some x=>
   simp only[e9,Option.some.injEq];have :j<m+1↔j<m:=by omega
   simp only[this]
def ic.fence (s:ic):ic:=if s.gone=true then s else { s.count with last:=fV s s.now.length,fl:=List.replicate s.fl.length false }
def ic.fenceE (s:ic):Int:=if s.gone=true then 9 else 0
def ic.fmid (s:ic) (m:Nat):ic:={ s.count with last:=fV s m }
def ko (fl:List Bool) (q:Nat):List Bool:=(fl.drop (q*8)).take 8
theorem vh (fl:List Bool)(q k:Nat)(h:k<8):(ko fl q).getD k false=fl.getD (q*8+k) false:=by
 simp[ko,h]
theorem Kl (fl:List Bool)(q:Nat)(h:q*8+8<=fl.length):(ko fl q).length=8:=by simp[ko];omega
theorem Km (h:noMark l=true)(k:Nat):l.getD k false=false:=by
 simp only[noMark,Bool.not_eq_true',List.any_eq_false,id_eq] at h;rw[aj];cases hk:l[k]? with
 |none=>rfl
 |some x=>
  have :=h x (List.mem_of_getElem? hk);simpa using this
theorem Ha (h:dO w b gn gl gf s)(hf:s.fit):
  Calls Tryz.prog 101 #[.pointer (some ⟨b,0,none⟩)] w λe w'=>e= .returned (.int .i64 s.fenceE)/\dO w' b gn gl gf s.fence/\ay [b,gn,gl,gf] w w':=by
 have J:=ar (Mr h);unfold ic.fence ic.fenceE;cases hg:s.gone
 ·rw[hg] at J
  have av:=h.n9;have lR:=ar h.ll;have xS:=ar h.fll;have hc:=ar (Bd h hf hg);rw[aA (by simp),aA (by simp)];clear h hf hg;go_enter Tryz.func101,Tryz.ntmps101;go_wp2_with fail;go_step3;go_wp2_with fail;refine J.out.mono ?_;rintro e w' ⟨rfl,rfl⟩;go_wp2_with fail;refine hc.out.mono ?_;rintro e w1 ⟨rfl,h,hk⟩;obtain⟨vn,vl,vf,a,c,d,e⟩:=h.at_;have ec:s.count.now.length=s.now.length:=rfl;obtain⟨af,cf,rfl,r1,r2⟩:=e.val;have k0:w1.cell? ⟨b,2,none⟩=some (.slice af ((s.now.length+7)/8) cf):=by rw[a.cell];rfl
  have aj:Hid (s.now.length≠0->af=some ⟨gf,0,none⟩):=λhn=>by
   obtain⟨-,⟨aq,h1,-,-⟩,-,-⟩:=e.cell (by omega);exact(Value.slice.inj h1).1
  have H:=ar h;have HK:=ar hk;have e8:0<=((s.now.length+7)/8:Nat):=et _;clear a c d e h hk ec;go_wp2_with fail;go_step3;go_wp2_with fail;go_loopg [17] ((s.now.length+7)/8) (λg s17 wx=>∃L:Nat,L+g=(s.now.length+7)/8/\s17= .int .i64 (L:Int)/\Hid (dO wx b gn gl gf (s.fmid (L*8))/\ay [b,gn,gl,gf] w wx))
  case atStart=>exact⟨0,by omega,rfl,by unfold ic.fmid;rw[Nat.zero_mul,Fq];exact H.out,HK.out.mono (by simp)⟩
  case round=>
   obtain⟨L,au,rfl,HP⟩:=hrel;cases gk with
   |zero=>
    have hz:¬((L:Int)<((s.now.length:Int)+7)/8):=by omega
    have V:fV s (L*8)=fV s s.now.length:=nP s _ _ λj G _=>by rw[lR.out] at G;omega
    obtain⟨vf,U,q0,q1,q2,q3⟩:=HP.out.1.clear;have Q2:=ar q2;have Q3:=ar (HP.out.2.trans' q3);have EL:=ar V;clear q2 q3 V k0;go_wp2_with fail;go_ret;refine⟨rfl,?_,Q3.out⟩;have :=Q2.out;unfold ic.fmid at this;rw[EL.out] at this;exact this
   |succ g=>
    have hz:(L:Int)<((s.now.length:Int)+7)/8:=by omega
    have ah:s.now.length≠0:=by omega
    obtain⟨ae,ap,ag,a,c,d,e⟩:=HP.out.1.at_;have ec:(s.fmid (L*8)).now.length=s.now.length:=rfl;obtain⟨-,-,q3,-⟩:=e.cell (by omega);rw[ec] at q3;have z:(ko s.fl L).length=8:=Kl _ _ (by rw[xS.out];omega);have ny:(loadVar 102 ⟨gf,L*8,none⟩).run Tryz.prog wr= .ok (.agg (bools (ko s.fl L)).toArray) wr:=by
     refine bT gf (L*8) (bools (ko s.fl L)) Tryz.underlying102 rfl (by rw[mm,z];kernel_rfl) λj G=> ?_
     rw[mm,z] at G;rw[q3 _ (by omega),pO (by rw[show(s.fmid (L*8)).fl=s.fl from rfl,xS.out];omega),pO (by omega),vh _ _ _ G];rfl
    obtain rfl:=aj.out ah;have nJ:=ar ny;clear a c d e q3 ec ny k0;obtain⟨U,aa,nY,fj⟩:∃U,Hid ((storeVar 102 ⟨wr.heap.size,0,none⟩ (.agg (bools (ko s.fl L)).toArray)).run Tryz.prog (wr.alloc (.cells #[.bool false,.bool false,.bool false,.bool false,.bool false,.bool false,.bool false,.bool false] 102))= .ok () U)/\
      Hid (bm U wr.heap.size (bools (ko s.fl L)).toArray 102)/\Hid (ay [] wr U):=by
     have hb:=bm.new wr #[.bool false,.bool false,.bool false,.bool false,.bool false,.bool false,.bool false,.bool false] 102;refine⟨_,ig wr.heap.size 0 (bools (ko s.fl L)) _ (by rw[mm,z];kernel_rfl) hb (by rw[mm,z];simp) (D8 _),?_,?_⟩
     ·have :=setRow_heap _ wr.heap.size _ (List.take 0 (#[Value.bool false,.bool false,.bool false,.bool false,.bool false,.bool false,.bool false,.bool false]:Array Value).toList++bools (ko s.fl L)++List.drop (0+(bools (ko s.fl L)).length) (#[Value.bool false,.bool false,.bool false,.bool false,.bool false,.bool false,.bool false,.bool false]:Array Value).toList).toArray _ _ hb
      rw[mm,z] at this;show bm _ _ _ _;simpa[bm,mm,z] using this
     ·exact((ay.refl _ _).alloc _).setRow (.inr (aG _)) _
    have Yx:Hid ((loadVar 102 ⟨wr.heap.size,0,none⟩).run Tryz.prog U= .ok (.agg (bools (ko s.fl L)).toArray) U):=by
     refine bT wr.heap.size 0 (bools (ko s.fl L)) Tryz.underlying102 rfl (by rw[mm,z];kernel_rfl) λj G=> ?_
     rw[nY.out.cell];simp
    have hq:=Q7 (ko s.fl L) z;have nZ:Hid (dO U b gn gl gf (s.fmid (L*8))/\ay [b,gn,gl,gf] w U):=⟨HP.out.1.keep fj.out (by simp) (by simp),HP.out.2.trans fj.out (by simp)⟩;clear HP;cases UX:noMark (ko s.fl L)
    ·rw[UX] at hq
     have ac:=ar UX;clear UX;go_wp2_with(first|(with_reducible refine gL 102 nJ.out ?_)|(with_reducible refine gS 102 aa.out ?_)|(with_reducible refine gL 102 Yx.out ?_));clear nJ aa nY fj Yx hq;obtain⟨wo,rfl⟩:∃wo:World,wo=wr:=⟨_,rfl⟩;go_loopg [26] 8 (λg2 s26 wx=>∃k:Nat,k+g2=8/\s26= .int .i64 (k:Int)/\Hid (dO wx b gn gl gf (s.fmid (L*8+k))/\ay [b,gn,gl,gf] w wx))
     case atStart=>exact⟨0,by omega,rfl,nZ.out⟩
     case round=>
      obtain⟨k,qP,rfl,Z⟩:=hrel;clear nZ;cases gk with
      |zero=>
       obtain rfl:k=8:=by omega
       go_wp2_with fail;go_roundg g;case measure=>omega
       case rel=>exact⟨L+1,by omega,by go_num,by rw[show(L+1)*8=L*8+8 by omega];exact Z.out⟩
      |succ g2=>
       have zW:=λwz=>G9 (ko s.fl L) z k (by omega) wz
       have se:=vh s.fl L k (by omega);rw[se] at zW;obtain⟨ae,ap,ag,a,c,d,e⟩:=Z.out.1.at_;have ec:(s.fmid (L*8+k)).now.length=s.now.length:=rfl;obtain⟨-,⟨ai,rfl,q1,q2⟩,q3,q4⟩:=c.cell (by omega);obtain⟨-,⟨ak,rfl,q5,q6⟩,q7,q8⟩:=d.cell (by omega);have k0:wr.cell? ⟨b,0,none⟩=some (.slice (some ⟨gn,0,none⟩) s.now.length ai):=by rw[a.cell];rfl
       have k1:wr.cell? ⟨b,1,none⟩=some (.slice (some ⟨gl,0,none⟩) s.now.length ak):=by rw[a.cell];rfl
       by_cases k6:L*8+k<s.now.length
       ·have k2:wr.cell? ⟨gn,L*8+k,none⟩=some (.int .u64 (s.now.getD (L*8+k) 0)):=(q3 _ (by omega)).trans (cC k6)
        have k3:wr.cell? ⟨gl,L*8+k,none⟩=some (.int .u64 ((fV s (L*8+k)).getD (L*8+k) 0)):=(q7 _ (by omega)).trans (cC (by rw[show(s.fmid (L*8+k)).last=fV s (L*8+k) from rfl,za,lR.out];exact k6));have k5:wr.frozen? ⟨gl,L*8+k,none⟩=false:=q8 _;have S2:=ar (Z.out.1.drew.setLast (by omega) (L*8+k) (s.now.getD (L*8+k) 0));clear a c d e q3 q4 q7 q8 se;cases W:s.fl.getD (L*8+k) false
        ·rw[W] at zW
         have HM:=ar W;clear W;go_wp2_with fail;go_roundg g2;case measure=>omega
         case rel=>
          refine⟨k+1,by omega,by go_num,?_,Z.out.2⟩;have V:fV s (L*8+(k+1))=fV s (L*8+k):=nP s _ _ λj G Xo=>by
           by_cases h1:j=L*8+k
           ·subst h1;rw[HM.out] at Xo;cases Xo
           ·omega
          have :=Z.out.1;unfold ic.fmid at this ⊢;rw[V];exact this
        ·rw[W] at zW
         have HM:=ar (Fs s (L*8+k) W);clear W;generalize s.now.getD (L*8+k) 0=x at *;generalize (fV s (L*8+k)).getD (L*8+k) 0=y at *;go_wp2_with fail
         go_region
         go_wp2_with fail;go_roundg g2;case measure=>omega
         case rel=>
          refine⟨k+1,by omega,by go_num,?_,Z.out.2.drew.setCell (by simp) _⟩;have :=S2.out;unfold ic.fmid at this ⊢;rw[show L*8+(k+1)=L*8+k+1 by omega,HM.out];exact this
       ·have V:fV s (L*8+k)=fV s s.now.length:=nP s _ _ λj G _=>by rw[lR.out] at G;omega
        have EL:=ar V;obtain⟨vf,w3,p0,p1,p2,p3⟩:=Z.out.1.clear;have P2:=ar p2;have P3:=ar (Z.out.2.trans' p3);clear a c d e q3 q4 q7 q8 se V p2 p3;go_wp2_with fail;rw[Exit.noGoto_ret];go_ret;refine⟨rfl,?_,P3.out⟩;have :=P2.out;unfold ic.fmid at this;rw[EL.out] at this;exact this
    ·rw[UX] at hq
     have ac:=ar UX;clear UX;go_wp2_with(first|(with_reducible refine gL 102 nJ.out ?_)|(with_reducible refine gS 102 aa.out ?_)|(with_reducible refine gL 102 Yx.out ?_));go_roundg g;case measure=>omega
     case rel=>
      refine⟨L+1,by omega,by go_num,?_,nZ.out.2⟩;have V:fV s ((L+1)*8)=fV s (L*8):=nP s _ _ λj G W=>by
       by_cases h1:L*8<=j/\j<L*8+8
       ·have :=Km ac.out (j-L*8)
        rw[vh _ _ _ (by omega),show L*8+(j-L*8)=j by omega,W] at this;cases this
       ·omega
      have :=nZ.out.1;unfold ic.fmid at this ⊢;rw[V];exact this
 ·rw[hg] at J
  have H:=ar h;rw[aB rfl,aB rfl];clear hg h;go_enter Tryz.func101,Tryz.ntmps101;go_wp2_with fail;go_step3;go_wp2_with(go_at_call 89;refine J.out.mono ?_;rintro e w' ⟨rfl,rfl⟩);rw[Exit.noGoto_ret];go_ret;exact⟨rfl,H.out,ay.refl _ _⟩
theorem Tryz.info_marks:(Tryz.prog.info? 102).map (λi=>(i.zero,i.size,i.bytes))=some (some (.agg (Array.replicate 8 (.bool false))),8,8):=by kernel_rfl
def Q8 (w:World) (xs:List Int) (e:Ending) (w':World):Prop:=
 ∃v g,e= .returned v/\eE w' v g 55 1 xs.length (aR xs)/\(xs.length≠0->w.heap.size<=g/\g<w'.heap.size)/\ay [] w w'
theorem Q9 (h:Reads w v g (aR xs))(hn:xs.length<=10000):
  Calls Tryz.prog 91 #[v] w (Q8 w xs):=by
 obtain⟨a,cap,rfl,h1,h2,W⟩:=h;have e1:=λ(wz:World) (a:Option Addr) (n c:Nat)=>Lib.run_eql_slice_nil (P:= Tryz.prog) wz 69 55 a n c 0 0 Tryz.underlying69
 cases a with
 |none=>
  have hz:xs=[]:=by
   by_cases hx:aR xs=[]
   ·cases xs<;>simp_all[aR]
   ·obtain⟨-,off,U,-⟩:=W hx;cases U
  subst hz;clear W;go_enter Tryz.func91,Tryz.ntmps91;go_wp2_with fail;go_ret;exact⟨_,0,rfl,eE.nil _ _ _ _,λh=>absurd rfl h,ay.refl _ _⟩
 |some ad=>
  obtain⟨i0,hi,ac,aa,Z⟩:=cJ Tryz.info_u64;have G:∀j u,(aR xs)[j]? =some u->(w.alloc (.cells #[] 55)).cell? (ad.add j)=some u:=by
   intro j u hu;have hj:j<(aR xs).length:=(List.getElem?_eq_some_iff.1 hu).1;obtain⟨hg,off,U,hc⟩:=W (by intro e;rw[e] at hj;simp at hj);cases U;have Q6:(⟨g,off,none⟩:Addr).add j=⟨g,off+j,none⟩:=by unfold Addr.add;split<;>simp_all
   rw[Q6,aL (w:=w) (Below.heap_alloc _ _ _ hg),hc j hj,hu]
  have J:(w.alloc (.cells #[] 55)).ownsRow w.heap.size 55 1 (.slice (some ⟨w.heap.size,0,none⟩) 0 0) 0 []:=World.ownsRow_made w #[] 0 (aG _) (by simp[maxLen]) (by simp);have HC:=ar G;have HO:=ar J;clear G J W;rw[bc] at h1 ⊢;go_enter Tryz.func91,Tryz.ntmps91;go_wp2_with(at_builtin;refine dE _ rfl _ _ 69 rfl w.heap.size 55 i0 (.int .u64 0) 1 8 Tryz.underlying69 hi ac aa Z rfl (by decide) (.slice (some ⟨w.heap.size,0,none⟩) 0 0) _ _ rfl HO.out ad xs.length cap (aR xs) rfl (by rw[bc];omega) HC.out (eu xs) (by unfold maxLen;omega) (by omega) (by simp) ?_;intro v' w1 z y _);obtain⟨g',U,Yy⟩:=eE.of_row z;have H:Q8 w xs (.returned v') w1:=by
   refine⟨v',g',rfl,by simpa using U,λaf=> ?_,?_⟩
   ·have :=Yy (by omega)
    exact⟨this.1,((by simpa using U:eE w1 v' g' 55 1 xs.length (aR xs)).cell af).1⟩
   ·have V:=ay.of_grown (l:=[]) (((World.grownBy_alloc w (.cells #[] 55) none))) (by simp)
    have ae:ay [w.heap.size] (w.alloc (.cells #[] 55)) w1:=ay.of_grown y (by intro k V;simp[Value.ownBlock] at V;subst V;simp);exact V.trans ae (by simp)
  have HH:=ar H;clear z y U Yy H;go_wp2_with fail;go_ret;exact HH.out
def Made (w:World) (xs:List Int) (e:Ending) (w':World):Prop:=
 ∃b gn gl gf,e= .returned (.pointer (some ⟨b,0,none⟩))/\dO w' b gn gl gf { now:=xs,last:=xs,fl:=List.replicate ((xs.length+7)/8*8) false,deeds:=0,fused:=false,left:=0 }/\
  (w.heap.size<=b/\w.heap.size<=gn/\w.heap.size<=gl/\w.heap.size<=gf)/\ay [] w w'
theorem Fu{W:World}{Z V v3:Value}{G U J:Nat}(hn:xs.length<=10000)(hk:ay [] w W)(o1:eE W Z G 55 1 xs.length (aR xs))(o2:eE W V U 55 1 xs.length (aR xs))
  (o3:eE W v3 J 102 8 ((xs.length+7)/8) (bools (List.replicate ((xs.length+7)/8*8) false)))
  (hz:xs.length≠0->(w.heap.size<=G/\w.heap.size<=U/\w.heap.size<=J)/\G≠U/\G≠J/\U≠J):
  Made w xs (.returned (.pointer (some ⟨W.heap.size,0,none⟩))) (W.alloc (.cells #[Z,V,v3,.int .i64 0,.bool false,.int .i64 0] 100)):=by
 have y:=hk.size;by_cases z:xs.length=0
 ·refine⟨W.heap.size,W.heap.size,W.heap.size,W.heap.size,rfl,⟨hn,rfl,by simp,λh=>absurd z h,Z,V,v3,bm.new _ _ _,?_,?_,?_⟩,⟨y,y,y,y⟩,hk.alloc _⟩
  ·exact(o1.alloc _).anyG z _
  ·exact(o2.alloc _).anyG z _
  ·exact(o3.alloc _).anyG (by omega) _
 ·obtain⟨⟨a1,a2,a3⟩,a4,a5,a6⟩:=hz z
  have l1:=(o1.cell z).1;have l2:=(o2.cell z).1;have l3:=(o3.cell (by omega)).1;exact⟨W.heap.size,G,U,J,rfl,⟨hn,rfl,by simp,λ_=>⟨⟨by omega,by omega,by omega⟩,a4,a5,a6⟩,Z,V,v3,bm.new _ _ _,o1.alloc _,o2.alloc _,o3.alloc _⟩,⟨y,a1,a2,a3⟩,hk.alloc _⟩
theorem Kn (n:Nat):(madeCells (Array.replicate 8 (Value.bool false)) (n*8)).toList=bools (List.replicate (n*8) false):=by
 have :=nx n;simpa[Builtin.zeroCells,madeCells,Value.cells] using this
theorem xT{q:Nat}{mc:Array Value}(z:q<=1250)(h:mc.toList=bools (List.replicate (q*8) false)):
  eE (w.alloc (.cells mc 102)) (.slice (some ⟨w.heap.size,0,none⟩) q q) w.heap.size 102 8 q (bools (List.replicate (q*8) false)):=by
 have y:mc.size=q*8:=by rw[<-df,h];simp[bools]
 refine⟨by simp[bools],_,q,rfl,aG _,by unfold maxLen;omega,λ_=>⟨rfl,mc,bm.new _ _ _,y,?_⟩⟩;rw[<-h,aQ (by rw[df];omega)]
theorem aaT (h:Reads w v g (aR xs))(U:xs.length<=10000):
  Calls Tryz.prog 45 #[v] w (Made w xs):=by
 have H3:=ar h;obtain⟨a,cap,rfl,h1,h2,h3⟩:=h;clear h3;rw[bc] at *;unfold maxLen at h2;go_enter Tryz.func45,Tryz.ntmps45;go_wp2_with fail;have rO:∀G:World,(Instr.makeSlice 98 (.int .i64 (((xs.length:Int)+8-1)/8)) (.int .i64 (((xs.length:Int)+8-1)/8))).run Tryz.prog G=
   .ok (.slice (some ⟨G.heap.size,0,none⟩) ((xs.length+7)/8) ((xs.length+7)/8)) (G.alloc (.cells (madeCells (Array.replicate 8 (.bool false)) ((xs.length+7)/8*8)) 102)):=λG=>by
  obtain⟨i0,hi,ac,W,V⟩:=cJ Tryz.info_marks;have :=run_make (P:= Tryz.prog) G 98 102 i0 _ Tryz.underlying98 hi ac .i64 .i64 (((xs.length:Int)+8-1)/8) (((xs.length:Int)+8-1)/8) (by omega) (by omega) (by rw[V];omega) (by omega);rw[W,show(((xs.length:Int)+8-1)/8).toNat=(xs.length+7)/8 by omega] at this;exact this
 obtain⟨mc,Xp⟩:∃mc,mc=madeCells (Array.replicate 8 (.bool false)) ((xs.length+7)/8*8):=⟨_,rfl⟩;have z:Hid (mc.toList=bools (List.replicate ((xs.length+7)/8*8) false)):=by rw[Xp];exact Kn _
 rw[<-Xp] at rO;clear Xp;go_region_with (go_at_call 91;refine(Q9 (g:=g) (xs:=xs) (H3.out.keep (l:=[]) ?hk (by simp)) U).mono ?_;(case hk=>(repeat (first|exact ay.refl _ _|assumption|refine ay.drew ?_|refine ay.alloc ?_ _|refine ay.trans (l':=[]) ?_ (by assumption) (by simp))));rintro e w' ⟨v1,g1,rfl,Z,z1,y⟩;obtain⟨a1,c1,rfl,_,_⟩:=Z.val;(have O1:=ar Z);clear Z)
 all_goals go_wp2_with fail
 all_goals go_ret
 ·rename_i w1 g2 z2 k2 a2 c2 _ _ O2 _ _
  have J:ay [] w w.drew:=(ay.refl _ _).drew;have hw:w.drew.heap.size=w.heap.size:=rfl;have M:=Fu (w:=w) U (((J.trans k2 (by simp)).trans y (by simp)).alloc (.cells mc 102)) ((O2.out.keep y (by simp)).alloc _) (O1.out.alloc _) (xT (by omega) z.out) (λh=>by
   have y2:=z2 h;have y1:=z1 h;have :=k2.size;have :=y.size;refine⟨⟨?_,?_,?_⟩,?_,?_,?_⟩<;>omega)
  rw[show(w'.alloc (.cells mc 102)).heap.size=w'.heap.size+1 by simp] at M;exact M
 ·rename_i w1 g2 z2 k2 a2 c2 _ _ O2 _ _
  have J:ay [] w w.drew:=(ay.refl _ _).drew;have hw:w.drew.heap.size=w.heap.size:=rfl;have hs:(w1.alloc (.cells mc 102)).heap.size=w1.heap.size+1:=by simp
  exact Fu (w:=w) U (((J.trans k2 (by simp)).alloc (.cells mc 102)).trans y (by simp)) ((O2.out.alloc (.cells mc 102)).keep y (by simp)) O1.out ((xT (w:=w1) (by omega) z.out).keep y (by simp)) (λh=>by
   have y2:=z2 h;have y1:=z1 h;have :=k2.size;have :=y.size;refine⟨⟨?_,?_,?_⟩,?_,?_,?_⟩<;>omega)
 ·rename_i w1 g2 z2 k2 a2 c2 _ _ O2 _ _
  have J:ay [] w w.drew:=(ay.refl _ _).drew;have hw:w.drew.heap.size=w.heap.size:=rfl;have hs:(w.alloc (.cells mc 102)).drew.heap.size=w.heap.size+1:=by
   show(w.alloc (.cells mc 102)).heap.size=_;simp
  have aa:ay [] w (w.alloc (.cells mc 102)).drew:=((ay.refl _ _).alloc _).drew;exact Fu (w:=w) U ((aa.trans k2 (by simp)).trans y (by simp)) (O2.out.keep y (by simp)) O1.out (((xT (w:=w) (by omega) z.out).drew.keep k2 (by simp)).keep y (by simp)) (λh=>by
   have y2:=z2 h;have y1:=z1 h;have :=k2.size;have :=y.size;refine⟨⟨?_,?_,?_⟩,?_,?_,?_⟩<;>omega)
def pj (n:Int):Nat:=(min (max n 0) 10000).toNat
theorem UY (n:Int):pj n<=10000:=by unfold pj;omega
theorem Made.weaken{y:World}{e:Ending}(h:Made y xs e w')(z:ay [] w y):Made w xs e w':=by
 obtain⟨b,gn,gl,gf,U,J,⟨h3,Z,V,W⟩,G⟩:=h;have :=z.size;exact⟨b,gn,gl,gf,U,J,⟨by omega,by omega,by omega,by omega⟩,z.trans G (by simp)⟩
theorem Ra (w:World)(n:Int):
  Calls Tryz.prog 23 #[.int .i64 n] w (Made w (List.replicate (pj n) 0)):=by
 obtain⟨i0,hi,W,J,G⟩:=cJ Tryz.info_u64;have Z:=UY n;have rO:(Instr.makeSlice 69 (.int .i64 (pj n:Int)) (.int .i64 (pj n:Int))).run Tryz.prog w=
   .ok (.slice (some ⟨w.heap.size,0,none⟩) (pj n) (pj n)) (w.alloc (.cells (madeCells #[.int .u64 0] (pj n)) 55)):=by
  have :=run_make (P:= Tryz.prog) w 69 55 i0 _ Tryz.underlying69 hi W .i64 .i64 (pj n:Int) (pj n:Int) (by omega) (by omega) (by rw[G];omega) (by omega);rw[J,aH,jT] at this;exact this
 have hr:Reads (w.alloc (.cells (madeCells #[.int .u64 0] (pj n)) 55)) (.slice (some ⟨w.heap.size,0,none⟩) (pj n) (pj n)) w.heap.size (aR (List.replicate (pj n) 0)):=by
  refine eE.reads (T:= 55) (n:=pj n) ⟨by simp[aR],_,pj n,rfl,aG _,by unfold maxLen;omega,λ_=>⟨rfl,_,bm.new _ _ _,by simp[size_madeCells],?_⟩⟩;rw[toList_madeCells_one,D5,aQ (by simp[aR])]
 have U:=ar ((aaT hr (by simpa using Z)).mono λe w' h=>h.weaken ((ay.refl _ w).alloc _));clear hr;have V:((pj n:Nat):Int)=min (max n 0) 10000:=by unfold pj;omega
 generalize pj n=q at *;rcases (show n<0\/(0<=n/\n<=10000)\/10000<n by omega) with h|⟨h,h'⟩|h
 ·obtain rfl:q=0:=by omega
  clear V Z;simp only[Int.natCast_zero] at rO;go_enter Tryz.func23,Tryz.ntmps23;go_wp2_with fail;refine U.out.mono ?_;intro e w1 y;have z:=ar y;obtain⟨b,gn,gl,gf,rfl,-,-,-⟩:=y;go_wp2_with fail;go_ret;exact z.out
 ·obtain rfl:n=(q:Int):=by omega
  clear V;go_enter Tryz.func23,Tryz.ntmps23;go_wp2_with fail;refine U.out.mono ?_;intro e w1 y;have z:=ar y;obtain⟨b,gn,gl,gf,rfl,-,-,-⟩:=y;go_wp2_with fail;go_ret;exact z.out
 ·obtain rfl:q=10000:=by omega
  clear V Z;simp only[show((10000:Nat):Int)=10000 from rfl] at rO;generalize madeCells #[Value.int .u64 0] 10000=mc at *;generalize List.replicate 10000 (0:Int)=xs at *;go_enter Tryz.func23,Tryz.ntmps23;go_wp2_with fail;refine U.out.mono ?_;intro e w1 y;have z:=ar y;obtain⟨b,gn,gl,gf,rfl,-,-,-⟩:=y;go_wp2_with fail;go_ret;exact z.out
theorem Tryz.info_pair:(Tryz.prog.info? 61).map (λi=>(i.zero,i.size,i.bytes))=some (some (.agg #[.int .i64 0,.int .u64 0]),2,16):=by kernel_rfl
theorem Ko (n:Nat)(V:n<=100000)(m:Int)(J:m=(n:Int))(w:World):(Instr.makeSlice 58 (.int .i64 m) (.int .i64 m)).run Tryz.prog w=
  .ok (.slice (some ⟨w.heap.size,0,none⟩) n n) (w.alloc (.cells (madeCells #[.int .i64 0,.int .u64 0] (n*2)) 61)):=by
 subst J;obtain⟨U,G,z,y,h⟩:=cJ Tryz.info_pair;have :=run_make (P:= Tryz.prog) w 58 61 U _ Tryz.underlying58 G z .i64 .i64 (n:Int) (n:Int) (by omega) (by omega) (by rw[h];omega) (by omega);rw[y,aH] at this;exact this
theorem Kp (w:World)(n:Nat)(y:n<=100000):eE (w.alloc (.cells (madeCells #[.int .i64 0,.int .u64 0] (n*2)) 61)) (.slice (some ⟨w.heap.size,0,none⟩) n n) w.heap.size 61 2 n (gQ (List.replicate n (0,0))):=by
 have h:(madeCells #[Value.int .i64 0,Value.int .u64 0] (n*2)).size=n*2:=by rw[<-df,y8,ox,bh]
 refine⟨by rw[ox,bh],_,n,rfl,aG _,by unfold maxLen;omega,λ_=>⟨rfl,_,bm.new _ _ _,h,?_⟩⟩;rw[<-y8,aQ (by rw[df];omega)]
end Go.Proofs.YtcecbdeamjigiaaGreatDoor
namespace Go.Proofs.YtcecbdeamjigiaaGreatDoor
variable{w w':World}{b g gf gl gn k n y:Nat}{s:ic}{P:Program}{ty:TypeId}{l:List Bool}{v z:Value}{B X ws xs:List Int}{G J ps qs:List (Int×Int)}{i x:Int}
def iQ (ws:List Int):List Int:=ws.take 3128++List.replicate (3128-ws.length) 0
theorem fc (ws:List Int):(iQ ws).length=3128:=by simp only[iQ,aF,aI,bh];omega
theorem pU (ws:List Int)(i:Nat):(iQ ws).getD i 0=if i<3128 then ws.getD i 0 else 0:=by
 simp only[iQ,aj,fK,aI,bN,aY];by_cases h:i<3128
 ·by_cases y:i<ws.length
  ·rw[aB (by omega),aB h,aB h]
  ·rw[aA (by omega),aB (by omega),aB h,aO (by omega)];rfl
 ·rw[aA (by omega),aA (by omega),aA h];rfl
theorem Kq (h:J4 ps n)(k:J4 qs n):J4 (ps++qs) n:=λp y=>(aP.1 y).elim (h p) (k p)
theorem Be (h:J4 ps n)(m:Nat):J4 (ps.take m) n:=λp y=>h p (bA y)
theorem UZ (n:Nat):J4 [] n:=λp h=>by simp at h
theorem U0 (y:0<=i)(z:i<n):J4 [(i,x)] n:=λp h=>by
 rw[au] at h;subst h;exact⟨y,z⟩
def iV (B:List Int) (ps:List (Int×Int)):List (Int×Int):=(List.range ps.length).map λk=>(iD ps k,(az B (ps.take k)).getD (iD ps k).toNat 0)
theorem oy (B:List Int)(ps:List (Int×Int)):(iV B ps).length=ps.length:=by simp[iV]
theorem Bf (B:List Int)(ps:List (Int×Int))(k:Nat)(h:k<ps.length):iD (iV B ps) k=iD ps k/\nw (iV B ps) k=(az B (ps.take k)).getD (iD ps k).toNat 0:=by
 have e:(iV B ps).getD k (0,0)=(iD ps k,(az B (ps.take k)).getD (iD ps k).toNat 0):=by
  rw[aj,iV,bD,b7 h];rfl
 rw[iD,nw,e];exact⟨rfl,rfl⟩
theorem xU (h:k<ps.length):iD (ps++qs) k=iD ps k:=by
 simp[iD,fK,h]
theorem Hb (B:List Int)(ps:List (Int×Int))(i x:Int):iV B (ps++[(i,x)])=iV B ps++[(i,(az B ps).getD i.toNat 0)]:=by
 have y:iD (ps++[(i,x)]) ps.length=i:=by simp[iD]
 unfold iV;rw[aF,List.length_singleton,dL,dZ,List.map_singleton,y,List.take_left]
 congr 1
 apply dQ;intro k h;rw[bS] at h;rw[xU h,fp (by omega)]
theorem NA{m:Nat}(h:k<m):iD (ps.take m) k=iD ps k:=by
 simp[iD,h]
theorem sO (B:List Int)(ps:List (Int×Int))(m:Nat)(h:m<=ps.length):(iV B ps).take m=iV B (ps.take m):=by
 unfold iV;rw[<-jR,List.take_range,aI,cy h];apply dQ;intro k y;rw[bS] at y;rw[NA y,List.take_take,cy (by omega)]
theorem Fv (l:List Int)(i:Nat)(x:Int):(l.set i x).set i (l.getD i 0)=l:=by
 rw[List.set_set];exact Db l i 0
theorem Hc (B:List Int)(ps:List (Int×Int))(k:Nat)(h:k<ps.length):
  (az B (ps.take (k+1))).set (iD ps k).toNat ((az B (ps.take k)).getD (iD ps k).toNat 0)=az B (ps.take k):=by
 rw[xO B ps k h];exact Fv _ _ _
def zb (m:Int) (n:Nat):Nat:=(min (max m 0) (n:Int)).toNat
theorem Rb (m:Int)(n:Nat):zb m n<=n:=by unfold zb;omega
theorem D9 (m:Int)(n:Nat):((zb m n:Nat):Int)=min (max m 0) (n:Int):=by unfold zb;omega
def Dd (B:List Int) (ps:List (Int×Int)) (i:Int):Int:=if 0<=i/\i<3128 then (az B ps).getD i.toNat 0 else 0
def Ms (i:Int):Bool:=decide (0<=i)&&decide (i<3128)
theorem qX:Ms i=true↔0<=i/\i<3128:=by simp[Ms]
def cA (B X:List Int) (k:Nat):List (Int×Int):=((List.range k).filter λi=>X.getD i 0 != B.getD i 0).map λ(i:Nat)=>((i:Int),X.getD i 0)
theorem ze (B X:List Int)(k:Nat)(h:X.getD k 0=B.getD k 0):cA B X (k+1)=cA B X k:=by
 unfold cA;rw[dL,dV];have :(X.getD k 0 != B.getD k 0)=false:=by simpa using h
 simp only[ft,this,List.filter_nil];simp
theorem Kr (B X:List Int)(k:Nat)(h:X.getD k 0≠B.getD k 0):cA B X (k+1)=cA B X k++[((k:Int),X.getD k 0)]:=by
 unfold cA;rw[dL,dV];have :(X.getD k 0 != B.getD k 0)=true:=by simpa using h
 simp only[ft,this,List.filter_nil];simp
theorem Ks (B X:List Int)(k:Nat):(cA B X k).length<=k:=by
 unfold cA;rw[bJ];have :=eN (λi=>X.getD i 0 != B.getD i 0) (List.range k);simpa using this
end Go.Proofs.YtcecbdeamjigiaaGreatDoor
namespace Go.Proofs.YtcecbdeamjigiaaGreatDoor
open Go.RowKit
variable{w w':World}{b g gf gl gn k n y:Nat}{s:ic}{P:Program}{ty:TypeId}{l:List Bool}{v z:Value}{B X ws xs:List Int}{G J ps qs:List (Int×Int)}{i x:Int}
def fe (B X:List Int) (h:Value):Array Value:=(aR B++(aR X++[h])).toArray
theorem wE (B X:List Int)(h:Value):(fe B X h).size=B.length+(X.length+1):=by simp[fe,bc]
theorem Ea (X:List Int)(y:Value){i:Nat}(h:i<B.length):(fe B X y)[i]? =some (.int .u64 (B.getD i 0)):=by
 rw[fe,aC,aW (by rw[bc];exact h),cC h]
theorem xV (z:Value)(y:B.length=3128){i:Nat}(h:i<X.length):(fe B X z)[3128+i]? =some (.int .u64 (X.getD i 0)):=by
 rw[fe,aC,aM (by rw[bc];omega),bc,y,cX,aW (by rw[bc];exact h),cC h]
theorem pV (h:Value)(y:B.length=3128)(z:X.length=3128):(fe B X h)[6256]? =some h:=by
 rw[fe,aC,aM (by rw[bc];omega),bc,y,aM (by rw[bc];omega),bc,z];rfl
theorem wF (y:Value)(z:B.length=3128){i:Nat}(h:i<X.length)(x:Int):(fe B X y).setIfInBounds (3128+i) (.int .u64 x)=fe B (X.set i x) y:=by
 unfold fe;rw[ag,cZ _ _ (by rw[bc];omega),bc,z,cX,List.set_append_left _ _ (by rw[bc];exact h),jw]
theorem wG (y:Value)(h:B.length=3128)(z:X.length=3128)(v:Value):(fe B X y).setIfInBounds 6256 v=fe B X v:=by
 unfold fe;rw[ag,cZ _ _ (by rw[bc];omega),bc,h,cZ _ _ (by rw[bc];omega),bc,z];rfl
structure iW (w:World) (b gp:Nat) (B X:List Int) (us:List (Int×Int)):Prop where
 lb:B.length=3128
 lx:X.length=3128
 at_:∃vp,bm w b (fe B X vp) 96/\w.ownsRow (b+1) 132 2 vp us.length (gQ us)/\∀k,vp.ownBlock=some k->k=gp
structure eF (w:World) (b gp:Nat) (B:List Int) (ps:List (Int×Int)):Prop where
 raw:iW w b gp B (az B ps) (iV B ps)
 inp:J4 ps 3128
theorem iW.keep(h:iW w b y B X J){l:List Nat}(z:ay l w w')(U:b∉l)(hg:y∉l):iW w' b y B X J:=by
 obtain⟨lb,lx,Z,W,V,G⟩:=h;exact⟨lb,lx,Z,W.keep z U,cO V z λk e=>by rw[G k e];exact hg,G⟩
theorem eF.keep(h:eF w b y B ps){l:List Nat}(G:ay l w w')(z:b∉l)(J:y∉l):eF w' b y B ps:=
 ⟨h.raw.keep G z J,h.inp⟩
theorem iW.lt(h:iW w b y B X G):b<w.heap.size:=by
 obtain⟨lb,lx,U,z,J,V⟩:=h;exact z.lt
theorem iW.cell0(h:iW w b y B X G){i:Nat}(U:i<3128):w.cell? ⟨b,i,none⟩=some (.int .u64 (B.getD i 0)):=by
 obtain⟨lb,lx,V,z,J,W⟩:=h;rw[z.cell,Ea _ _ (by omega)]
theorem iW.cell1(h:iW w b y B X G){i:Nat}(U:i<3128):w.cell? ⟨b,3128+i,none⟩=some (.int .u64 (X.getD i 0)):=by
 obtain⟨lb,lx,V,z,J,W⟩:=h;rw[z.cell,xV _ lb (by omega)]
theorem wH (i:Int)(w:World):Calls Tryz.prog 41 #[.int .i64 i] w λe w'=>e= .returned (.bool (Ms i))/\w=w':=by
 by_cases h:0<=i
 ·by_cases y:i<3128
  ·rw[qX.2 ⟨h,y⟩]
   go_enter Tryz.func41,Tryz.ntmps41;go_wp2;go_ret;exact⟨rfl,rfl⟩
  ·rw[show Ms i=false by simp[Ms];omega]
   go_enter Tryz.func41,Tryz.ntmps41;go_wp2;go_ret;exact⟨rfl,rfl⟩
 ·rw[show Ms i=false by simp[Ms];omega]
  go_enter Tryz.func41,Tryz.ntmps41;go_wp2;go_ret;exact⟨rfl,rfl⟩
theorem NB{z:Nat}(h:iW w b z B X J)(i:Int):
  Calls Tryz.prog 20 #[.pointer (some ⟨b,0,none⟩),.int .i64 i] w λe w'=>e= .returned (.int .u64 (if Ms i=true then X.getD i.toNat 0 else 0))/\w=w':=by
 have y:=ar (wH i w);cases hi:Ms i
 ·rw[hi] at y
  rw[aA (by simp)];clear hi h;go_enter Tryz.func20,Tryz.ntmps20;go_wp2_with(go_at_call 41;refine y.out.mono ?_;rintro e w' ⟨rfl,rfl⟩);go_ret;exact⟨rfl,rfl⟩
 ·rw[hi] at y
  rw[aB rfl];obtain⟨G,U⟩:=qX.1 hi;clear hi;obtain⟨i,rfl⟩:=cj G;have V:=h.cell1 (i:=i) (by omega);rw[aH];generalize X.getD i 0=x at *;clear h;go_enter Tryz.func20,Tryz.ntmps20;go_wp2_with(go_at_call 41;refine y.out.mono ?_;rintro e w' ⟨rfl,rfl⟩);go_ret;exact⟨rfl,rfl⟩
theorem mO (h:eF w b y B ps)(i:Int):
  Calls Tryz.prog 20 #[.pointer (some ⟨b,0,none⟩),.int .i64 i] w λe w'=>e= .returned (.int .u64 (Dd B ps i))/\w=w':=by
 have :=NB h.raw i;rw[show(if Ms i=true then (az B ps).getD i.toNat 0 else 0)=Dd B ps i by unfold Dd;simp only[qX]] at this;exact this
def k7:Array Value:=fe (iQ []) (iQ []) (.slice none 0 0)
theorem Kt (w:World):(zeroValue 96).run Tryz.prog w= .ok (.agg k7) w:=by kernel_rfl
theorem qY:(Tryz.prog.info? 93).map (·.size)=some 3128:=by kernel_rfl
theorem mP:(Tryz.prog.info? 55).map (·.size)=some 1:=by kernel_rfl
theorem sP (B X:List Int)(h:Value):(fe B X h).toList=aR B++(aR X++[h]):=rfl
theorem Fw (y:bm w b (fe B X z) 96)(lb:B.length=3128):
  (loadVar 93 ⟨b,0,none⟩).run Tryz.prog w= .ok (.agg (aR B).toArray) w:=by
 refine bT b 0 (aR B) Tryz.underlying93 rfl (by rw[bc,lb];exact qY) λj h=> ?_
 rw[bc] at h;rw[aX,y.cell,Ea _ _ h,cC h]
theorem Bg (y:bm w b (fe B X z) 96)(lb:B.length=3128)(lx:X.length=3128):
  (loadVar 93 ⟨b,3128,none⟩).run Tryz.prog w= .ok (.agg (aR X).toArray) w:=by
 refine bT b 3128 (aR X) Tryz.underlying93 rfl (by rw[bc,lx];exact qY) λj h=> ?_
 rw[bc] at h;rw[y.cell,xV _ lb h,cC h]
theorem jK{T:Nat}{c y:Array Value}(h:bm w b c T):bm (w.setRow b y) b y T:=setRow_heap w b c y T _ h
theorem Hd{h:Value}(y:bm w b (fe B X h) 96)(lb:B.length=3128)(lx:X.length=3128)(Y:List Int)(z:Y.length=3128):
  ∃w',(storeVar 93 ⟨b,3128,none⟩ (.agg (aR Y).toArray)).run Tryz.prog w= .ok () w'/\bm w' b (fe B Y h) 96/\ay [b] w w':=by
 refine⟨_,ig b 3128 (aR Y) _ (by rw[bc,z];exact qY) y (by rw[wE,bc];omega) (eu Y),?_,(ay.refl _ _).setRow (by simp) _⟩;have e:((fe B X h).toList.take 3128++aR Y++(fe B X h).toList.drop (3128+(aR Y).length)).toArray=fe B Y h:=by
  rw[sP,List.take_left' (by rw[bc,lb]),<-List.drop_drop,List.drop_left' (by rw[bc,lb]),List.drop_left' (by rw[bc,bc,lx,z]),bf];rfl
 rw[e];exact jK y
theorem Ku (ws:List Int):aR (iQ ws)=(aR ws).take 3128++(aR (iQ [])).drop ((aR ws).take 3128).length:=by
 apply b8;intro j;have h:((aR ws).take 3128).length=min 3128 ws.length:=by rw[aI,bc]
 by_cases y:j<3128
 ·rw[cC (by rw[fc];exact y),pU,aB y]
  by_cases z:j<ws.length
  ·rw[aW (by rw[h];omega),bN,aB y,cC z]
  ·rw[aM (by rw[h];omega),bX,h,cC (by rw[fc];omega),pU]
   have :ws.getD j 0=0:=by rw[aj,aO (by omega)];rfl
   rw[this,aB (by omega)];rfl
 ·rw[aO (by rw[bc,fc];omega),aO]
  rw[aF,bu,h,bc,fc];omega
theorem Fx (z:bm w b k7 96)(h:Reads w v g (aR ws)):
  ∃n w',(∀ty,(Builtin.copy_ #[69,69] ty #[.slice (some ⟨b,0,none⟩) 3128 3128,v]).run Tryz.prog w= .ok n w')/\bm w' b (fe (iQ ws) (iQ []) (.slice none 0 0)) 96/\ay [b] w w':=by
 obtain⟨a,cap,rfl,h1,h2,Z⟩:=h;rw[bc] at *;by_cases U:ws.length=0
 ·obtain rfl:ws=[]:=bg U
  exact⟨_,w,λty=>run_copy_none (P:= Tryz.prog) w 69 69 ty 55 _ a 3128 3128 0 cap Tryz.underlying69 mP (by simp),z,ay.refl _ _⟩
 ·obtain⟨hg,off,rfl,W⟩:=Z (by intro e;have :=ck List.length e;rw[bc,cp] at this;omega)
  have G:((aR ws).take 3128).length=min ws.length 3128:=by rw[aI,bc,Nat.min_comm]
  have V:k7.size=6257:=by rw[k7,wE,fc]
  refine⟨_,_,λty=>run_copy_row (P:= Tryz.prog) w 69 69 ty 55 b 0 3128 3128 ⟨g,off,none⟩ ws.length cap k7 96 ((aR ws).take 3128) Tryz.underlying69 mP z G ?_ ?_ ?_,?_,(ay.refl _ _).setRow (by simp) _⟩
  ·intro j u y
   rw[bN] at y;split at y
   ·have J:j<(aR ws).length:=(List.getElem?_eq_some_iff.1 y).1
    rw[bc] at J;rw[add_plain,W j J,y]
   ·cases y
  ·rw[G,V];omega
  ·exact λu y=>eu ws u (bA y)
  ·have e:(k7.toList.take 0++(aR ws).take 3128++k7.toList.drop (0+((aR ws).take 3128).length)).toArray=fe (iQ ws) (iQ []) (.slice none 0 0):=by
    rw[k7,sP,eX,bW,aX,List.drop_append_of_le_length (by rw[G,bc,fc];omega),<-bf,<-Ku];rfl
   rw[e];exact jK z
def Eb (w:World) (B:List Int) (e:Ending) (w':World):Prop:=
 ∃b,e= .returned (.pointer (some ⟨b,0,none⟩))/\w.heap.size<=b/\eF w' b b B []/\ay [] w w'
theorem pW (h:Reads w v g (aR ws)):
  Calls Tryz.prog 25 #[v] w (Eb w (iQ ws)):=by
 have pk:bm (w.alloc (.cells k7 96)) w.heap.size k7 96 :=bm.new w _ _;have V:ay [] w (w.alloc (.cells k7 96)):=(ay.refl _ _).alloc _;obtain⟨n,w1,G,y,dc⟩:=Fx pk (h.keep V (by simp));have W:=Fw y (fc ws);obtain⟨w2,U,z,J⟩:=Hd y (fc ws) (fc []) (iQ ws) (fc ws);have HM:Hid (Eb w (iQ ws) (.returned (.pointer (some ⟨w.heap.size,0,none⟩))) w2):=by
  refine⟨_,rfl,aG _,⟨⟨fc ws,fc ws,_,z,⟨rfl,.inl ⟨rfl,rfl⟩⟩,by intro k hk;cases hk⟩,UZ _⟩,?_⟩;exact(V.trans dc (by simp)).trans J (by simp)
 have Uu:=ar G;have Uv:=ar U;have qQ:=ar W;obtain⟨a,cap,rfl,-,-,-⟩:=h;clear pk V G y dc W U z J;generalize (aR (iQ ws)).toArray=Y at *;have aa:=Kt;generalize k7=Z at *;go_enter Tryz.func25,Tryz.ntmps25;go_wp2_with(first|((with_reducible show wpList _ _ _ (⟨some 11,_,_,_,_,_⟩::_) _ _);refine gj rfl (.tmp 9) (.tmp 10) 69 69 rfl _ _ rfl rfl (Uu.out _) ?_)|(with_reducible refine gL 93 qQ.out ?_)|(with_reducible refine gS 93 Uv.out ?_));go_ret;exact HM.out
theorem Tryz.info_put:(Tryz.prog.info? 132).map (λi=>(i.zero,i.size,i.bytes))=some (some (.agg #[.int .i64 0,.int .u64 0]),2,16):=by kernel_rfl
def iy (w:World) (b y:Nat) (B:List Int) (ps:List (Int×Int)) (e:Ending) (w':World):Prop:=
 e= .returned (.tuple #[])/\∃h,(h=y\/(w.heap.size<=h/\h<w'.heap.size))/\eF w' b h B ps/\ay [b,y] w w'
def zX (ps:List (Int×Int)) (i x:Int):List (Int×Int):=if Ms i=true then ps++[(i,x)] else ps
theorem Rc{J:World}{gp G wI h j:Nat}{W:Int}{U:Value}{o:Obj}(hb:bm w b (fe B (az B ps) U) 96)
  (hg:∀k,U.ownBlock=some k->k=gp) (lb:B.length=3128) (lx:(az B ps).length=3128) (hj:j<3128)
  (he:iV B (ps++[((j:Int),x)])=iV B ps++[((j:Int),W)]) (Z:az B (ps++[((j:Int),x)])=(az B ps).set j x) (k6:J4 (ps++[((j:Int),x)]) 3128)
  (hl:(iV B (ps++[((j:Int),x)])).length=h+1)
  (z:J.ownsRow (b+1) 132 2 (.slice (some ⟨G,0,none⟩) (h+1) wI) (h+1) (gQ (iV B ps)++[.int .i64 (j:Int),.int .u64 W]))
  (y:(w.alloc o).drew.grownBy J U.ownBlock) (ae:U.ownBlock=some G\/G=w.heap.size+1) (ah:U.ownBlock≠some b):
  iy w b gp B (ps++[((j:Int),x)]) (.returned (.tuple #[])) ((J.setCell ⟨b,6256,none⟩ (.slice (some ⟨G,0,none⟩) (h+1) wI)).setCell ⟨b,3128+j,none⟩ (.int .u64 x)):=by
 have dc:ay [gp] w J:=((ay.refl [gp] w).alloc o).drew.trans (ay.of_grown (l:=[gp]) y (by intro k V;rw[hg k V];simp)) (by simp);have af:bm J b (fe B (az B ps) U) 96 :=by
  have h1:bm (w.alloc o).drew b (fe B (az B ps) U) 96 :=hb.alloc o;have ac:=h1.lt;unfold bm at h1 ⊢;rw[<-h1];exact y.block b ac (λe=>ah e.symm)
 have ag:b≠G:=by have :=cE z G rfl;omega
 have aa:∀(u v:Value),ay [b] J ((J.setCell ⟨b,6256,none⟩ u).setCell ⟨b,3128+j,none⟩ v):=λu v=>((ay.refl [b] _).setCell (by simp) _).setCell (by simp) _
 refine⟨rfl,G,?_,⟨⟨lb,?_,.slice (some ⟨G,0,none⟩) (h+1) wI,?_,?_,?_⟩,k6⟩,?_⟩
 ·rcases ae with e|e
  ·exact .inl (hg _ e)
  ·refine .inr ⟨by omega,?_⟩
   have :=(z.lt G rfl).2;simpa[World.setCell] using this
 ·rw[Z,cG];exact lx
 ·have :=(af.set 6256 (.slice (some ⟨G,0,none⟩) (h+1) wI)).set (3128+j) (.int .u64 x)
  rw[wG _ lb lx,wF _ lb (by omega)] at this;rw[Z];exact this
 ·rw[hl,he,pD]
  exact cO z (aa _ _) (by intro k V;cases V;simpa using dx ag)
 ·intro k V;cases V;rfl
 ·exact(dc.mono (by simp)).trans (aa _ _) (by simp)
theorem oz{Z:Nat}(h:eF w b Z B ps)(hn:ps.length<=1000000)(i x:Int):
  Calls Tryz.prog 48 #[.pointer (some ⟨b,0,none⟩),.int .i64 i,.int .u64 x] w (iy w b Z B (zX ps i x)):=by
 have HI:=ar (wH i w);unfold zX;cases U:Ms i
 ·rw[U] at HI
  rw[aA (by simp)];have HM:Hid (iy w b Z B ps (.returned (.tuple #[])) w):=⟨rfl,Z,.inl rfl,h,ay.refl _ _⟩;clear U h;go_enter Tryz.func48,Tryz.ntmps48;go_wp2_with(go_at_call 41;refine HI.out.mono ?_;rintro e w' ⟨rfl,rfl⟩);go_end0;exact HM.out
 ·rw[U] at HI
  rw[aB rfl];obtain⟨h0,h1⟩:=qX.1 U;clear U;obtain⟨j,rfl⟩:=cj h0;obtain⟨⟨lb,lx,vp,G,W,hg⟩,inp⟩:=h;obtain⟨i0,U,ag,ae,aa⟩:=cJ Tryz.info_put;have hj:j<3128:=by omega
  have c1:w.cell? ⟨b,6256,none⟩=some vp:=by rw[G.cell,pV _ lb lx]
  have c2:w.cell? ⟨b,3128+j,none⟩=some (.int .u64 ((az B ps).getD j 0)):=by rw[G.cell,xV _ lb (by omega)]
  have f1:w.frozen? ⟨b,6256,none⟩=false:=G.frozen _;have f2:w.frozen? ⟨b,3128+j,none⟩=false:=G.frozen _;have F1:∀o,(w.alloc o).drew.frozen? ⟨b,6256,none⟩=false:=λo=>(G.alloc o).frozen _
  have F2:∀o,(w.alloc o).drew.frozen? ⟨b,3128+j,none⟩=false:=λo=>(G.alloc o).frozen _
  have aj:=G.lt;have E2:∀o,(w.alloc o).drew.cell? ⟨b,3128+j,none⟩=some (.int .u64 ((az B ps).getD j 0)):=λo=>by rw[<-c2];exact aL (w:=w) (Below.heap_alloc _ _ _ G.lt)
  have n1:¬3128+j=6256:=by omega
  have E1:∀o,(w.alloc o).drew.cell? ⟨b,6256,none⟩=some vp:=λo=>by rw[<-c1];exact aL (w:=w) (Below.heap_alloc _ _ _ G.lt)
  have J:vp.ownBlock≠some b:=λe=>by have :=cE W b e;omega
  obtain⟨a,cap,hv,q1,q2⟩:=gD W;rw[oy] at W hv q1;have HE:=ar (Hb B ps (j:Int) x);have Mt:Hid (az B (ps++[((j:Int),x)])=(az B ps).set j x):=by show az B _=_;rw[bo];rfl
  have Ay:Hid (J4 (ps++[((j:Int),x)]) 3128):=Kq inp (U0 h0 h1);have HL:Hid ((iV B (ps++[((j:Int),x)])).length=ps.length+1):=by show List.length _=_;rw[oy];simp
  rw[aH] at HE;subst hv;have HB:=ar G;have HR:=ar W;have HG:=ar hg;have LB:=ar lb;have LX:=ar lx;clear G W hg lb lx inp;generalize (az B ps).getD j 0=af at *;generalize pn:ps.length=n at *;have zY:=ar pn;clear pn;unfold maxLen at q2;go_enter Tryz.func48,Tryz.ntmps48;go_wp2_with fail;refine HI.out.mono ?_;rintro e w' ⟨rfl,rfl⟩;go_wp2_with fail
  go_region_law ((refine step_append_lies _ (by rfl) _ _ _ (by rfl) (b+1) 132 i0 _ 2 16 Tryz.underlying94 U ag ae aa rfl (by omega) (.slice a n cap) n _ (by rfl) ((HR.out.alloc _).drew) ⟨w.heap.size,0,none⟩ 1 1 [.int .i64 (j:Int),.int .u64 af] (by rfl) (by rfl) (iP w [_,_] _ _ rfl) (by simp[Value.oneCell']) (by omega) (by unfold maxLen;omega) (by omega) (by simp;omega) (w.heap.size+1) (by simp) ?_;intro Bh wI w1 z y V ac;have ah:=(y.cell_far ⟨b,6256,none⟩ (by simp;omega) (dx J)).trans (E1 _);have Uw:=(y.frozen_far ⟨b,6256,none⟩ (by simp;omega) (dx J)).trans (F1 _);have ai:=(y.cell_far ⟨b,3128+j,none⟩ (by simp;omega) (dx J)).trans (E2 _);have ak:=(y.frozen_far ⟨b,3128+j,none⟩ (by simp;omega) (dx J)).trans (F2 _)))
  all_goals
   have HM:=ar (Rc HB.out HG.out LB.out LX.out hj HE.out Mt.out Ay.out HL.out z y V J);clear z y V ac ah;go_wp2_with fail;go_end0;exact HM.out
end Go.Proofs.YtcecbdeamjigiaaGreatDoor
