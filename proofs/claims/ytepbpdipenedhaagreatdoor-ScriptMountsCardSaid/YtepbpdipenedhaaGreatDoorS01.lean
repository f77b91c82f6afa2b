/- Lemmas. -/
import Derived.Test.YtepbpdipenedhaaGreatDoorS00
import Derived.RegionTactic
import Derived.Deep.LoopGhost
import Derived.Deep.RegionWith
import Derived.Laws.CopyRow
import Derived.Laws.IdiomCopy
import Derived.Laws.Tables
import Derived.Deep.RegionLaw
import Derived.Deep.AppendLies
set_option maxHeartbeats 2000000
set_option maxRecDepth 100000
namespace Go.Proofs.YtepbpdipenedhaaGreatDoor
open Go.Proofs.Tryz
open Go.RowKit
variable{w w':World}{G J b g gf gl gn gp k n y:Nat}{s:iN}{P:Program}{ty:TypeId}{l:List Bool}{v:Value}{B X ws xs:List Int}{ps qs:List (Int×Int)}{i x:Int}
theorem dQ.mark(h:dQ w b gn gl gf s)(Z:s.now.length≠0)(j:Nat)(x:Bool):
  dQ (w.setCell ⟨gf,j,none⟩ (.bool x)) b gn gl gf { s with fl:=s.fl.set j x }:=by
 obtain⟨n9,ll,fll,z,W,vl,V,a,c,d,e⟩:=h;obtain⟨⟨p1,p2,G⟩,p4,U,J⟩:=z Z;have y:ay [gf] w (w.setCell ⟨gf,j,none⟩ (.bool x)):=(ay.refl _ _).setCell (by simp) _;refine⟨n9,ll,by simpa using fll,z,W,vl,V,a.keep y (by simpa using eu G),c.keep y (by simpa using U),d.keep y (by simpa using J),?_⟩;simpa[ym] using e.set j (.bool x)
def vL (fl:List Bool) (q k:Nat):List Bool:=fl.mapIdx λj x=>if q*8<=j/\j<q*8+k then true else x
theorem Nw (fl:List Bool)(q:Nat):vL fl q 0=fl:=by
 apply bW;intro j;simp only[vL,fh];cases fl[j]? <;>simp
 omega
theorem Ny (fl:List Bool)(q k:Nat):(vL fl q k).set (q*8+k) true=vL fl q (k+1):=by
 apply bW;intro j;simp only[vL,eB,fh,List.length_mapIdx];by_cases y:q*8+k=j
 ·subst y
  by_cases z:q*8+k<fl.length
  ·simp[z]
  ·simp[z]
 ·rw[aA y]
  cases fl[j]? with
  |none=>simp
  |some x=>
   simp only[fC,Option.some.injEq];by_cases h:q*8<=j/\j<q*8+k
   ·rw[aB h,aB ⟨h.1,by omega⟩]
   ·rw[aA h,aA (by omega)]
def iN.flush (s:iN) (i:Int):iN:=if s.refusal i=0 then { s.count with fl:=vL s.fl (i.toNat/8) 8 } else s
theorem Ho (h:dQ w b gn gl gf s)(Z:s.fit)(i:Int):
  Calls prog 102 #[.pointer (some ⟨b,0,none⟩),.int .i64 i] w λe w'=>e= .returned (.int .i64 (s.refusal i))/\dQ w' b gn gl gf (s.flush i)/\ay [b,gn,gl,gf] w w':=by
 have U:=ar (vK h i);by_cases z:s.refusal i=0
 ·obtain⟨hg,i0,i1⟩:=iN.refusal_ok z
  rw[iN.flush,aB z];obtain⟨i,rfl⟩:=b7 i0;rw[z] at U ⊢;have aa:=h.n9;have hc:=ar (Bl h Z hg);clear z h Z;go_enter func102,ntmps102;go_wp2_with fail;refine U.out.mono ?_;rintro e w' ⟨rfl,rfl⟩;go_wp2_with fail;refine hc.out.mono ?_;rintro e w1 ⟨rfl,h,hk⟩;obtain⟨vn,vl,vf,a,c,d,e⟩:=h.at_;have W:s.count.now.length=s.now.length:=rfl;obtain⟨-,⟨cf,rfl,r1,r2⟩,-,-⟩:=e.cell (by omega);have k0:w1.cell? ⟨b,2,none⟩=some (.slice (some ⟨gf,0,none⟩) ((s.now.length+7)/8) cf):=by rw[a.cell];rfl
  have H:=ar h;have HK:=ar hk;clear a c d e h hk W;go_wp2_with fail
  go_loopw [23] (λc wr=>∃k:Nat,k<=8/\c= .int .i64 (k:Int)/\dQ wr b gn gl gf { s.count with fl:=vL s.fl (i/8) k }/\ay [b,gn,gl,gf] w wr) (λc _=>8-(intOf c).toNat)
  case atStart=>exact⟨0,by omega,rfl,by rw[Nw];exact H.out,HK.out.mono (by simp)⟩
  case round=>
   obtain⟨k,sX,rfl,G,J⟩:=hrel;by_cases ag:k<8
   ·have hs:=ar (G.mark (show s.now.length≠0 by omega) (i/8*8+k) true)
    obtain⟨af,ae,ac,a,c,d,e⟩:=G.at_;have W:({ s.count with fl:=vL s.fl (i/8) k }:iN).now.length=s.now.length:=rfl;obtain⟨-,-,r3,r4⟩:=e.cell (by omega);have k1:wr.cell? ⟨gf,i/8*8+k,none⟩=some (.bool ((vL s.fl (i/8) k).getD (i/8*8+k) false)):=by
     have :=G.fll;rw[r3 _ (by omega),qu (by rw[this];omega)]
    have k2:wr.frozen? ⟨gf,i/8*8+k,none⟩=false:=r4 _;have V:=ar J;clear a c d e r3 r4 G J W k0;generalize (vL s.fl (i/8) k).getD (i/8*8+k) false=y at *;go_wp2
    go_roundw
    case rel=>
     refine⟨k+1,by omega,by go_num,?_,V.out.setCell (by simp) _⟩;rw[<-Ny];exact hs.out
    case measure=>simp[intOf];omega
   ·obtain rfl:k=8:=by omega
    have HP:=ar G;have V:=ar J;clear G J;go_wp2;go_ret;exact⟨rfl,HP.out,V.out⟩
 ·rw[iN.flush,aA z]
  have h1:(s.refusal i != 0)=true:=by simpa using z
  have H:=ar h;generalize s.refusal i=r at *;clear h z;go_enter func102,ntmps102;go_wp2_with(go_at_call 39;refine U.out.mono ?_;rintro e w' ⟨rfl,rfl⟩);go_ret;exact⟨rfl,H.out,ay.refl _ _⟩
def mix (c l:List Int) (i:Nat):List Int:=c.take i++l.drop i
theorem QT (c l:List Int):mix c l 0=l:=by simp[mix]
theorem UB (c l:List Int)(i:Nat)(y:c.length<=i)(h:l.length<=i):mix c l i=c:=by simp[mix,aW y,cZ h]
theorem UC (c l:List Int)(i:Nat)(h:c.length=l.length):(mix c l i).length=l.length:=by
 simp[mix];omega
theorem QU (c l:List Int)(i:Nat)(h:c.length=l.length)(G:i<l.length):mix c l (i+1)=(mix c l i).set i (c.getD i 0):=by
 apply bW;intro j;simp only[mix,eB,gj,aI,cy,cg,aD,bu,aj];by_cases y:i=j
 ·subst y
  have z:i<c.length:=by omega
  simp[z];rw[aB (by omega),aB (by omega)]
 ·rw[aA y]
  by_cases J:j<i
  ·rw[aB (by omega),aB (by omega),aB (by omega),aB (by omega)]
  ·rw[aA (by omega),aA (by omega)]
   congr 1;omega
theorem dQ.setLast(h:dQ w b gn gl gf s)(V:s.now.length≠0)(j:Nat)(x:Int):
  dQ (w.setCell ⟨gl,j,none⟩ (.int .u64 x)) b gn gl gf { s with last:=s.last.set j x }:=by
 obtain⟨n9,ll,fll,z,U,vl,J,a,c,d,e⟩:=h;obtain⟨⟨p1,Z,p3⟩,W,p5,G⟩:=z V;have y:ay [gl] w (w.setCell ⟨gl,j,none⟩ (.int .u64 x)):=(ay.refl _ _).setCell (by simp) _;refine⟨n9,by simpa using ll,fll,z,U,vl,J,a.keep y (by simpa using eu Z),c.keep y (by simpa using W),?_,e.keep y (by simpa using eu G)⟩;simpa[ku] using d.set j (.int .u64 x)
theorem dQ.drew(h:dQ w b gn gl gf s):dQ w.drew b gn gl gf s:=
 h.keep ((ay.refl [] w).drew) (by simp) (by simp)
theorem Km (w:World):(zeroValue 97).run prog w= .ok (.agg (Array.replicate 8 (.bool false))) w:=by kernel_rfl
theorem nZ (n:Nat):(Builtin.zeroCells (Value.agg (Array.replicate 8 (.bool false))).cells n).toList=bools (List.replicate (n*8) false):=by
 apply bW;intro j;simp only[Builtin.zeroCells,Value.cells,bools,List.map_replicate,Array.size_replicate,Array.toList_map,Array.toList_range,bC,bb];by_cases h:j<n*8
 ·have y:j%8<8:=gi _ (by omega)
  rw[bV h];simp[h,y]
 ·rw[aP (by simpa using h)]
  simp[h]
theorem Ef (l:List Bool):∀u∈bools l,u.oneCell'=true:=by
 intro u h;simp only[bools,bL] at h;obtain⟨x,-,rfl⟩:=h;rfl
theorem dQ.clear(h:dQ w b gn gl gf s):
  ∃y w',w.cell? ⟨b,2,none⟩=some y/\(∀ty,(Builtin.clear_ #[93] ty #[y]).run prog w= .ok (.tuple #[]) w')/\
   dQ w' b gn gl gf { s with fl:=List.replicate s.fl.length false }/\ay [b,gn,gl,gf] w w':=by
 obtain⟨n9,ll,fll,z,vn,vl,y,a,c,d,e⟩:=h;obtain⟨w',J,U,G⟩:=Be (P:= prog) (ty:=0) underlying93 Km rfl (by rw[nZ];exact Ef _) e;rw[nZ,<-fll] at U;refine⟨y,w',by rw[a.cell];rfl,λty=> ?_,⟨n9,ll,by simpa using fll,z,vn,vl,y,?_,?_,?_,?_⟩,G.mono (by simp)⟩
 ·exact J
 ·by_cases hn:s.now.length=0
  ·obtain⟨V,c1,W,_,_⟩:=e.val
   have :w'=w:=by
    have Z:(s.now.length+7)/8=0:=by omega
    rw[W,Z] at J;have h4:(Builtin.clear_ #[93] 0 #[.slice V 0 c1]).run prog w= .ok (.tuple #[]) w:=by
     cases V<;>simp[Builtin.clear_,cP underlying93]
    rw[h4] at J;exact(Result.ok.inj J).2.symm
   rw[this];exact a
  ·exact a.keep G (by simpa using eu (z hn).1.2.2)
 ·exact c.keepIf G λh=>by simpa using (z h).2.2.1
 ·exact d.keepIf G λh=>by simpa using (z h).2.2.2
 ·exact U
end Go.Proofs.YtepbpdipenedhaaGreatDoor
namespace Go.Proofs.YtepbpdipenedhaaGreatDoor
open Go.Proofs.Tryz
open Go.RowKit
variable{w w':World}{G J b g gf gl gn gp k n y:Nat}{s:iN}{P:Program}{ty:TypeId}{l:List Bool}{v:Value}{B X ws xs:List Int}{ps qs:List (Int×Int)}{i x:Int}
end Go.Proofs.YtepbpdipenedhaaGreatDoor
namespace Go.Proofs.YtepbpdipenedhaaGreatDoor
open Go.Proofs.Tryz
open Go.RowKit
variable{w w':World}{G J b g gf gl gn gp k n y:Nat}{s:iN}{P:Program}{ty:TypeId}{l:List Bool}{v:Value}{B X ws xs:List Int}{ps qs:List (Int×Int)}{i x:Int}
section
variable {P:Program} {ops:Array Oper} {rest:List Oper} {o:Oper} {a:Act} {w:World} {Q:Exit->Act->World->Prop}
theorem ft (y:o.guard=none)(ty:TypeId)(x:Operand)(V:o.op= .load ty x)(z:Addr)(G:a.eval x= .pointer (some z))(v:Value)
  (J:(loadVar ty z).run P w= .ok v w) (h:wpList P ops Q rest (a.put o.dst v) w):wpList P ops Q (o::rest) a w:=
 wpList_plain y λ_ U=>by
  unfold Oper.wp execOp;simp only[V,G,Instr.loadAt,Instr.sureAddr,bM,eZ,bX,J];exact U _ _ h
theorem qw (z:o.guard=none)(ty:TypeId)(x y:Operand)(Z:o.op= .store ty x y)(G:Addr)(J:a.eval x= .pointer (some G))(v:Value)(U:a.eval y=v)(w':World)
  (V:(storeVar ty G v).run P w= .ok () w') (h:wpList P ops Q rest (a.put o.dst undef) w'):wpList P ops Q (o::rest) a w:=
 wpList_plain z λ_ W=>by
  unfold Oper.wp execOp;simp only[Z,J,U,Instr.storeAt,Instr.sureAddr,bM,eZ,bX,V];exact W _ _ h
end
section
variable {P:Program} {ops:Array Oper} {rest:List Oper} {a:Act} {Q:Exit->Act->World->Prop}
theorem gL {w:World}{d:Option Tmp}{x:Operand}{s:String}{z:Array Go.Edge}{t:TypeId}{y:Addr}{v:Value}(T:TypeId)(J:(loadVar T y).run P w= .ok v w)(h:wpList P ops Q rest (a.put d v) w)(G:a.eval x= .pointer (some y):=by with_unfolding_all rfl):wpList P ops Q (⟨d,.load T x,t,s,z,none⟩::rest) a w:=
 ft rfl T x rfl y G v J h
theorem gS {w w':World}{d:Option Tmp}{x y:Operand}{s:String}{G:Array Go.Edge}{t:TypeId}{z:Addr}{v:Value}(T:TypeId)(U:(storeVar T z v).run P w= .ok () w')(h:wpList P ops Q rest (a.put d undef) w')(J:a.eval x= .pointer (some z):=by with_unfolding_all rfl)(V:a.eval y=v:=by with_unfolding_all rfl):wpList P ops Q (⟨d,.store T x y,t,s,G,none⟩::rest) a w:=
 qw rfl T x y rfl z J v V w' U h
end
theorem bE{d:TypeDesc}(g off:Nat)(cs:List Value)(J:P.underlying ty=some d)(hd:(match d with | .struct _ | .array _ _=>true|_=>false)=true)
  (z:(P.info? ty).map (·.size)=some cs.length) (V:∀j,j<cs.length->w.cell? ⟨g,off+j,none⟩=cs[j]?):(loadVar ty ⟨g,off,none⟩).run P w= .ok (.agg cs.toArray) w:=by
 have W:(loadCells ⟨g,off,none⟩ cs.length).run P w= .ok cs.toArray w:=
  run_loadCells_list (P:=P) w ⟨g,off,none⟩ cs (λj v G=>by
   have h:(⟨g,off,none⟩:Addr).add j=⟨g,off+j,none⟩:=by unfold Addr.add;split<;>simp_all
   have U:j<cs.length:=(List.getElem?_eq_some_iff.1 G).1;rw[h,V j U,G])
 cases hq:P.info? ty with
 |none=>simp[hq] at z
 |some i=>
  have Z:i.size=cs.length:=by simpa[hq] using z
  have y:(isAgg ty).run P w= .ok true w:=by
   unfold isAgg;rw[bM,cP J w];cases d<;>simp_all
  simp[loadVar,y,sizeOf,typeInfo,hq,Z,W]
theorem iL{T:TypeId}(g off:Nat)(cs:List Value)(h:Array Value)(z:(P.info? ty).map (·.size)=some cs.length)(U:bf w g h T)(y:off+cs.length<=h.size)
  (J:∀v∈cs,v.oneCell'=true):(storeVar ty ⟨g,off,none⟩ (.agg cs.toArray)).run P w= .ok () (w.setRow g (h.toList.take off++cs++h.toList.drop (off+cs.length)).toArray):=by
 have G:=run_storeCells_at P g off T cs 0 h w U (by simpa using y) J;simp only[dP] at G;cases hq:P.info? ty with
 |none=>simp[hq] at z
 |some i=>
  have V:i.size=cs.length:=by simpa[hq] using z
  simp[storeVar,sizeOf,typeInfo,hq,Value.cells,V,G]
theorem gW{y:Array Oper}{rest:List Oper}{o:Oper}{a:Act}{Q:Exit->Act->World->Prop}(z:o.guard=none)(d x:Operand)(t G:TypeId)
  (ho:o.op= .call { callee:= .builtin .copy,args:= #[d,x],argTypes:= #[t,G] }) (v u:Value) (U:a.eval d=v) (V:a.eval x=u) {J:Value} {w':World}
  (W:(Builtin.copy_ #[t,G] o.type #[v,u]).run P w= .ok J w') (h:wpList P y Q rest (a.put o.dst J) w'):wpList P y Q (o::rest) a w:=
 wpList_plain z λ_ Z=>by
  unfold Oper.wp execOp;simp only[ho,resolve,invoke,builtin,bM,eZ,bX,List.map_toArray,List.map_cons,List.map_nil,U,V,W];exact Z _ _ h
theorem Nz (G z J y U V W h:Bool)(w:World):(Op.equalIn 10000 97 (.agg (bools [G,z,J,y,U,V,W,h]).toArray) (.agg #[.bool false,.bool false,.bool false,.bool false,.bool false,.bool false,.bool false,.bool false])).run prog w=
  .ok (!(G||z||J||y||U||V||W||h)) w:=by
 cases G<;>cases z<;>cases J<;>cases y<;>cases U<;>cases V<;>cases W<;>cases h<;>kernel_rfl
def noMark (l:List Bool):Bool:= !(l.any id)
theorem eight(h:l.length=8):∃J G U z V W Z y,l=[J,G,U,z,V,W,Z,y]:=by
 match l,h with
 | [J,G,U,z,V,W,Z,y],_=>exact⟨J,G,U,z,V,W,Z,y,rfl⟩
theorem QV (l:List Bool)(h:l.length=8)(w:World):(Op.equalIn 10000 97 (.agg (bools l).toArray) (.agg #[.bool false,.bool false,.bool false,.bool false,.bool false,.bool false,.bool false,.bool false])).run prog w= .ok (noMark l) w:=by
 obtain⟨J,G,U,z,V,W,Z,y,rfl⟩:=eight h;rw[Nz];simp[noMark,Bool.or_assoc]
theorem Hp (l:List Bool)(h:l.length=8)(k:Nat)(Z:k<8)(w:World):(Instr.index 97 (.agg (bools l).toArray) (.int .i64 (k:Int))).run prog w= .ok (.bool (l.getD k false)) w:=by
 obtain⟨U,J,V,G,W,x5,x6,z,rfl⟩:=eight h;have y:k=0\/k=1\/k=2\/k=3\/k=4\/k=5\/k=6\/k=7:=by omega
 rcases y with rfl|rfl|rfl|rfl|rfl|rfl|rfl|rfl<;>(show Sem.run _ _ _=_;kernel_rfl)
def gK (s:iN) (m:Nat):List Int:=s.last.mapIdx λj x=>if j<m/\s.fl.getD j false=true then s.now.getD j 0 else x
theorem zr (s:iN)(m:Nat):(gK s m).length=s.last.length:=by simp[gK]
theorem FD (s:iN):gK s 0=s.last:=by
 apply bW;intro j;simp only[gK,fh];cases s.last[j]? <;>simp
theorem oC (s:iN)(m z:Nat)(h:∀j,j<s.last.length->s.fl.getD j false=true->(j<m↔j<z)):gK s m=gK s z:=by
 apply bW;intro j;simp only[gK,fh];cases hj:s.last[j]? with
 |none=>rfl
 |some x=>
  have G:=(List.getElem?_eq_some_iff.1 hj).1;simp only[fC,Option.some.injEq];by_cases y:s.fl.getD j false=true
  ·simp only[y,and_true,h j G y]
  ·rw[aA (λe=>y e.2),aA (λe=>y e.2)]
theorem FE (s:iN)(m:Nat)(z:s.fl.getD m false=true):gK s (m+1)=(gK s m).set m (s.now.getD m 0):=by
 apply bW;intro j;simp only[gK,eB,fh,List.length_mapIdx];by_cases y:m=j
 ·subst y
  by_cases h:m<s.last.length
  ·rw[aB rfl,aB h,aF h,fC,aB ⟨by omega,z⟩]
  ·simp[h]
 ·rw[aA y]
  cases s.last[j]? with
  |none=>rfl
  |some x=>
   simp only[fC,Option.some.injEq];have :j<m+1↔j<m:=by omega
   simp only[this]
def iN.fence (s:iN):iN:=if s.gone=true then s else { s.count with last:=gK s s.now.length,fl:=List.replicate s.fl.length false }
def iN.fenceE (s:iN):Int:=if s.gone=true then 9 else 0
def iN.fmid (s:iN) (m:Nat):iN:={ s.count with last:=gK s m }
def kV (fl:List Bool) (q:Nat):List Bool:=(fl.drop (q*8)).take 8
theorem vM (fl:List Bool)(q k:Nat)(h:k<8):(kV fl q).getD k false=fl.getD (q*8+k) false:=by
 simp[kV,h]
theorem Kn (fl:List Bool)(q:Nat)(h:q*8+8<=fl.length):(kV fl q).length=8:=by simp[kV];omega
theorem Ko (h:noMark l=true)(k:Nat):l.getD k false=false:=by
 simp only[noMark,Bool.not_eq_true',List.any_eq_false,id_eq] at h;rw[aj];cases hk:l[k]? with
 |none=>rfl
 |some x=>
  have :=h x (List.mem_of_getElem? hk);simpa using this
theorem Hq (h:dQ w b gn gl gf s)(hf:s.fit):
  Calls prog 103 #[.pointer (some ⟨b,0,none⟩)] w λe w'=>e= .returned (.int .i64 s.fenceE)/\dQ w' b gn gl gf s.fence/\ay [b,gn,gl,gf] w w':=by
 have G:=ar (FC h);unfold iN.fence iN.fenceE;cases hg:s.gone
 ·rw[hg] at G
  have aI:=h.n9;have ac:=ar h.ll;have ag:=ar h.fll;have hc:=ar (Bl h hf hg);rw[aA (by simp),aA (by simp)];clear h hf hg;go_enter func103,ntmps103;go_wp2_with fail;go_step3;go_wp2_with fail;refine G.out.mono ?_;rintro e w' ⟨rfl,rfl⟩;go_wp2_with fail;refine hc.out.mono ?_;rintro e w1 ⟨rfl,h,hk⟩;obtain⟨vn,vl,vf,a,c,d,e⟩:=h.at_;have ec:s.count.now.length=s.now.length:=rfl;obtain⟨af,cf,rfl,r1,r2⟩:=e.val;have k0:w1.cell? ⟨b,2,none⟩=some (.slice af ((s.now.length+7)/8) cf):=by rw[a.cell];rfl
  have az:Hid (s.now.length≠0->af=some ⟨gf,0,none⟩):=λhn=>by
   obtain⟨-,⟨aH,h1,-,-⟩,-,-⟩:=e.cell (by omega);exact(Value.slice.inj h1).1
  have H:=ar h;have HK:=ar hk;have e8:0<=((s.now.length+7)/8:Nat):=eD _;clear a c d e h hk ec;go_wp2_with fail;go_step3;go_wp2_with fail;go_loopg [17] ((s.now.length+7)/8) (λg s17 wx=>∃L:Nat,L+g=(s.now.length+7)/8/\s17= .int .i64 (L:Int)/\Hid (dQ wx b gn gl gf (s.fmid (L*8))/\ay [b,gn,gl,gf] w wx))
  case atStart=>exact⟨0,by omega,rfl,by unfold iN.fmid;rw[Nat.zero_mul,FD];exact H.out,HK.out.mono (by simp)⟩
  case round=>
   obtain⟨L,aF,rfl,HP⟩:=hrel;cases gk with
   |zero=>
    have hz:¬((L:Int)<((s.now.length:Int)+7)/8):=by omega
    have U:gK s (L*8)=gK s s.now.length:=oC s _ _ λj J _=>by rw[ac.out] at J;omega
    obtain⟨vf,V,q0,q1,q2,q3⟩:=HP.out.1.clear;have Q2:=ar q2;have Q3:=ar (HP.out.2.trans' q3);have EL:=ar U;clear q2 q3 U k0;go_wp2_with fail;go_ret;refine⟨rfl,?_,Q3.out⟩;have :=Q2.out;unfold iN.fmid at this;rw[EL.out] at this;exact this
   |succ g=>
    have hz:(L:Int)<((s.now.length:Int)+7)/8:=by omega
    have aC:s.now.length≠0:=by omega
    obtain⟨av,au,ak,a,c,d,e⟩:=HP.out.1.at_;have ec:(s.fmid (L*8)).now.length=s.now.length:=rfl;obtain⟨-,-,q3,-⟩:=e.cell (by omega);rw[ec] at q3;have z:(kV s.fl L).length=8:=Kn _ _ (by rw[ag.out];omega);have oa:(loadVar 97 ⟨gf,L*8,none⟩).run prog wr= .ok (.agg (bools (kV s.fl L)).toArray) wr:=by
     refine bE gf (L*8) (bools (kV s.fl L)) underlying97 rfl (by rw[mY,z];kernel_rfl) λj J=> ?_
     rw[mY,z] at J;rw[q3 _ (by omega),qu (by rw[show(s.fmid (L*8)).fl=s.fl from rfl,ag.out];omega),qu (by omega),vM _ _ _ J];rfl
    obtain rfl:=az.out aC;have nC:=ar oa;clear a c d e q3 ec oa k0;obtain⟨V,ae,oL,fF⟩:∃V,Hid ((storeVar 97 ⟨wr.heap.size,0,none⟩ (.agg (bools (kV s.fl L)).toArray)).run prog (wr.alloc (.cells #[.bool false,.bool false,.bool false,.bool false,.bool false,.bool false,.bool false,.bool false] 97))= .ok () V)/\
      Hid (bf V wr.heap.size (bools (kV s.fl L)).toArray 97)/\Hid (ay [] wr V):=by
     have hb:=bf.new wr #[.bool false,.bool false,.bool false,.bool false,.bool false,.bool false,.bool false,.bool false] 97;refine⟨_,iL wr.heap.size 0 (bools (kV s.fl L)) _ (by rw[mY,z];kernel_rfl) hb (by rw[mY,z];simp) (Ef _),?_,?_⟩
     ·have :=setRow_heap _ wr.heap.size _ (List.take 0 (#[Value.bool false,.bool false,.bool false,.bool false,.bool false,.bool false,.bool false,.bool false]:Array Value).toList++bools (kV s.fl L)++List.drop (0+(bools (kV s.fl L)).length) (#[Value.bool false,.bool false,.bool false,.bool false,.bool false,.bool false,.bool false,.bool false]:Array Value).toList).toArray _ _ hb
      rw[mY,z] at this;show bf _ _ _ _;simpa[bf,mY,z] using this
     ·exact((ay.refl _ _).alloc _).setRow (.inr (aG _)) _
    have X5:Hid ((loadVar 97 ⟨wr.heap.size,0,none⟩).run prog V= .ok (.agg (bools (kV s.fl L)).toArray) V):=by
     refine bE wr.heap.size 0 (bools (kV s.fl L)) underlying97 rfl (by rw[mY,z];kernel_rfl) λj J=> ?_
     rw[oL.out.cell];simp
    have hq:=QV (kV s.fl L) z;have oM:Hid (dQ V b gn gl gf (s.fmid (L*8))/\ay [b,gn,gl,gf] w V):=⟨HP.out.1.keep fF.out (by simp) (by simp),HP.out.2.trans fF.out (by simp)⟩;clear HP;cases UE:noMark (kV s.fl L)
    ·rw[UE] at hq
     have ai:=ar UE;clear UE;go_wp2_with(first|(with_reducible refine gL 97 nC.out ?_)|(with_reducible refine gS 97 ae.out ?_)|(with_reducible refine gL 97 X5.out ?_));clear nC ae oL fF X5 hq;obtain⟨wo,rfl⟩:∃wo:World,wo=wr:=⟨_,rfl⟩;go_loopg [26] 8 (λg2 s26 wx=>∃k:Nat,k+g2=8/\s26= .int .i64 (k:Int)/\Hid (dQ wx b gn gl gf (s.fmid (L*8+k))/\ay [b,gn,gl,gf] w wx))
     case atStart=>exact⟨0,by omega,rfl,oM.out⟩
     case round=>
      obtain⟨k,sX,rfl,W⟩:=hrel;clear oM;cases gk with
      |zero=>
       obtain rfl:k=8:=by omega
       go_wp2_with fail;go_roundg g;case measure=>omega
       case rel=>exact⟨L+1,by omega,by go_num,by rw[show(L+1)*8=L*8+8 by omega];exact W.out⟩
      |succ g2=>
       have Ad:=λwz=>Hp (kV s.fl L) z k (by omega) wz
       have aa:=vM s.fl L k (by omega);rw[aa] at Ad;obtain⟨av,au,ak,a,c,d,e⟩:=W.out.1.at_;have ec:(s.fmid (L*8+k)).now.length=s.now.length:=rfl;obtain⟨-,⟨ax,rfl,q1,q2⟩,q3,q4⟩:=c.cell (by omega);obtain⟨-,⟨aD,rfl,q5,q6⟩,q7,q8⟩:=d.cell (by omega);have k0:wr.cell? ⟨b,0,none⟩=some (.slice (some ⟨gn,0,none⟩) s.now.length ax):=by rw[a.cell];rfl
       have k1:wr.cell? ⟨b,1,none⟩=some (.slice (some ⟨gl,0,none⟩) s.now.length aD):=by rw[a.cell];rfl
       by_cases aj:L*8+k<s.now.length
       ·have k2:wr.cell? ⟨gn,L*8+k,none⟩=some (.int .u64 (s.now.getD (L*8+k) 0)):=(q3 _ (by omega)).trans (cG aj)
        have k3:wr.cell? ⟨gl,L*8+k,none⟩=some (.int .u64 ((gK s (L*8+k)).getD (L*8+k) 0)):=(q7 _ (by omega)).trans (cG (by rw[show(s.fmid (L*8+k)).last=gK s (L*8+k) from rfl,zr,ac.out];exact aj));have k5:wr.frozen? ⟨gl,L*8+k,none⟩=false:=q8 _;have S2:=ar (W.out.1.drew.setLast (by omega) (L*8+k) (s.now.getD (L*8+k) 0));clear a c d e q3 q4 q7 q8 aa;cases Z:s.fl.getD (L*8+k) false
        ·rw[Z] at Ad
         have HM:=ar Z;clear Z;go_wp2_with fail;go_roundg g2;case measure=>omega
         case rel=>
          refine⟨k+1,by omega,by go_num,?_,W.out.2⟩;have U:gK s (L*8+(k+1))=gK s (L*8+k):=oC s _ _ λj J ah=>by
           by_cases h1:j=L*8+k
           ·subst h1;rw[HM.out] at ah;cases ah
           ·omega
          have :=W.out.1;unfold iN.fmid at this ⊢;rw[U];exact this
        ·rw[Z] at Ad
         have HM:=ar (FE s (L*8+k) Z);clear Z;generalize s.now.getD (L*8+k) 0=x at *;generalize (gK s (L*8+k)).getD (L*8+k) 0=y at *;go_wp2_with fail
         go_region
         go_wp2_with fail;go_roundg g2;case measure=>omega
         case rel=>
          refine⟨k+1,by omega,by go_num,?_,W.out.2.drew.setCell (by simp) _⟩;have :=S2.out;unfold iN.fmid at this ⊢;rw[show L*8+(k+1)=L*8+k+1 by omega,HM.out];exact this
       ·have U:gK s (L*8+k)=gK s s.now.length:=oC s _ _ λj J _=>by rw[ac.out] at J;omega
        have EL:=ar U;obtain⟨vf,w3,p0,p1,p2,p3⟩:=W.out.1.clear;have P2:=ar p2;have P3:=ar (W.out.2.trans' p3);clear a c d e q3 q4 q7 q8 aa U p2 p3;go_wp2_with fail;rw[iu];go_ret;refine⟨rfl,?_,P3.out⟩;have :=P2.out;unfold iN.fmid at this;rw[EL.out] at this;exact this
    ·rw[UE] at hq
     have ai:=ar UE;clear UE;go_wp2_with(first|(with_reducible refine gL 97 nC.out ?_)|(with_reducible refine gS 97 ae.out ?_)|(with_reducible refine gL 97 X5.out ?_));go_roundg g;case measure=>omega
     case rel=>
      refine⟨L+1,by omega,by go_num,?_,oM.out.2⟩;have U:gK s ((L+1)*8)=gK s (L*8):=oC s _ _ λj J Z=>by
       by_cases h1:L*8<=j/\j<L*8+8
       ·have :=Ko ai.out (j-L*8)
        rw[vM _ _ _ (by omega),show L*8+(j-L*8)=j by omega,Z] at this;cases this
       ·omega
      have :=oM.out.1;unfold iN.fmid at this ⊢;rw[U];exact this
 ·rw[hg] at G
  have H:=ar h;rw[aB rfl,aB rfl];clear hg h;go_enter func103,ntmps103;go_wp2_with fail;go_step3;go_wp2_with(go_at_call 88;refine G.out.mono ?_;rintro e w' ⟨rfl,rfl⟩);rw[iu];go_ret;exact⟨rfl,H.out,ay.refl _ _⟩
theorem Tryz.info_marks:(prog.info? 97).map (λi=>(i.zero,i.size,i.bytes))=some (some (.agg (Array.replicate 8 (.bool false))),8,8):=by kernel_rfl
def QW (w:World) (xs:List Int) (e:Ending) (w':World):Prop:=
 ∃v g,e= .returned v/\eQ w' v g 56 1 xs.length (aO xs)/\(xs.length≠0->w.heap.size<=g/\g<w'.heap.size)/\ay [] w w'
theorem QX (h:Reads w v g (aO xs))(hn:xs.length<=10000):
  Calls prog 90 #[v] w (QW w xs):=by
 obtain⟨a,cap,rfl,h1,h2,Z⟩:=h;have e1:=λ(wz:World) (a:Option Addr) (n c:Nat)=>Lib.run_eql_slice_nil (P:= prog) wz 71 56 a n c 0 0 underlying71
 cases a with
 |none=>
  have hz:xs=[]:=by
   by_cases hx:aO xs=[]
   ·cases xs<;>simp_all[aO]
   ·obtain⟨-,off,U,-⟩:=Z hx;cases U
  subst hz;clear Z;go_enter func90,ntmps90;go_wp2_with fail;go_ret;exact⟨_,0,rfl,eQ.nil _ _ _ _,λh=>absurd rfl h,ay.refl _ _⟩
 |some ad=>
  obtain⟨i0,hi,ac,af,ae⟩:=cr Tryz.info_u64;have z:∀j u,(aO xs)[j]? =some u->(w.alloc (.cells #[] 56)).cell? (ad.add j)=some u:=by
   intro j u hu;have hj:j<(aO xs).length:=(List.getElem?_eq_some_iff.1 hu).1;obtain⟨hg,off,U,hc⟩:=Z (by intro e;rw[e] at hj;simp at hj);cases U;have W:(⟨g,off,none⟩:Addr).add j=⟨g,off+j,none⟩:=by unfold Addr.add;split<;>simp_all
   rw[W,aK (w:=w) (Below.heap_alloc _ _ _ hg),hc j hj,hu]
  have J:(w.alloc (.cells #[] 56)).ownsRow w.heap.size 56 1 (.slice (some ⟨w.heap.size,0,none⟩) 0 0) 0 []:=World.ownsRow_made w #[] 0 (aG _) (by simp[maxLen]) (by simp);have HC:=ar z;have HO:=ar J;clear z J Z;rw[aZ] at h1 ⊢;go_enter func90,ntmps90;go_wp2_with(at_builtin;refine dw _ rfl _ _ 71 rfl w.heap.size 56 i0 (.int .u64 0) 1 8 underlying71 hi ac af ae rfl (by decide) (.slice (some ⟨w.heap.size,0,none⟩) 0 0) _ _ rfl HO.out ad xs.length cap (aO xs) rfl (by rw[aZ];omega) HC.out (eF xs) (by unfold maxLen;omega) (by omega) (by simp) ?_;intro v' w1 G y _);obtain⟨g',U,V⟩:=eQ.of_row G;have H:QW w xs (.returned v') w1:=by
   refine⟨v',g',rfl,by simpa using U,λaa=> ?_,?_⟩
   ·have :=V (by omega)
    exact⟨this.1,((by simpa using U:eQ w1 v' g' 56 1 xs.length (aO xs)).cell aa).1⟩
   ·have hk:=ay.of_grown (l:=[]) (((World.grownBy_alloc w (.cells #[] 56) none))) (by simp)
    have ag:ay [w.heap.size] (w.alloc (.cells #[] 56)) w1:=ay.of_grown y (by intro k hk;simp[Value.ownBlock] at hk;subst hk;simp);exact hk.trans ag (by simp)
  have HH:=ar H;clear G y U V H;go_wp2_with fail;go_ret;exact HH.out
def Made (w:World) (xs:List Int) (e:Ending) (w':World):Prop:=
 ∃b gn gl gf,e= .returned (.pointer (some ⟨b,0,none⟩))/\dQ w' b gn gl gf { now:=xs,last:=xs,fl:=List.replicate ((xs.length+7)/8*8) false,deeds:=0,fused:=false,left:=0 }/\
  (w.heap.size<=b/\w.heap.size<=gn/\w.heap.size<=gl/\w.heap.size<=gf)/\ay [] w w'
theorem FH{W:World}{Z V v3:Value}{U:Nat}(hn:xs.length<=10000)(hk:ay [] w W)(o1:eQ W Z U 56 1 xs.length (aO xs))(o2:eQ W V J 56 1 xs.length (aO xs))
  (o3:eQ W v3 G 97 8 ((xs.length+7)/8) (bools (List.replicate ((xs.length+7)/8*8) false)))
  (hz:xs.length≠0->(w.heap.size<=U/\w.heap.size<=J/\w.heap.size<=G)/\U≠J/\U≠G/\J≠G):
  Made w xs (.returned (.pointer (some ⟨W.heap.size,0,none⟩))) (W.alloc (.cells #[Z,V,v3,.int .i64 0,.bool false,.int .i64 0] 95)):=by
 have y:=hk.size;by_cases z:xs.length=0
 ·refine⟨W.heap.size,W.heap.size,W.heap.size,W.heap.size,rfl,⟨hn,rfl,by simp,λh=>absurd z h,Z,V,v3,bf.new _ _ _,?_,?_,?_⟩,⟨y,y,y,y⟩,hk.alloc _⟩
  ·exact(o1.alloc _).anyG z _
  ·exact(o2.alloc _).anyG z _
  ·exact(o3.alloc _).anyG (by omega) _
 ·obtain⟨⟨a1,a2,a3⟩,a4,a5,a6⟩:=hz z
  have l1:=(o1.cell z).1;have l2:=(o2.cell z).1;have l3:=(o3.cell (by omega)).1;exact⟨W.heap.size,U,J,G,rfl,⟨hn,rfl,by simp,λ_=>⟨⟨by omega,by omega,by omega⟩,a4,a5,a6⟩,Z,V,v3,bf.new _ _ _,o1.alloc _,o2.alloc _,o3.alloc _⟩,⟨y,a1,a2,a3⟩,hk.alloc _⟩
theorem Kp (n:Nat):(madeCells (Array.replicate 8 (Value.bool false)) (n*8)).toList=bools (List.replicate (n*8) false):=by
 have :=nZ n;simpa[Builtin.zeroCells,madeCells,Value.cells] using this
theorem yo{q:Nat}{mc:Array Value}(z:q<=1250)(h:mc.toList=bools (List.replicate (q*8) false)):
  eQ (w.alloc (.cells mc 97)) (.slice (some ⟨w.heap.size,0,none⟩) q q) w.heap.size 97 8 q (bools (List.replicate (q*8) false)):=by
 have y:mc.size=q*8:=by rw[<-cV,h];simp[bools]
 refine⟨by simp[bools],_,q,rfl,aG _,by unfold maxLen;omega,λ_=>⟨rfl,mc,bf.new _ _ _,y,?_⟩⟩;rw[<-h,aW (by rw[cV];omega)]
theorem aav (h:Reads w v g (aO xs))(U:xs.length<=10000):
  Calls prog 42 #[v] w (Made w xs):=by
 have H3:=ar h;obtain⟨a,cap,rfl,h1,h2,h3⟩:=h;clear h3;rw[aZ] at *;unfold maxLen at h2;go_enter func42,ntmps42;go_wp2_with fail;have V:∀G:World,(Instr.makeSlice 93 (.int .i64 (((xs.length:Int)+8-1)/8)) (.int .i64 (((xs.length:Int)+8-1)/8))).run prog G=
   .ok (.slice (some ⟨G.heap.size,0,none⟩) ((xs.length+7)/8) ((xs.length+7)/8)) (G.alloc (.cells (madeCells (Array.replicate 8 (.bool false)) ((xs.length+7)/8*8)) 97)):=λG=>by
  obtain⟨i0,hi,ac,af,ae⟩:=cr Tryz.info_marks;have :=run_make (P:= prog) G 93 97 i0 _ underlying93 hi ac .i64 .i64 (((xs.length:Int)+8-1)/8) (((xs.length:Int)+8-1)/8) (by omega) (by omega) (by rw[ae];omega) (by omega);rw[af,show(((xs.length:Int)+8-1)/8).toNat=(xs.length+7)/8 by omega] at this;exact this
 obtain⟨mc,Z⟩:∃mc,mc=madeCells (Array.replicate 8 (.bool false)) ((xs.length+7)/8*8):=⟨_,rfl⟩;have z:Hid (mc.toList=bools (List.replicate ((xs.length+7)/8*8) false)):=by rw[Z];exact Kp _
 rw[<-Z] at V;clear Z;go_region_with (go_at_call 90;refine(QX (g:=g) (xs:=xs) (H3.out.keep (l:=[]) ?hk (by simp)) U).mono ?_;(case hk=>(repeat (first|exact ay.refl _ _|assumption|refine ay.drew ?_|refine ay.alloc ?_ _|refine ay.trans (l':=[]) ?_ (by assumption) (by simp))));rintro e w' ⟨v1,g1,rfl,o1,z1,y⟩;obtain⟨a1,c1,rfl,_,_⟩:=o1.val;(have W:=ar o1);clear o1)
 all_goals go_wp2_with fail
 all_goals go_ret
 ·rename_i w1 g2 z2 k2 a2 c2 _ _ O2 _ _
  have J:ay [] w w.drew:=(ay.refl _ _).drew;have hw:w.drew.heap.size=w.heap.size:=rfl;have M:=FH (w:=w) U (((J.trans k2 (by simp)).trans y (by simp)).alloc (.cells mc 97)) ((O2.out.keep y (by simp)).alloc _) (W.out.alloc _) (yo (by omega) z.out) (λh=>by
   have y2:=z2 h;have y1:=z1 h;have :=k2.size;have :=y.size;refine⟨⟨?_,?_,?_⟩,?_,?_,?_⟩<;>omega)
  rw[show(w'.alloc (.cells mc 97)).heap.size=w'.heap.size+1 by simp] at M;exact M
 ·rename_i w1 g2 z2 k2 a2 c2 _ _ O2 _ _
  have J:ay [] w w.drew:=(ay.refl _ _).drew;have hw:w.drew.heap.size=w.heap.size:=rfl;have hs:(w1.alloc (.cells mc 97)).heap.size=w1.heap.size+1:=by simp
  exact FH (w:=w) U (((J.trans k2 (by simp)).alloc (.cells mc 97)).trans y (by simp)) ((O2.out.alloc (.cells mc 97)).keep y (by simp)) W.out ((yo (w:=w1) (by omega) z.out).keep y (by simp)) (λh=>by
   have y2:=z2 h;have y1:=z1 h;have :=k2.size;have :=y.size;refine⟨⟨?_,?_,?_⟩,?_,?_,?_⟩<;>omega)
 ·rename_i w1 g2 z2 k2 a2 c2 _ _ O2 _ _
  have J:ay [] w w.drew:=(ay.refl _ _).drew;have hw:w.drew.heap.size=w.heap.size:=rfl;have hs:(w.alloc (.cells mc 97)).drew.heap.size=w.heap.size+1:=by
   show(w.alloc (.cells mc 97)).heap.size=_;simp
  have aa:ay [] w (w.alloc (.cells mc 97)).drew:=((ay.refl _ _).alloc _).drew;exact FH (w:=w) U ((aa.trans k2 (by simp)).trans y (by simp)) (O2.out.keep y (by simp)) W.out (((yo (w:=w) (by omega) z.out).drew.keep k2 (by simp)).keep y (by simp)) (λh=>by
   have y2:=z2 h;have y1:=z1 h;have :=k2.size;have :=y.size;refine⟨⟨?_,?_,?_⟩,?_,?_,?_⟩<;>omega)
def pV (n:Int):Nat:=(min (max n 0) 10000).toNat
theorem UF (n:Int):pV n<=10000:=by unfold pV;omega
theorem Made.weaken{z:World}{e:Ending}(h:Made z xs e w')(y:ay [] w z):Made w xs e w':=by
 obtain⟨b,gn,gl,gf,J,G,⟨V,h4,Z,W⟩,U⟩:=h;have :=y.size;exact⟨b,gn,gl,gf,J,G,⟨by omega,by omega,by omega,by omega⟩,y.trans U (by simp)⟩
theorem QY (w:World)(n:Int):
  Calls prog 22 #[.int .i64 n] w (Made w (List.replicate (pV n) 0)):=by
 obtain⟨i0,hi,V,W,aa⟩:=cr Tryz.info_u64;have U:=UF n;have J:(Instr.makeSlice 71 (.int .i64 (pV n:Int)) (.int .i64 (pV n:Int))).run prog w=
   .ok (.slice (some ⟨w.heap.size,0,none⟩) (pV n) (pV n)) (w.alloc (.cells (madeCells #[.int .u64 0] (pV n)) 56)):=by
  have :=run_make (P:= prog) w 71 56 i0 _ underlying71 hi V .i64 .i64 (pV n:Int) (pV n:Int) (by omega) (by omega) (by rw[aa];omega) (by omega);rw[W,aJ,Nat.mul_one] at this;exact this
 have hr:Reads (w.alloc (.cells (madeCells #[.int .u64 0] (pV n)) 56)) (.slice (some ⟨w.heap.size,0,none⟩) (pV n) (pV n)) w.heap.size (aO (List.replicate (pV n) 0)):=by
  refine eQ.reads (T:= 56) (n:=pV n) ⟨by simp[aO],_,pV n,rfl,aG _,by unfold maxLen;omega,λ_=>⟨rfl,_,bf.new _ _ _,by simp[size_madeCells],?_⟩⟩;rw[toList_madeCells_one,Ee,aW (by simp[aO])]
 have Z:=ar ((aav hr (by simpa using U)).mono λe w' h=>h.weaken ((ay.refl _ w).alloc _));clear hr;have y:((pV n:Nat):Int)=min (max n 0) 10000:=by unfold pV;omega
 generalize pV n=q at *;rcases (show n<0\/(0<=n/\n<=10000)\/10000<n by omega) with h|⟨h,h'⟩|h
 ·obtain rfl:q=0:=by omega
  clear y U;simp only[Int.natCast_zero] at J;go_enter func22,ntmps22;go_wp2_with fail;refine Z.out.mono ?_;intro e w1 z;have G:=ar z;obtain⟨b,gn,gl,gf,rfl,-,-,-⟩:=z;go_wp2_with fail;go_ret;exact G.out
 ·obtain rfl:n=(q:Int):=by omega
  clear y;go_enter func22,ntmps22;go_wp2_with fail;refine Z.out.mono ?_;intro e w1 z;have G:=ar z;obtain⟨b,gn,gl,gf,rfl,-,-,-⟩:=z;go_wp2_with fail;go_ret;exact G.out
 ·obtain rfl:q=10000:=by omega
  clear y U;simp only[show((10000:Nat):Int)=10000 from rfl] at J;generalize madeCells #[Value.int .u64 0] 10000=mc at *;generalize List.replicate 10000 (0:Int)=xs at *;go_enter func22,ntmps22;go_wp2_with fail;refine Z.out.mono ?_;intro e w1 z;have G:=ar z;obtain⟨b,gn,gl,gf,rfl,-,-,-⟩:=z;go_wp2_with fail;go_ret;exact G.out
theorem Tryz.info_pair:(prog.info? 58).map (λi=>(i.zero,i.size,i.bytes))=some (some (.agg #[.int .i64 0,.int .u64 0]),2,16):=by kernel_rfl
theorem Kq (n:Nat)(V:n<=100000)(m:Int)(J:m=(n:Int))(w:World):(Instr.makeSlice 54 (.int .i64 m) (.int .i64 m)).run prog w=
  .ok (.slice (some ⟨w.heap.size,0,none⟩) n n) (w.alloc (.cells (madeCells #[.int .i64 0,.int .u64 0] (n*2)) 58)):=by
 subst J;obtain⟨U,G,h,y,z⟩:=cr Tryz.info_pair;have :=run_make (P:= prog) w 54 58 U _ underlying54 G h .i64 .i64 (n:Int) (n:Int) (by omega) (by omega) (by rw[z];omega) (by omega);rw[y,aJ] at this;exact this
theorem Kr (w:World)(n:Nat)(y:n<=100000):eQ (w.alloc (.cells (madeCells #[.int .i64 0,.int .u64 0] (n*2)) 58)) (.slice (some ⟨w.heap.size,0,none⟩) n n) w.heap.size 58 2 n (iz (List.replicate n (0,0))):=by
 have h:(madeCells #[Value.int .i64 0,Value.int .u64 0] (n*2)).size=n*2:=by rw[<-cV,zq,o5,bj]
 refine⟨by rw[o5,bj],_,n,rfl,aG _,by unfold maxLen;omega,λ_=>⟨rfl,_,bf.new _ _ _,h,?_⟩⟩;rw[<-zq,aW (by rw[cV];omega)]
end Go.Proofs.YtepbpdipenedhaaGreatDoor
namespace Go.Proofs.YtepbpdipenedhaaGreatDoor
open Go.Proofs.Tryz
variable{w w':World}{G J b g gf gl gn gp k n y:Nat}{s:iN}{P:Program}{ty:TypeId}{l:List Bool}{v:Value}{B X ws xs:List Int}{ps qs:List (Int×Int)}{i x:Int}
def jy (ws:List Int):List Int:=ws.take 3128++List.replicate (3128-ws.length) 0
theorem gT (ws:List Int):(jy ws).length=3128:=by simp only[jy,aD,aI,bj];omega
theorem sY (ws:List Int)(i:Nat):(jy ws).getD i 0=if i<3128 then ws.getD i 0 else 0:=by
 simp only[jy,aj,gj,aI,cy,bb];by_cases h:i<3128
 ·by_cases y:i<ws.length
  ·rw[aB (by omega),aB h,aB h]
  ·rw[aA (by omega),aB (by omega),aB h,aP (by omega)];rfl
 ·rw[aA (by omega),aA (by omega),aA h];rfl
theorem Ks (h:J9 ps n)(k:J9 qs n):J9 (ps++qs) n:=λp y=>(aR.1 y).elim (h p) (k p)
theorem Bn (h:J9 ps n)(m:Nat):J9 (ps.take m) n:=λp y=>h p (bQ y)
theorem UG (n:Nat):J9 [] n:=λp h=>by simp at h
theorem UH (y:0<=i)(z:i<n):J9 [(i,x)] n:=λp h=>by
 rw[au] at h;subst h;exact⟨y,z⟩
def jn (B:List Int) (ps:List (Int×Int)):List (Int×Int):=(List.range ps.length).map λk=>(ja ps k,(az B (ps.take k)).getD (ja ps k).toNat 0)
theorem o6 (B:List Int)(ps:List (Int×Int)):(jn B ps).length=ps.length:=by simp[jn]
theorem Bo (B:List Int)(ps:List (Int×Int))(k:Nat)(h:k<ps.length):ja (jn B ps) k=ja ps k/\nY (jn B ps) k=(az B (ps.take k)).getD (ja ps k).toNat 0:=by
 have e:(jn B ps).getD k (0,0)=(ja ps k,(az B (ps.take k)).getD (ja ps k).toNat 0):=by
  rw[aj,jn,bC,bV h];rfl
 rw[ja,nY,e];exact⟨rfl,rfl⟩
theorem yq (h:k<ps.length):ja (ps++qs) k=ja ps k:=by
 simp[ja,gj,h]
theorem Hr (B:List Int)(ps:List (Int×Int))(i x:Int):jn B (ps++[(i,x)])=jn B ps++[(i,(az B ps).getD i.toNat 0)]:=by
 have y:ja (ps++[(i,x)]) ps.length=i:=by simp[ja]
 unfold jn;rw[aD,iT,dI,eJ,List.map_singleton,y,List.take_left]
 congr 1
 apply dL;intro k h;rw[bP] at h;rw[yq h,fJ (by omega)]
theorem NA{m:Nat}(h:k<m):ja (ps.take m) k=ja ps k:=by
 simp[ja,h]
theorem sZ (B:List Int)(ps:List (Int×Int))(m:Nat)(h:m<=ps.length):(jn B ps).take m=jn B (ps.take m):=by
 unfold jn;rw[<-List.map_take,List.take_range,aI,cA h];apply dL;intro k y;rw[bP] at y;rw[NA y,List.take_take,cA (by omega)]
theorem FI (l:List Int)(i:Nat)(x:Int):(l.set i x).set i (l.getD i 0)=l:=by
 rw[List.set_set];exact Dj l i 0
theorem Hs (B:List Int)(ps:List (Int×Int))(k:Nat)(h:k<ps.length):
  (az B (ps.take (k+1))).set (ja ps k).toNat ((az B (ps.take k)).getD (ja ps k).toNat 0)=az B (ps.take k):=by
 rw[yh B ps k h];exact FI _ _ _
def zt (m:Int) (n:Nat):Nat:=(min (max m 0) (n:Int)).toNat
theorem QZ (m:Int)(n:Nat):zt m n<=n:=by unfold zt;omega
theorem Eg (m:Int)(n:Nat):((zt m n:Nat):Int)=min (max m 0) (n:Int):=by unfold zt;omega
def Dl (B:List Int) (ps:List (Int×Int)) (i:Int):Int:=if 0<=i/\i<3128 then (az B ps).getD i.toNat 0 else 0
def Mw (i:Int):Bool:=decide (0<=i)&&decide (i<3128)
theorem ru:Mw i=true↔0<=i/\i<3128:=by simp[Mw]
def cu (B X:List Int) (k:Nat):List (Int×Int):=((List.range k).filter λi=>X.getD i 0 != B.getD i 0).map λ(i:Nat)=>((i:Int),X.getD i 0)
theorem zu (B X:List Int)(k:Nat)(h:X.getD k 0=B.getD k 0):cu B X (k+1)=cu B X k:=by
 unfold cu;rw[dI,fM];have :(X.getD k 0 != B.getD k 0)=false:=by simpa using h
 simp only[List.filter_cons,this,List.filter_nil];simp
theorem Kt (B X:List Int)(k:Nat)(h:X.getD k 0≠B.getD k 0):cu B X (k+1)=cu B X k++[((k:Int),X.getD k 0)]:=by
 unfold cu;rw[dI,fM];have :(X.getD k 0 != B.getD k 0)=true:=by simpa using h
 simp only[List.filter_cons,this,List.filter_nil];simp
theorem Ku (B X:List Int)(k:Nat):(cu B X k).length<=k:=by
 unfold cu;rw[bG];have :=fH (λi=>X.getD i 0 != B.getD i 0) (List.range k);simpa using this
end Go.Proofs.YtepbpdipenedhaaGreatDoor
namespace Go.Proofs.YtepbpdipenedhaaGreatDoor
open Go.Proofs.Tryz
open Go.RowKit
variable{w w':World}{G J b g gf gl gn gp k n y:Nat}{s:iN}{P:Program}{ty:TypeId}{l:List Bool}{v:Value}{B X ws xs:List Int}{ps qs:List (Int×Int)}{i x:Int}
def fD (B X:List Int) (h:Value):Array Value:=(aO B++(aO X++[h])).toArray
theorem wY (B X:List Int)(h:Value):(fD B X h).size=B.length+(X.length+1):=by simp[fD,aZ]
theorem Eh (X:List Int)(y:Value){i:Nat}(h:i<B.length):(fD B X y)[i]? =some (.int .u64 (B.getD i 0)):=by
 rw[fD,aC,bg (by rw[aZ];exact h),cG h]
theorem yr (y:Value)(z:B.length=3128){i:Nat}(h:i<X.length):(fD B X y)[3128+i]? =some (.int .u64 (X.getD i 0)):=by
 rw[fD,aC,aT (by rw[aZ];omega),aZ,z,cO,bg (by rw[aZ];exact h),cG h]
theorem qx (h:Value)(y:B.length=3128)(z:X.length=3128):(fD B X h)[6256]? =some h:=by
 rw[fD,aC,aT (by rw[aZ];omega),aZ,y,aT (by rw[aZ];omega),aZ,z];rfl
theorem wZ (y:Value)(z:B.length=3128){i:Nat}(h:i<X.length)(x:Int):(fD B X y).setIfInBounds (3128+i) (.int .u64 x)=fD B (X.set i x) y:=by
 unfold fD;rw[ag,cQ _ _ (by rw[aZ];omega),aZ,z,cO,List.set_append_left _ _ (by rw[aZ];exact h),ku]
theorem xa (h:Value)(y:B.length=3128)(z:X.length=3128)(v:Value):(fD B X h).setIfInBounds 6256 v=fD B X v:=by
 unfold fD;rw[ag,cQ _ _ (by rw[aZ];omega),aZ,y,cQ _ _ (by rw[aZ];omega),aZ,z];rfl
structure jo (w:World) (b gp:Nat) (B X:List Int) (us:List (Int×Int)):Prop where
 lb:B.length=3128
 lx:X.length=3128
 at_:∃vp,bf w b (fD B X vp) 119/\w.ownsRow (b+1) 139 2 vp us.length (iz us)/\∀k,vp.ownBlock=some k->k=gp
structure eT (w:World) (b gp:Nat) (B:List Int) (ps:List (Int×Int)):Prop where
 raw:jo w b gp B (az B ps) (jn B ps)
 inp:J9 ps 3128
theorem jo.keep{G:List (Int×Int)}(h:jo w b y B X G){l:List Nat}(J:ay l w w')(V:b∉l)(hg:y∉l):jo w' b y B X G:=by
 obtain⟨lb,lx,W,Z,U,z⟩:=h;exact⟨lb,lx,W,Z.keep J V,ct U J λk e=>by rw[z k e];exact hg,z⟩
theorem eT.keep(h:eT w b y B ps){l:List Nat}(G:ay l w w')(z:b∉l)(J:y∉l):eT w' b y B ps:=
 ⟨h.raw.keep G z J,h.inp⟩
theorem jo.lt{y:List (Int×Int)}(h:jo w b G B X y):b<w.heap.size:=by
 obtain⟨lb,lx,V,z,J,U⟩:=h;exact z.lt
theorem jo.cell0{y:List (Int×Int)}(h:jo w b G B X y){i:Nat}(J:i<3128):w.cell? ⟨b,i,none⟩=some (.int .u64 (B.getD i 0)):=by
 obtain⟨lb,lx,W,z,U,V⟩:=h;rw[z.cell,Eh _ _ (by omega)]
theorem jo.cell1{y:List (Int×Int)}(h:jo w b G B X y){i:Nat}(J:i<3128):w.cell? ⟨b,3128+i,none⟩=some (.int .u64 (X.getD i 0)):=by
 obtain⟨lb,lx,W,z,U,V⟩:=h;rw[z.cell,yr _ lb (by omega)]
theorem xb (i:Int)(w:World):Calls prog 94 #[.int .i64 i] w λe w'=>e= .returned (.bool (Mw i))/\w=w':=by
 by_cases h:0<=i
 ·by_cases y:i<3128
  ·rw[ru.2 ⟨h,y⟩]
   go_enter func94,ntmps94;go_wp2;go_ret;exact⟨rfl,rfl⟩
  ·rw[show Mw i=false by simp[Mw];omega]
   go_enter func94,ntmps94;go_wp2;go_ret;exact⟨rfl,rfl⟩
 ·rw[show Mw i=false by simp[Mw];omega]
  go_enter func94,ntmps94;go_wp2;go_ret;exact⟨rfl,rfl⟩
theorem NB{z:List (Int×Int)}(h:jo w b J B X z)(i:Int):
  Calls prog 127 #[.pointer (some ⟨b,0,none⟩),.int .i64 i] w λe w'=>e= .returned (.int .u64 (if Mw i=true then X.getD i.toNat 0 else 0))/\w=w':=by
 have y:=ar (xb i w);cases hi:Mw i
 ·rw[hi] at y
  rw[aA (by simp)];clear hi h;go_enter func127,ntmps127;go_wp2_with(go_at_call 94;refine y.out.mono ?_;rintro e w' ⟨rfl,rfl⟩);go_ret;exact⟨rfl,rfl⟩
 ·rw[hi] at y
  rw[aB rfl];obtain⟨G,V⟩:=ru.1 hi;clear hi;obtain⟨i,rfl⟩:=b7 G;have U:=h.cell1 (i:=i) (by omega);rw[aJ];generalize X.getD i 0=x at *;clear h;go_enter func127,ntmps127;go_wp2_with(go_at_call 94;refine y.out.mono ?_;rintro e w' ⟨rfl,rfl⟩);go_ret;exact⟨rfl,rfl⟩
theorem nE (h:eT w b y B ps)(i:Int):
  Calls prog 127 #[.pointer (some ⟨b,0,none⟩),.int .i64 i] w λe w'=>e= .returned (.int .u64 (Dl B ps i))/\w=w':=by
 have :=NB h.raw i;rw[show(if Mw i=true then (az B ps).getD i.toNat 0 else 0)=Dl B ps i by unfold Dl;simp only[ru]] at this;exact this
def lU:Array Value:=fD (jy []) (jy []) (.slice none 0 0)
theorem Kv (w:World):(zeroValue 119).run prog w= .ok (.agg lU) w:=by kernel_rfl
theorem ry:(prog.info? 116).map (·.size)=some 3128:=by kernel_rfl
theorem nG:(prog.info? 56).map (·.size)=some 1:=by kernel_rfl
theorem tj (B X:List Int)(h:Value):(fD B X h).toList=aO B++(aO X++[h]):=rfl
theorem FJ{y:Value}(z:bf w b (fD B X y) 119)(lb:B.length=3128):
  (loadVar 116 ⟨b,0,none⟩).run prog w= .ok (.agg (aO B).toArray) w:=by
 refine bE b 0 (aO B) underlying116 rfl (by rw[aZ,lb];exact ry) λj h=> ?_
 rw[aZ] at h;rw[aV,z.cell,Eh _ _ h,cG h]
theorem Bp{y:Value}(z:bf w b (fD B X y) 119)(lb:B.length=3128)(lx:X.length=3128):
  (loadVar 116 ⟨b,3128,none⟩).run prog w= .ok (.agg (aO X).toArray) w:=by
 refine bE b 3128 (aO X) underlying116 rfl (by rw[aZ,lx];exact ry) λj h=> ?_
 rw[aZ] at h;rw[z.cell,yr _ lb h,cG h]
theorem j6{T:Nat}{c y:Array Value}(h:bf w b c T):bf (w.setRow b y) b y T:=setRow_heap w b c y T _ h
theorem Ht{h:Value}(y:bf w b (fD B X h) 119)(lb:B.length=3128)(lx:X.length=3128)(Y:List Int)(z:Y.length=3128):
  ∃w',(storeVar 116 ⟨b,3128,none⟩ (.agg (aO Y).toArray)).run prog w= .ok () w'/\bf w' b (fD B Y h) 119/\ay [b] w w':=by
 refine⟨_,iL b 3128 (aO Y) _ (by rw[aZ,z];exact ry) y (by rw[wY,aZ];omega) (eF Y),?_,(ay.refl _ _).setRow (by simp) _⟩;have e:((fD B X h).toList.take 3128++aO Y++(fD B X h).toList.drop (3128+(aO Y).length)).toArray=fD B Y h:=by
  rw[tj,List.take_left' (by rw[aZ,lb]),<-List.drop_drop,List.drop_left' (by rw[aZ,lb]),List.drop_left' (by rw[aZ,aZ,lx,z]),ba];rfl
 rw[e];exact j6 y
theorem Kw (ws:List Int):aO (jy ws)=(aO ws).take 3128++(aO (jy [])).drop ((aO ws).take 3128).length:=by
 apply bW;intro j;have h:((aO ws).take 3128).length=min 3128 ws.length:=by rw[aI,aZ]
 by_cases y:j<3128
 ·rw[cG (by rw[gT];exact y),sY,aB y]
  by_cases z:j<ws.length
  ·rw[bg (by rw[h];omega),cy,aB y,cG z]
  ·rw[aT (by rw[h];omega),cg,h,cG (by rw[gT];omega),sY]
   have :ws.getD j 0=0:=by rw[aj,aP (by omega)];rfl
   rw[this,aB (by omega)];rfl
 ·rw[aP (by rw[aZ,gT];omega),aP]
  rw[aD,bu,h,aZ,gT];omega
theorem FK (z:bf w b lU 119)(h:Reads w v g (aO ws)):
  ∃n w',(∀ty,(Builtin.copy_ #[71,71] ty #[.slice (some ⟨b,0,none⟩) 3128 3128,v]).run prog w= .ok n w')/\bf w' b (fD (jy ws) (jy []) (.slice none 0 0)) 119/\ay [b] w w':=by
 obtain⟨a,cap,rfl,h1,h2,U⟩:=h;rw[aZ] at *;by_cases W:ws.length=0
 ·obtain rfl:ws=[]:=bc W
  exact⟨_,w,λty=>run_copy_none (P:= prog) w 71 71 ty 56 _ a 3128 3128 0 cap underlying71 nG (by simp),z,ay.refl _ _⟩
 ·obtain⟨hg,off,rfl,V⟩:=U (by intro e;have :=b8 List.length e;rw[aZ,b9] at this;omega)
  have G:((aO ws).take 3128).length=min ws.length 3128:=by rw[aI,aZ,Nat.min_comm]
  have Z:lU.size=6257:=by rw[lU,wY,gT]
  refine⟨_,_,λty=>run_copy_row (P:= prog) w 71 71 ty 56 b 0 3128 3128 ⟨g,off,none⟩ ws.length cap lU 119 ((aO ws).take 3128) underlying71 nG z G ?_ ?_ ?_,?_,(ay.refl _ _).setRow (by simp) _⟩
  ·intro j u y
   rw[cy] at y;split at y
   ·have J:j<(aO ws).length:=(List.getElem?_eq_some_iff.1 y).1
    rw[aZ] at J;rw[add_plain,V j J,y]
   ·cases y
  ·rw[G,Z];omega
  ·exact λu y=>eF ws u (bQ y)
  ·have e:(lU.toList.take 0++(aO ws).take 3128++lU.toList.drop (0+((aO ws).take 3128).length)).toArray=fD (jy ws) (jy []) (.slice none 0 0):=by
    rw[lU,tj,eI,bT,aV,List.drop_append_of_le_length (by rw[G,aZ,gT];omega),<-ba,<-Kw];rfl
   rw[e];exact j6 z
def Ei (w:World) (B:List Int) (e:Ending) (w':World):Prop:=
 ∃b,e= .returned (.pointer (some ⟨b,0,none⟩))/\w.heap.size<=b/\eT w' b b B []/\ay [] w w'
theorem Bq (h:Reads w v g (aO ws)):
  Calls prog 26 #[v] w (Ei w (jy ws)):=by
 have y:bf (w.alloc (.cells lU 119)) w.heap.size lU 119 :=bf.new w _ _;have eo:ay [] w (w.alloc (.cells lU 119)):=(ay.refl _ _).alloc _;obtain⟨n,w1,V,z,J⟩:=FK y (h.keep eo (by simp));have FL:=FJ z (gT ws);obtain⟨w2,U,G,W⟩:=Ht z (gT ws) (gT []) (jy ws) (gT ws);have HM:Hid (Ei w (jy ws) (.returned (.pointer (some ⟨w.heap.size,0,none⟩))) w2):=by
  refine⟨_,rfl,aG _,⟨⟨gT ws,gT ws,_,G,⟨rfl,.inl ⟨rfl,rfl⟩⟩,by intro k hk;cases hk⟩,UG _⟩,?_⟩;exact(eo.trans J (by simp)).trans W (by simp)
 have Ud:=ar V;have Ue:=ar U;have uI:=ar FL;obtain⟨a,cap,rfl,-,-,-⟩:=h;clear y eo V z J FL U G W;generalize (aO (jy ws)).toArray=Y at *;have aa:=Kv;generalize lU=Z at *;go_enter func26,ntmps26;go_wp2_with(first|((with_reducible show wpList _ _ _ (⟨some 11,_,_,_,_,_⟩::_) _ _);refine gW rfl (.tmp 9) (.tmp 10) 71 71 rfl _ _ rfl rfl (Ud.out _) ?_)|(with_reducible refine gL 116 uI.out ?_)|(with_reducible refine gS 116 Ue.out ?_));go_ret;exact HM.out
theorem Tryz.info_put:(prog.info? 139).map (λi=>(i.zero,i.size,i.bytes))=some (some (.agg #[.int .i64 0,.int .u64 0]),2,16):=by kernel_rfl
def iY (w:World) (b y:Nat) (B:List Int) (ps:List (Int×Int)) (e:Ending) (w':World):Prop:=
 e= .returned (.tuple #[])/\∃h,(h=y\/(w.heap.size<=h/\h<w'.heap.size))/\eT w' b h B ps/\ay [b,y] w w'
def Ae (ps:List (Int×Int)) (i x:Int):List (Int×Int):=if Mw i=true then ps++[(i,x)] else ps
theorem Q0{V:World}{h j:Nat}{W:Int}{U:Value}{o:Obj}(hb:bf w b (fD B (az B ps) U) 119)
  (hg:∀k,U.ownBlock=some k->k=gp) (lb:B.length=3128) (lx:(az B ps).length=3128) (hj:j<3128)
  (he:jn B (ps++[((j:Int),x)])=jn B ps++[((j:Int),W)]) (Z:az B (ps++[((j:Int),x)])=(az B ps).set j x) (ah:J9 (ps++[((j:Int),x)]) 3128)
  (hl:(jn B (ps++[((j:Int),x)])).length=y+1)
  (G:V.ownsRow (b+1) 139 2 (.slice (some ⟨J,0,none⟩) (y+1) h) (y+1) (iz (jn B ps)++[.int .i64 (j:Int),.int .u64 W]))
  (z:(w.alloc o).drew.grownBy V U.ownBlock) (ac:U.ownBlock=some J\/J=w.heap.size+1) (ae:U.ownBlock≠some b):
  iY w b gp B (ps++[((j:Int),x)]) (.returned (.tuple #[])) ((V.setCell ⟨b,6256,none⟩ (.slice (some ⟨J,0,none⟩) (y+1) h)).setCell ⟨b,3128+j,none⟩ (.int .u64 x)):=by
 have af:ay [gp] w V:=((ay.refl [gp] w).alloc o).drew.trans (ay.of_grown (l:=[gp]) z (by intro k hk;rw[hg k hk];simp)) (by simp);have ag:bf V b (fD B (az B ps) U) 119 :=by
  have h1:bf (w.alloc o).drew b (fD B (az B ps) U) 119 :=hb.alloc o;have aj:=h1.lt;unfold bf at h1 ⊢;rw[<-h1];exact z.block b aj (λe=>ae e.symm)
 have ai:b≠J:=by have :=cz G J rfl;omega
 have aa:∀(u v:Value),ay [b] V ((V.setCell ⟨b,6256,none⟩ u).setCell ⟨b,3128+j,none⟩ v):=λu v=>((ay.refl [b] _).setCell (by simp) _).setCell (by simp) _
 refine⟨rfl,J,?_,⟨⟨lb,?_,.slice (some ⟨J,0,none⟩) (y+1) h,?_,?_,?_⟩,ah⟩,?_⟩
 ·rcases ac with e|e
  ·exact .inl (hg _ e)
  ·refine .inr ⟨by omega,?_⟩
   have :=(G.lt J rfl).2;simpa[World.setCell] using this
 ·rw[Z,dW];exact lx
 ·have :=(ag.set 6256 (.slice (some ⟨J,0,none⟩) (y+1) h)).set (3128+j) (.int .u64 x)
  rw[xa _ lb lx,wZ _ lb (by omega)] at this;rw[Z];exact this
 ·rw[hl,he,qf]
  exact ct G (aa _ _) (by intro k hk;cases hk;simpa using eu ai)
 ·intro k hk;cases hk;rfl
 ·exact(af.mono (by simp)).trans (aa _ _) (by simp)
theorem o7 (h:eT w b gp B ps)(hn:ps.length<=1000000)(i x:Int):
  Calls prog 48 #[.pointer (some ⟨b,0,none⟩),.int .i64 i,.int .u64 x] w (iY w b gp B (Ae ps i x)):=by
 have HI:=ar (xb i w);unfold Ae;cases U:Mw i
 ·rw[U] at HI
  rw[aA (by simp)];have HM:Hid (iY w b gp B ps (.returned (.tuple #[])) w):=⟨rfl,gp,.inl rfl,h,ay.refl _ _⟩;clear U h;go_enter func48,ntmps48;go_wp2_with(go_at_call 94;refine HI.out.mono ?_;rintro e w' ⟨rfl,rfl⟩);go_end0;exact HM.out
 ·rw[U] at HI
  rw[aB rfl];obtain⟨h0,h1⟩:=ru.1 U;clear U;obtain⟨j,rfl⟩:=b7 h0;obtain⟨⟨lb,lx,vp,z,Z,hg⟩,inp⟩:=h;obtain⟨i0,U,ac,ag,af⟩:=cr Tryz.info_put;have hj:j<3128:=by omega
  have c1:w.cell? ⟨b,6256,none⟩=some vp:=by rw[z.cell,qx _ lb lx]
  have c2:w.cell? ⟨b,3128+j,none⟩=some (.int .u64 ((az B ps).getD j 0)):=by rw[z.cell,yr _ lb (by omega)]
  have f1:w.frozen? ⟨b,6256,none⟩=false:=z.frozen _;have f2:w.frozen? ⟨b,3128+j,none⟩=false:=z.frozen _;have F1:∀o,(w.alloc o).drew.frozen? ⟨b,6256,none⟩=false:=λo=>(z.alloc o).frozen _
  have F2:∀o,(w.alloc o).drew.frozen? ⟨b,3128+j,none⟩=false:=λo=>(z.alloc o).frozen _
  have au:=z.lt;have E2:∀o,(w.alloc o).drew.cell? ⟨b,3128+j,none⟩=some (.int .u64 ((az B ps).getD j 0)):=λo=>by rw[<-c2];exact aK (w:=w) (Below.heap_alloc _ _ _ z.lt)
  have n1:¬3128+j=6256:=by omega
  have E1:∀o,(w.alloc o).drew.cell? ⟨b,6256,none⟩=some vp:=λo=>by rw[<-c1];exact aK (w:=w) (Below.heap_alloc _ _ _ z.lt)
  have G:vp.ownBlock≠some b:=λe=>by have :=cz Z b e;omega
  obtain⟨a,cap,hv,q1,q2⟩:=ic Z;rw[o6] at Z hv q1;have HE:=ar (Hr B ps (j:Int) x);have Mx:Hid (az B (ps++[((j:Int),x)])=(az B ps).set j x):=by show az B _=_;rw[bJ];rfl
  have AH:Hid (J9 (ps++[((j:Int),x)]) 3128):=Ks inp (UH h0 h1);have HL:Hid ((jn B (ps++[((j:Int),x)])).length=ps.length+1):=by show List.length _=_;rw[o6];simp
  rw[aJ] at HE;subst hv;have HB:=ar z;have HR:=ar Z;have HG:=ar hg;have LB:=ar lb;have LX:=ar lx;clear z Z hg lb lx inp;generalize (az B ps).getD j 0=aa at *;generalize W:ps.length=n at *;have Af:=ar W;clear W;unfold maxLen at q2;go_enter func48,ntmps48;go_wp2_with fail;refine HI.out.mono ?_;rintro e w' ⟨rfl,rfl⟩;go_wp2_with fail
  go_region_law ((refine step_append_lies _ (by rfl) _ _ _ (by rfl) (b+1) 139 i0 _ 2 16 underlying117 U ac ag af rfl (by omega) (.slice a n cap) n _ (by rfl) ((HR.out.alloc _).drew) ⟨w.heap.size,0,none⟩ 1 1 [.int .i64 (j:Int),.int .u64 aa] (by rfl) (by rfl) (iX w [_,_] _ _ rfl) (by simp[Value.oneCell']) (by omega) (by unfold maxLen;omega) (by omega) (by simp;omega) (w.heap.size+1) (by simp) ?_;intro Br ai w1 J y V ah;have ae:=(y.cell_far ⟨b,6256,none⟩ (by simp;omega) (eu G)).trans (E1 _);have Uf:=(y.frozen_far ⟨b,6256,none⟩ (by simp;omega) (eu G)).trans (F1 _);have aj:=(y.cell_far ⟨b,3128+j,none⟩ (by simp;omega) (eu G)).trans (E2 _);have ak:=(y.frozen_far ⟨b,3128+j,none⟩ (by simp;omega) (eu G)).trans (F2 _)))
  all_goals
   have HM:=ar (Q0 HB.out HG.out LB.out LX.out hj HE.out Mx.out AH.out HL.out J y V G);clear J y V ah ae;go_wp2_with fail;go_end0;exact HM.out
end Go.Proofs.YtepbpdipenedhaaGreatDoor
