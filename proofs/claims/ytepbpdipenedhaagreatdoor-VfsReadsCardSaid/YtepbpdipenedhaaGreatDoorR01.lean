/- Lemmas. -/
import Derived.Test.YtepbpdipenedhaaGreatDoorR00
import Derived.RegionTactic
import Derived.Deep.LoopGhost
import Derived.Deep.RegionWith
import Derived.Laws.CopyRow
import Derived.Laws.IdiomCopy
import Derived.Laws.Tables
import Derived.Deep.RegionLaw
import Derived.Deep.AppendLies
set_option maxHeartbeats 2000000
set_option maxRecDepth 100000
namespace Go.Proofs.YtepbpdipenedhaaGreatDoor
open Go.Proofs.Tryz
open Go.RowKit
variable{w w':World}{G U b g gf gl gn gp k n z:Nat}{s:j0}{P:Program}{ty:TypeId}{l:List Bool}{v:Value}{B X ws xs:List Int}{J ps qs:List (Int×Int)}{i x:Int}
theorem fH.mark(h:fH w b gn gl gf s)(W:s.now.length≠0)(j:Nat)(x:Bool):
  fH (w.setCell ⟨gf,j,none⟩ (.bool x)) b gn gl gf { s with fl:=s.fl.set j x }:=by
 obtain⟨n9,ll,fll,G,vn,vl,J,a,c,d,e⟩:=h;obtain⟨⟨p1,p2,p3⟩,p4,U,V⟩:=G W;have z:az [gf] w (w.setCell ⟨gf,j,none⟩ (.bool x)):=(az.refl _ _).setCell (by simp) _;refine⟨n9,ll,by simpa using fll,G,vn,vl,J,a.keep z (by simpa using dK p3),c.keep z (by simpa using U),d.keep z (by simpa using V),?_⟩;simpa[Bw] using e.set j (.bool x)
def zh (fl:List Bool) (q k:Nat):List Bool:=fl.mapIdx λj x=>if q*8<=j/\j<q*8+k then true else x
theorem Sa (fl:List Bool)(q:Nat):zh fl q 0=fl:=by
 apply ck;intro j;simp only[zh,fZ];cases fl[j]? <;>simp
 omega
theorem Sb (fl:List Bool)(q k:Nat):(zh fl q k).set (q*8+k) true=zh fl q (k+1):=by
 apply ck;intro j;simp only[zh,fg,fZ,List.length_mapIdx];by_cases z:q*8+k=j
 ·subst z
  by_cases G:q*8+k<fl.length
  ·simp[G]
  ·simp[G]
 ·rw[aB z]
  cases fl[j]? with
  |none=>simp
  |some x=>
   simp only[fV,Option.some.injEq];by_cases h:q*8<=j/\j<q*8+k
   ·rw[aC h,aC ⟨h.1,by omega⟩]
   ·rw[aB h,aB (by omega)]
def j0.flush (s:j0) (i:Int):j0:=if s.refusal i=0 then { s.count with fl:=zh s.fl (i.toNat/8) 8 } else s
theorem Lc (h:fH w b gn gl gf s)(hf:s.fit)(i:Int):
  Calls prog 102 #[.pointer (some ⟨b,0,none⟩),.int .i64 i] w λe w'=>e= .returned (.int .i64 (s.refusal i))/\fH w' b gn gl gf (s.flush i)/\az [b,gn,gl,gf] w w':=by
 have V:=au (zg h i);by_cases z:s.refusal i=0
 ·obtain⟨hg,i0,i1⟩:=j0.refusal_ok z
  rw[j0.flush,aC z];obtain⟨i,rfl⟩:=cu i0;rw[z] at V ⊢;have ac:=h.n9;have hc:=au (Ex h hf hg);clear z h hf;go_enter func102,ntmps102;go_wp2_with fail;refine V.out.mono ?_;rintro e w' ⟨rfl,rfl⟩;go_wp2_with fail;refine hc.out.mono ?_;rintro e w1 ⟨rfl,h,hk⟩;obtain⟨vn,vl,vf,a,c,d,e⟩:=h.at_;have W:s.count.now.length=s.now.length:=rfl;obtain⟨-,⟨cf,rfl,r1,r2⟩,-,-⟩:=e.cell (by omega);have k0:w1.cell? ⟨b,2,none⟩=some (.slice (some ⟨gf,0,none⟩) ((s.now.length+7)/8) cf):=by rw[a.cell];rfl
  have H:=au h;have HK:=au hk;clear a c d e h hk W;go_wp2_with fail
  go_loopw [23] (λc wr=>∃k:Nat,k<=8/\c= .int .i64 (k:Int)/\fH wr b gn gl gf { s.count with fl:=zh s.fl (i/8) k }/\az [b,gn,gl,gf] w wr) (λc _=>8-(intOf c).toNat)
  case atStart=>exact⟨0,by omega,rfl,by rw[Sa];exact H.out,HK.out.mono (by simp)⟩
  case round=>
   obtain⟨k,uS,rfl,G,J⟩:=hrel;by_cases ag:k<8
   ·have hs:=au (G.mark (show s.now.length≠0 by omega) (i/8*8+k) true)
    obtain⟨aa,ae,af,a,c,d,e⟩:=G.at_;have W:({ s.count with fl:=zh s.fl (i/8) k }:j0).now.length=s.now.length:=rfl;obtain⟨-,-,r3,r4⟩:=e.cell (by omega);have k1:wr.cell? ⟨gf,i/8*8+k,none⟩=some (.bool ((zh s.fl (i/8) k).getD (i/8*8+k) false)):=by
     have :=G.fll;rw[r3 _ (by omega),tC (by rw[this];omega)]
    have k2:wr.frozen? ⟨gf,i/8*8+k,none⟩=false:=r4 _;have U:=au J;clear a c d e r3 r4 G J W k0;generalize (zh s.fl (i/8) k).getD (i/8*8+k) false=y at *;go_wp2
    go_roundw
    case rel=>
     refine⟨k+1,by omega,by go_num,?_,U.out.setCell (by simp) _⟩;rw[<-Sb];exact hs.out
    case measure=>simp[intOf];omega
   ·obtain rfl:k=8:=by omega
    have HP:=au G;have U:=au J;clear G J;go_wp2;go_ret;exact⟨rfl,HP.out,U.out⟩
 ·rw[j0.flush,aB z]
  have h1:(s.refusal i != 0)=true:=by simpa using z
  have H:=au h;generalize s.refusal i=r at *;clear h z;go_enter func102,ntmps102;go_wp2_with(go_at_call 39;refine V.out.mono ?_;rintro e w' ⟨rfl,rfl⟩);go_ret;exact⟨rfl,H.out,az.refl _ _⟩
def mix (c l:List Int) (i:Nat):List Int:=c.take i++l.drop i
theorem VM (c l:List Int):mix c l 0=l:=by simp[mix]
theorem ZV (c l:List Int)(i:Nat)(h:c.length<=i)(z:l.length<=i):mix c l i=c:=by simp[mix,aV h,dF z]
theorem ZX (c l:List Int)(i:Nat)(h:c.length=l.length):(mix c l i).length=l.length:=by
 simp[mix];omega
theorem VN (c l:List Int)(i:Nat)(h:c.length=l.length)(U:i<l.length):mix c l (i+1)=(mix c l i).set i (c.getD i 0):=by
 apply ck;intro j;simp only[mix,fg,iy,aJ,bO,bT,aD,bE,aj];by_cases z:i=j
 ·subst z
  have G:i<c.length:=by omega
  simp[G];rw[aC (by omega),aC (by omega)]
 ·rw[aB z]
  by_cases J:j<i
  ·rw[aC (by omega),aC (by omega),aC (by omega),aC (by omega)]
  ·rw[aB (by omega),aB (by omega)]
   congr 1;omega
theorem fH.setLast(h:fH w b gn gl gf s)(W:s.now.length≠0)(j:Nat)(x:Int):
  fH (w.setCell ⟨gl,j,none⟩ (.int .u64 x)) b gn gl gf { s with last:=s.last.set j x }:=by
 obtain⟨n9,ll,fll,G,vn,vl,J,a,c,d,e⟩:=h;obtain⟨⟨p1,U,p3⟩,p4,p5,V⟩:=G W;have z:az [gl] w (w.setCell ⟨gl,j,none⟩ (.int .u64 x)):=(az.refl _ _).setCell (by simp) _;refine⟨n9,by simpa using ll,fll,G,vn,vl,J,a.keep z (by simpa using dK U),c.keep z (by simpa using p4),?_,e.keep z (by simpa using dK V)⟩;simpa[lT] using d.set j (.int .u64 x)
theorem fH.drew(h:fH w b gn gl gf s):fH w.drew b gn gl gf s:=
 h.keep ((az.refl [] w).drew) (by simp) (by simp)
theorem Oj (w:World):(zeroValue 97).run prog w= .ok (.agg (Array.replicate 8 (.bool false))) w:=by kernel_rfl
theorem qE (n:Nat):(Builtin.zeroCells (Value.agg (Array.replicate 8 (.bool false))).cells n).toList=bools (List.replicate (n*8) false):=by
 apply ck;intro j;simp only[Builtin.zeroCells,Value.cells,bools,List.map_replicate,Array.size_replicate,Array.toList_map,Array.toList_range,bF,bo];by_cases h:j<n*8
 ·have z:j%8<8:=iw _ (by omega)
  rw[cA h];simp[h,z]
 ·rw[aT (by simpa using h)]
  simp[h]
theorem Ic (l:List Bool):∀u∈bools l,u.oneCell'=true:=by
 intro u h;simp only[bools,bH] at h;obtain⟨x,-,rfl⟩:=h;rfl
theorem fH.clear(h:fH w b gn gl gf s):
  ∃z w',w.cell? ⟨b,2,none⟩=some z/\(∀ty,(Builtin.clear_ #[93] ty #[z]).run prog w= .ok (.tuple #[]) w')/\
   fH w' b gn gl gf { s with fl:=List.replicate s.fl.length false }/\az [b,gn,gl,gf] w w':=by
 obtain⟨n9,ll,fll,J,vn,vl,z,a,c,d,e⟩:=h;obtain⟨w',G,W,U⟩:=Eo (P:= prog) (ty:=0) underlying93 Oj rfl (by rw[qE];exact Ic _) e;rw[qE,<-fll] at W;refine⟨z,w',by rw[a.cell];rfl,λty=> ?_,⟨n9,ll,by simpa using fll,J,vn,vl,z,?_,?_,?_,?_⟩,U.mono (by simp)⟩
 ·exact G
 ·by_cases hn:s.now.length=0
  ·obtain⟨V,c1,e1,_,_⟩:=e.val
   have :w'=w:=by
    have hz:(s.now.length+7)/8=0:=by omega
    rw[e1,hz] at G;have h4:(Builtin.clear_ #[93] 0 #[.slice V 0 c1]).run prog w= .ok (.tuple #[]) w:=by
     cases V<;>simp[Builtin.clear_,dQ underlying93]
    rw[h4] at G;exact(Result.ok.inj G).2.symm
   rw[this];exact a
  ·exact a.keep U (by simpa using dK (J hn).1.2.2)
 ·exact c.keepIf U λh=>by simpa using (J h).2.2.1
 ·exact d.keepIf U λh=>by simpa using (J h).2.2.2
 ·exact W
end Go.Proofs.YtepbpdipenedhaaGreatDoor
namespace Go.Proofs.YtepbpdipenedhaaGreatDoor
open Go.Proofs.Tryz
open Go.RowKit
variable{w w':World}{G U b g gf gl gn gp k n z:Nat}{s:j0}{P:Program}{ty:TypeId}{l:List Bool}{v:Value}{B X ws xs:List Int}{J ps qs:List (Int×Int)}{i x:Int}
end Go.Proofs.YtepbpdipenedhaaGreatDoor
namespace Go.Proofs.YtepbpdipenedhaaGreatDoor
open Go.Proofs.Tryz
open Go.RowKit
variable{w w':World}{G U b g gf gl gn gp k n z:Nat}{s:j0}{P:Program}{ty:TypeId}{l:List Bool}{v:Value}{B X ws xs:List Int}{J ps qs:List (Int×Int)}{i x:Int}
section
variable {P:Program} {ops:Array Oper} {rest:List Oper} {o:Oper} {a:Act} {w:World} {Q:Exit->Act->World->Prop}
theorem gH (z:o.guard=none)(ty:TypeId)(x:Operand)(V:o.op= .load ty x)(G:Addr)(U:a.eval x= .pointer (some G))(v:Value)
  (J:(loadVar ty G).run P w= .ok v w) (h:wpList P ops Q rest (a.put o.dst v) w):wpList P ops Q (o::rest) a w:=
 wpList_plain z λ_ W=>by
  unfold Oper.wp execOp;simp only[V,U,Instr.loadAt,Instr.sureAddr,cg,fO,cm,J];exact W _ _ h
theorem pn (z:o.guard=none)(ty:TypeId)(x y:Operand)(W:o.op= .store ty x y)(G:Addr)(V:a.eval x= .pointer (some G))(v:Value)(J:a.eval y=v)(w':World)
  (U:(storeVar ty G v).run P w= .ok () w') (h:wpList P ops Q rest (a.put o.dst undef) w'):wpList P ops Q (o::rest) a w:=
 wpList_plain z λ_ hK=>by
  unfold Oper.wp execOp;simp only[W,V,J,Instr.storeAt,Instr.sureAddr,cg,fO,cm,U];exact hK _ _ h
end
section
variable {P:Program} {ops:Array Oper} {rest:List Oper} {a:Act} {Q:Exit->Act->World->Prop}
theorem gL {w:World}{d:Option Tmp}{x:Operand}{s:String}{J:Array Go.Edge}{t:TypeId}{z:Addr}{v:Value}(T:TypeId)(G:(loadVar T z).run P w= .ok v w)(h:wpList P ops Q rest (a.put d v) w)(U:a.eval x= .pointer (some z):=by with_unfolding_all rfl):wpList P ops Q (⟨d,.load T x,t,s,J,none⟩::rest) a w:=
 gH rfl T x rfl z U v G h
theorem gS {w w':World}{d:Option Tmp}{x y:Operand}{s:String}{U:Array Go.Edge}{t:TypeId}{z:Addr}{v:Value}(T:TypeId)(G:(storeVar T z v).run P w= .ok () w')(h:wpList P ops Q rest (a.put d undef) w')(V:a.eval x= .pointer (some z):=by with_unfolding_all rfl)(J:a.eval y=v:=by with_unfolding_all rfl):wpList P ops Q (⟨d,.store T x y,t,s,U,none⟩::rest) a w:=
 pn rfl T x y rfl z V v J w' G h
end
theorem bW{d:TypeDesc}(g off:Nat)(cs:List Value)(V:P.underlying ty=some d)(hd:(match d with | .struct _ | .array _ _=>true|_=>false)=true)
  (J:(P.info? ty).map (·.size)=some cs.length) (hc:∀j,j<cs.length->w.cell? ⟨g,off+j,none⟩=cs[j]?):(loadVar ty ⟨g,off,none⟩).run P w= .ok (.agg cs.toArray) w:=by
 have hl:(loadCells ⟨g,off,none⟩ cs.length).run P w= .ok cs.toArray w:=
  run_loadCells_list (P:=P) w ⟨g,off,none⟩ cs (λj v G=>by
   have z:(⟨g,off,none⟩:Addr).add j=⟨g,off+j,none⟩:=by unfold Addr.add;split<;>simp_all
   have U:j<cs.length:=(List.getElem?_eq_some_iff.1 G).1;rw[z,hc j U,G])
 cases hq:P.info? ty with
 |none=>simp[hq] at J
 |some i=>
  have W:i.size=cs.length:=by simpa[hq] using J
  have h:(isAgg ty).run P w= .ok true w:=by
   unfold isAgg;rw[cg,dQ V w];cases d<;>simp_all
  simp[loadVar,h,sizeOf,typeInfo,hq,W,hl]
theorem jy{T:TypeId}(g off:Nat)(cs:List Value)(h:Array Value)(J:(P.info? ty).map (·.size)=some cs.length)(V:bh w g h T)(z:off+cs.length<=h.size)
  (U:∀v∈cs,v.oneCell'=true):(storeVar ty ⟨g,off,none⟩ (.agg cs.toArray)).run P w= .ok () (w.setRow g (h.toList.take off++cs++h.toList.drop (off+cs.length)).toArray):=by
 have G:=run_storeCells_at P g off T cs 0 h w V (by simpa using z) U;simp only[dR] at G;cases hq:P.info? ty with
 |none=>simp[hq] at J
 |some i=>
  have W:i.size=cs.length:=by simpa[hq] using J
  simp[storeVar,sizeOf,typeInfo,hq,Value.cells,W,G]
theorem iQ{z:Array Oper}{rest:List Oper}{o:Oper}{a:Act}{Q:Exit->Act->World->Prop}(G:o.guard=none)(d x:Operand)(t U:TypeId)
  (ho:o.op= .call { callee:= .builtin .copy,args:= #[d,x],argTypes:= #[t,U] }) (v u:Value) (hd:a.eval d=v) (W:a.eval x=u) {J:Value} {w':World}
  (V:(Builtin.copy_ #[t,U] o.type #[v,u]).run P w= .ok J w') (h:wpList P z Q rest (a.put o.dst J) w'):wpList P z Q (o::rest) a w:=
 wpList_plain G λ_ hK=>by
  unfold Oper.wp execOp;simp only[ho,resolve,invoke,builtin,cg,fO,cm,List.map_toArray,List.map_cons,List.map_nil,hd,W,V];exact hK _ _ h
theorem Sc (U z G h x4 W V J:Bool)(w:World):(Op.equalIn 10000 97 (.agg (bools [U,z,G,h,x4,W,V,J]).toArray) (.agg #[.bool false,.bool false,.bool false,.bool false,.bool false,.bool false,.bool false,.bool false])).run prog w=
  .ok (!(U||z||G||h||x4||W||V||J)) w:=by
 cases U<;>cases z<;>cases G<;>cases h<;>cases x4<;>cases W<;>cases V<;>cases J<;>kernel_rfl
def noMark (l:List Bool):Bool:= !(l.any id)
theorem eight(h:l.length=8):∃V J G z x4 x5 W U,l=[V,J,G,z,x4,x5,W,U]:=by
 match l,h with
 | [V,J,G,z,x4,x5,W,U],_=>exact⟨V,J,G,z,x4,x5,W,U,rfl⟩
theorem VO (l:List Bool)(h:l.length=8)(w:World):(Op.equalIn 10000 97 (.agg (bools l).toArray) (.agg #[.bool false,.bool false,.bool false,.bool false,.bool false,.bool false,.bool false,.bool false])).run prog w= .ok (noMark l) w:=by
 obtain⟨V,J,G,z,x4,x5,W,U,rfl⟩:=eight h;rw[Sc];simp[noMark,Bool.or_assoc]
theorem Ld (l:List Bool)(h:l.length=8)(k:Nat)(G:k<8)(w:World):(Instr.index 97 (.agg (bools l).toArray) (.int .i64 (k:Int))).run prog w= .ok (.bool (l.getD k false)) w:=by
 obtain⟨x0,V,U,J,x4,x5,x6,W,rfl⟩:=eight h;have z:k=0\/k=1\/k=2\/k=3\/k=4\/k=5\/k=6\/k=7:=by omega
 rcases z with rfl|rfl|rfl|rfl|rfl|rfl|rfl|rfl<;>(show Sem.run _ _ _=_;kernel_rfl)
def iH (s:j0) (m:Nat):List Int:=s.last.mapIdx λj x=>if j<m/\s.fl.getD j false=true then s.now.getD j 0 else x
theorem CM (s:j0)(m:Nat):(iH s m).length=s.last.length:=by simp[iH]
theorem Jz (s:j0):iH s 0=s.last:=by
 apply ck;intro j;simp only[iH,fZ];cases s.last[j]? <;>simp
theorem qT (s:j0)(m G:Nat)(h:∀j,j<s.last.length->s.fl.getD j false=true->(j<m↔j<G)):iH s m=iH s G:=by
 apply ck;intro j;simp only[iH,fZ];cases hj:s.last[j]? with
 |none=>rfl
 |some x=>
  have J:=(List.getElem?_eq_some_iff.1 hj).1;simp only[fV,Option.some.injEq];by_cases z:s.fl.getD j false=true
  ·simp only[z,and_true,h j J z]
  ·rw[aB (λe=>z e.2),aB (λe=>z e.2)]
theorem JA (s:j0)(m:Nat)(G:s.fl.getD m false=true):iH s (m+1)=(iH s m).set m (s.now.getD m 0):=by
 apply ck;intro j;simp only[iH,fg,fZ,List.length_mapIdx];by_cases z:m=j
 ·subst z
  by_cases h:m<s.last.length
  ·rw[aC rfl,aC h,aG h,fV,aC ⟨by omega,G⟩]
  ·simp[h]
 ·rw[aB z]
  cases s.last[j]? with
  |none=>rfl
  |some x=>
   simp only[fV,Option.some.injEq];have :j<m+1↔j<m:=by omega
   simp only[this]
def j0.fence (s:j0):j0:=if s.gone=true then s else { s.count with last:=iH s s.now.length,fl:=List.replicate s.fl.length false }
def j0.fenceE (s:j0):Int:=if s.gone=true then 9 else 0
def j0.fmid (s:j0) (m:Nat):j0:={ s.count with last:=iH s m }
def mA (fl:List Bool) (q:Nat):List Bool:=(fl.drop (q*8)).take 8
theorem zi (fl:List Bool)(q k:Nat)(h:k<8):(mA fl q).getD k false=fl.getD (q*8+k) false:=by
 simp[mA,h]
theorem Ol (fl:List Bool)(q:Nat)(h:q*8+8<=fl.length):(mA fl q).length=8:=by simp[mA];omega
theorem Om (h:noMark l=true)(k:Nat):l.getD k false=false:=by
 simp only[noMark,Bool.not_eq_true',List.any_eq_false,id_eq] at h;rw[aj];cases hk:l[k]? with
 |none=>rfl
 |some x=>
  have :=h x (List.mem_of_getElem? hk);simpa using this
theorem Le (h:fH w b gn gl gf s)(hf:s.fit):
  Calls prog 103 #[.pointer (some ⟨b,0,none⟩)] w λe w'=>e= .returned (.int .i64 s.fenceE)/\fH w' b gn gl gf s.fence/\az [b,gn,gl,gf] w w':=by
 have z:=au (QI h);unfold j0.fence j0.fenceE;cases hg:s.gone
 ·rw[hg] at z
  have aH:=h.n9;have ae:=au h.ll;have aj:=au h.fll;have hc:=au (Ex h hf hg);rw[aB (by simp),aB (by simp)];clear h hf hg;go_enter func103,ntmps103;go_wp2_with fail;go_step3;go_wp2_with fail;refine z.out.mono ?_;rintro e w' ⟨rfl,rfl⟩;go_wp2_with fail;refine hc.out.mono ?_;rintro e w1 ⟨rfl,h,hk⟩;obtain⟨vn,vl,vf,a,c,d,e⟩:=h.at_;have ec:s.count.now.length=s.now.length:=rfl;obtain⟨af,cf,rfl,r1,r2⟩:=e.val;have k0:w1.cell? ⟨b,2,none⟩=some (.slice af ((s.now.length+7)/8) cf):=by rw[a.cell];rfl
  have aF:Hid (s.now.length≠0->af=some ⟨gf,0,none⟩):=λhn=>by
   obtain⟨-,⟨aJ,h1,-,-⟩,-,-⟩:=e.cell (by omega);exact(Value.slice.inj h1).1
  have H:=au h;have HK:=au hk;have e8:0<=((s.now.length+7)/8:Nat):=fC _;clear a c d e h hk ec;go_wp2_with fail;go_step3;go_wp2_with fail;go_loopg [17] ((s.now.length+7)/8) (λg s17 wx=>∃L:Nat,L+g=(s.now.length+7)/8/\s17= .int .i64 (L:Int)/\Hid (fH wx b gn gl gf (s.fmid (L*8))/\az [b,gn,gl,gf] w wx))
  case atStart=>exact⟨0,by omega,rfl,by unfold j0.fmid;rw[Nat.zero_mul,Jz];exact H.out,HK.out.mono (by simp)⟩
  case round=>
   obtain⟨L,aG,rfl,HP⟩:=hrel;cases gk with
   |zero=>
    have hz:¬((L:Int)<((s.now.length:Int)+7)/8):=by omega
    have J:iH s (L*8)=iH s s.now.length:=qT s _ _ λj G _=>by rw[ae.out] at G;omega
    obtain⟨vf,U,q0,q1,q2,q3⟩:=HP.out.1.clear;have Q2:=au q2;have Q3:=au (HP.out.2.trans' q3);have EL:=au J;clear q2 q3 J k0;go_wp2_with fail;go_ret;refine⟨rfl,?_,Q3.out⟩;have :=Q2.out;unfold j0.fmid at this;rw[EL.out] at this;exact this
   |succ g=>
    have hz:(L:Int)<((s.now.length:Int)+7)/8:=by omega
    have av:s.now.length≠0:=by omega
    obtain⟨aD,aA,ar,a,c,d,e⟩:=HP.out.1.at_;have ec:(s.fmid (L*8)).now.length=s.now.length:=rfl;obtain⟨-,-,q3,-⟩:=e.cell (by omega);rw[ec] at q3;have V:(mA s.fl L).length=8:=Ol _ _ (by rw[aj.out];omega);have qF:(loadVar 97 ⟨gf,L*8,none⟩).run prog wr= .ok (.agg (bools (mA s.fl L)).toArray) wr:=by
     refine bW gf (L*8) (bools (mA s.fl L)) underlying97 rfl (by rw[pj,V];kernel_rfl) λj G=> ?_
     rw[pj,V] at G;rw[q3 _ (by omega),tC (by rw[show(s.fmid (L*8)).fl=s.fl from rfl,aj.out];omega),tC (by omega),zi _ _ _ G];rfl
    obtain rfl:=aF.out av;have p9:=au qF;clear a c d e q3 ec qF k0;obtain⟨U,aa,o7,fL⟩:∃U,Hid ((storeVar 97 ⟨wr.heap.size,0,none⟩ (.agg (bools (mA s.fl L)).toArray)).run prog (wr.alloc (.cells #[.bool false,.bool false,.bool false,.bool false,.bool false,.bool false,.bool false,.bool false] 97))= .ok () U)/\
      Hid (bh U wr.heap.size (bools (mA s.fl L)).toArray 97)/\Hid (az [] wr U):=by
     have hb:=bh.new wr #[.bool false,.bool false,.bool false,.bool false,.bool false,.bool false,.bool false,.bool false] 97;refine⟨_,jy wr.heap.size 0 (bools (mA s.fl L)) _ (by rw[pj,V];kernel_rfl) hb (by rw[pj,V];simp) (Ic _),?_,?_⟩
     ·have :=setRow_heap _ wr.heap.size _ (List.take 0 (#[Value.bool false,.bool false,.bool false,.bool false,.bool false,.bool false,.bool false,.bool false]:Array Value).toList++bools (mA s.fl L)++List.drop (0+(bools (mA s.fl L)).length) (#[Value.bool false,.bool false,.bool false,.bool false,.bool false,.bool false,.bool false,.bool false]:Array Value).toList).toArray _ _ hb
      rw[pj,V] at this;show bh _ _ _ _;simpa[bh,pj,V] using this
     ·exact((az.refl _ _).alloc _).setRow (.inr (aI _)) _
    have ac:Hid ((loadVar 97 ⟨wr.heap.size,0,none⟩).run prog U= .ok (.agg (bools (mA s.fl L)).toArray) U):=by
     refine bW wr.heap.size 0 (bools (mA s.fl L)) underlying97 rfl (by rw[pj,V];kernel_rfl) λj G=> ?_
     rw[o7.out.cell];simp
    have hq:=VO (mA s.fl L) V;have mU:Hid (fH U b gn gl gf (s.fmid (L*8))/\az [b,gn,gl,gf] w U):=⟨HP.out.1.keep fL.out (by simp) (by simp),HP.out.2.trans fL.out (by simp)⟩;clear HP;cases Sd:noMark (mA s.fl L)
    ·rw[Sd] at hq
     have ak:=au Sd;clear Sd;go_wp2_with(first|(with_reducible refine gL 97 p9.out ?_)|(with_reducible refine gS 97 aa.out ?_)|(with_reducible refine gL 97 ac.out ?_));clear p9 aa o7 fL ac hq;obtain⟨wo,rfl⟩:∃wo:World,wo=wr:=⟨_,rfl⟩;go_loopg [26] 8 (λg2 s26 wx=>∃k:Nat,k+g2=8/\s26= .int .i64 (k:Int)/\Hid (fH wx b gn gl gf (s.fmid (L*8+k))/\az [b,gn,gl,gf] w wx))
     case atStart=>exact⟨0,by omega,rfl,mU.out⟩
     case round=>
      obtain⟨k,uS,rfl,W⟩:=hrel;clear mU;cases gk with
      |zero=>
       obtain rfl:k=8:=by omega
       go_wp2_with fail;go_roundg g;case measure=>omega
       case rel=>exact⟨L+1,by omega,by go_num,by rw[show(L+1)*8=L*8+8 by omega];exact W.out⟩
      |succ g2=>
       have Bx:=λwz=>Ld (mA s.fl L) V k (by omega) wz
       have ag:=zi s.fl L k (by omega);rw[ag] at Bx;obtain⟨aD,aA,ar,a,c,d,e⟩:=W.out.1.at_;have ec:(s.fmid (L*8+k)).now.length=s.now.length:=rfl;obtain⟨-,⟨ax,rfl,q1,q2⟩,q3,q4⟩:=c.cell (by omega);obtain⟨-,⟨ay,rfl,q5,q6⟩,q7,q8⟩:=d.cell (by omega);have k0:wr.cell? ⟨b,0,none⟩=some (.slice (some ⟨gn,0,none⟩) s.now.length ax):=by rw[a.cell];rfl
       have k1:wr.cell? ⟨b,1,none⟩=some (.slice (some ⟨gl,0,none⟩) s.now.length ay):=by rw[a.cell];rfl
       by_cases ah:L*8+k<s.now.length
       ·have k2:wr.cell? ⟨gn,L*8+k,none⟩=some (.int .u64 (s.now.getD (L*8+k) 0)):=(q3 _ (by omega)).trans (dA ah)
        have k3:wr.cell? ⟨gl,L*8+k,none⟩=some (.int .u64 ((iH s (L*8+k)).getD (L*8+k) 0)):=(q7 _ (by omega)).trans (dA (by rw[show(s.fmid (L*8+k)).last=iH s (L*8+k) from rfl,CM,ae.out];exact ah));have k5:wr.frozen? ⟨gl,L*8+k,none⟩=false:=q8 _;have S2:=au (W.out.1.drew.setLast (by omega) (L*8+k) (s.now.getD (L*8+k) 0));clear a c d e q3 q4 q7 q8 ag;cases hm:s.fl.getD (L*8+k) false
        ·rw[hm] at Bx
         have HM:=au hm;clear hm;go_wp2_with fail;go_roundg g2;case measure=>omega
         case rel=>
          refine⟨k+1,by omega,by go_num,?_,W.out.2⟩;have J:iH s (L*8+(k+1))=iH s (L*8+k):=qT s _ _ λj G ai=>by
           by_cases h1:j=L*8+k
           ·subst h1;rw[HM.out] at ai;cases ai
           ·omega
          have :=W.out.1;unfold j0.fmid at this ⊢;rw[J];exact this
        ·rw[hm] at Bx
         have HM:=au (JA s (L*8+k) hm);clear hm;generalize s.now.getD (L*8+k) 0=x at *;generalize (iH s (L*8+k)).getD (L*8+k) 0=y at *;go_wp2_with fail
         go_region
         go_wp2_with fail;go_roundg g2;case measure=>omega
         case rel=>
          refine⟨k+1,by omega,by go_num,?_,W.out.2.drew.setCell (by simp) _⟩;have :=S2.out;unfold j0.fmid at this ⊢;rw[show L*8+(k+1)=L*8+k+1 by omega,HM.out];exact this
       ·have J:iH s (L*8+k)=iH s s.now.length:=qT s _ _ λj G _=>by rw[ae.out] at G;omega
        have EL:=au J;obtain⟨vf,w3,p0,p1,p2,p3⟩:=W.out.1.clear;have P2:=au p2;have P3:=au (W.out.2.trans' p3);clear a c d e q3 q4 q7 q8 ag J p2 p3;go_wp2_with fail;rw[Exit.noGoto_ret];go_ret;refine⟨rfl,?_,P3.out⟩;have :=P2.out;unfold j0.fmid at this;rw[EL.out] at this;exact this
    ·rw[Sd] at hq
     have ak:=au Sd;clear Sd;go_wp2_with(first|(with_reducible refine gL 97 p9.out ?_)|(with_reducible refine gS 97 aa.out ?_)|(with_reducible refine gL 97 ac.out ?_));go_roundg g;case measure=>omega
     case rel=>
      refine⟨L+1,by omega,by go_num,?_,mU.out.2⟩;have J:iH s ((L+1)*8)=iH s (L*8):=qT s _ _ λj G hm=>by
       by_cases h1:L*8<=j/\j<L*8+8
       ·have :=Om ak.out (j-L*8)
        rw[zi _ _ _ (by omega),show L*8+(j-L*8)=j by omega,hm] at this;cases this
       ·omega
      have :=mU.out.1;unfold j0.fmid at this ⊢;rw[J];exact this
 ·rw[hg] at z
  have H:=au h;rw[aC rfl,aC rfl];clear hg h;go_enter func103,ntmps103;go_wp2_with fail;go_step3;go_wp2_with(go_at_call 88;refine z.out.mono ?_;rintro e w' ⟨rfl,rfl⟩);rw[Exit.noGoto_ret];go_ret;exact⟨rfl,H.out,az.refl _ _⟩
theorem Tryz.info_marks:(prog.info? 97).map (λi=>(i.zero,i.size,i.bytes))=some (some (.agg (Array.replicate 8 (.bool false))),8,8):=by kernel_rfl
def VP (w:World) (xs:List Int) (e:Ending) (w':World):Prop:=
 ∃v g,e= .returned v/\fp w' v g 56 1 xs.length (aW xs)/\(xs.length≠0->w.heap.size<=g/\g<w'.heap.size)/\az [] w w'
theorem VQ (h:Reads w v g (aW xs))(hn:xs.length<=10000):
  Calls prog 90 #[v] w (VP w xs):=by
 obtain⟨a,cap,rfl,h1,h2,h3⟩:=h;have e1:=λ(wz:World) (a:Option Addr) (n c:Nat)=>Lib.run_eql_slice_nil (P:= prog) wz 71 56 a n c 0 0 underlying71
 cases a with
 |none=>
  have hz:xs=[]:=by
   by_cases hx:aW xs=[]
   ·cases xs<;>simp_all[aW]
   ·obtain⟨-,off,V,-⟩:=h3 hx;cases V
  subst hz;clear h3;go_enter func90,ntmps90;go_wp2_with fail;go_ret;exact⟨_,0,rfl,fp.nil _ _ _ _,λh=>absurd rfl h,az.refl _ _⟩
 |some ad=>
  obtain⟨i0,hi,ac,af,ah⟩:=cP Tryz.info_u64;have z:∀j u,(aW xs)[j]? =some u->(w.alloc (.cells #[] 56)).cell? (ad.add j)=some u:=by
   intro j u hu;have hj:j<(aW xs).length:=(List.getElem?_eq_some_iff.1 hu).1;obtain⟨hg,off,V,hc⟩:=h3 (by intro e;rw[e] at hj;simp at hj);cases V;have W:(⟨g,off,none⟩:Addr).add j=⟨g,off+j,none⟩:=by unfold Addr.add;split<;>simp_all
   rw[W,aO (w:=w) (jv _ _ _ hg),hc j hj,hu]
  have U:(w.alloc (.cells #[] 56)).ownsRow w.heap.size 56 1 (.slice (some ⟨w.heap.size,0,none⟩) 0 0) 0 []:=World.ownsRow_made w #[] 0 (aI _) (by simp[maxLen]) (by simp);have HC:=au z;have HO:=au U;clear z U h3;rw[bp] at h1 ⊢;go_enter func90,ntmps90;go_wp2_with(at_builtin;refine dO _ rfl _ _ 71 rfl w.heap.size 56 i0 (.int .u64 0) 1 8 underlying71 hi ac af ah rfl (by decide) (.slice (some ⟨w.heap.size,0,none⟩) 0 0) _ _ rfl HO.out ad xs.length cap (aW xs) rfl (by rw[bp];omega) HC.out (fh xs) (by unfold maxLen;omega) (by omega) (by simp) ?_;intro v' w1 G J _);obtain⟨g',V,aa⟩:=fp.of_row G;have H:VP w xs (.returned v') w1:=by
   refine⟨v',g',rfl,by simpa using V,λae=> ?_,?_⟩
   ·have :=aa (by omega)
    exact⟨this.1,((by simpa using V:fp w1 v' g' 56 1 xs.length (aW xs)).cell ae).1⟩
   ·have hk:=az.of_grown (l:=[]) (((World.grownBy_alloc w (.cells #[] 56) none))) (by simp)
    have ag:az [w.heap.size] (w.alloc (.cells #[] 56)) w1:=az.of_grown J (by intro k hk;simp[Value.ownBlock] at hk;subst hk;simp);exact hk.trans ag (by simp)
  have HH:=au H;clear G J V aa H;go_wp2_with fail;go_ret;exact HH.out
def Made (w:World) (xs:List Int) (e:Ending) (w':World):Prop:=
 ∃b gn gl gf,e= .returned (.pointer (some ⟨b,0,none⟩))/\fH w' b gn gl gf { now:=xs,last:=xs,fl:=List.replicate ((xs.length+7)/8*8) false,deeds:=0,fused:=false,left:=0 }/\
  (w.heap.size<=b/\w.heap.size<=gn/\w.heap.size<=gl/\w.heap.size<=gf)/\az [] w w'
theorem JB{W:World}{v1 v2 v3:Value}{V J:Nat}(hn:xs.length<=10000)(hk:az [] w W)(o1:fp W v1 U 56 1 xs.length (aW xs))(o2:fp W v2 V 56 1 xs.length (aW xs))
  (o3:fp W v3 J 97 8 ((xs.length+7)/8) (bools (List.replicate ((xs.length+7)/8*8) false)))
  (hz:xs.length≠0->(w.heap.size<=U/\w.heap.size<=V/\w.heap.size<=J)/\U≠V/\U≠J/\V≠J):
  Made w xs (.returned (.pointer (some ⟨W.heap.size,0,none⟩))) (W.alloc (.cells #[v1,v2,v3,.int .i64 0,.bool false,.int .i64 0] 95)):=by
 have z:=hk.size;by_cases G:xs.length=0
 ·refine⟨W.heap.size,W.heap.size,W.heap.size,W.heap.size,rfl,⟨hn,rfl,by simp,λh=>absurd G h,v1,v2,v3,bh.new _ _ _,?_,?_,?_⟩,⟨z,z,z,z⟩,hk.alloc _⟩
  ·exact(o1.alloc _).anyG G _
  ·exact(o2.alloc _).anyG G _
  ·exact(o3.alloc _).anyG (by omega) _
 ·obtain⟨⟨a1,a2,a3⟩,a4,a5,a6⟩:=hz G
  have l1:=(o1.cell G).1;have l2:=(o2.cell G).1;have l3:=(o3.cell (by omega)).1;exact⟨W.heap.size,U,V,J,rfl,⟨hn,rfl,by simp,λ_=>⟨⟨by omega,by omega,by omega⟩,a4,a5,a6⟩,v1,v2,v3,bh.new _ _ _,o1.alloc _,o2.alloc _,o3.alloc _⟩,⟨z,a1,a2,a3⟩,hk.alloc _⟩
theorem Oo (n:Nat):(madeCells (Array.replicate 8 (Value.bool false)) (n*8)).toList=bools (List.replicate (n*8) false):=by
 have :=qE n;simpa[Builtin.zeroCells,madeCells,Value.cells] using this
theorem Bz{q:Nat}{mc:Array Value}(G:q<=1250)(h:mc.toList=bools (List.replicate (q*8) false)):
  fp (w.alloc (.cells mc 97)) (.slice (some ⟨w.heap.size,0,none⟩) q q) w.heap.size 97 8 q (bools (List.replicate (q*8) false)):=by
 have z:mc.size=q*8:=by rw[<-dm,h];simp[bools]
 refine⟨by simp[bools],_,q,rfl,aI _,by unfold maxLen;omega,λ_=>⟨rfl,mc,bh.new _ _ _,z,?_⟩⟩;rw[<-h,aV (by rw[dm];omega)]
theorem aek (h:Reads w v g (aW xs))(W:xs.length<=10000):
  Calls prog 42 #[v] w (Made w xs):=by
 have H3:=au h;obtain⟨a,cap,rfl,h1,h2,h3⟩:=h;clear h3;rw[bp] at *;unfold maxLen at h2;go_enter func42,ntmps42;go_wp2_with fail;have ac:∀U:World,(Instr.makeSlice 93 (.int .i64 (((xs.length:Int)+8-1)/8)) (.int .i64 (((xs.length:Int)+8-1)/8))).run prog U=
   .ok (.slice (some ⟨U.heap.size,0,none⟩) ((xs.length+7)/8) ((xs.length+7)/8)) (U.alloc (.cells (madeCells (Array.replicate 8 (.bool false)) ((xs.length+7)/8*8)) 97)):=λU=>by
  obtain⟨i0,hi,aa,af,ag⟩:=cP Tryz.info_marks;have :=run_make (P:= prog) U 93 97 i0 _ underlying93 hi aa .i64 .i64 (((xs.length:Int)+8-1)/8) (((xs.length:Int)+8-1)/8) (by omega) (by omega) (by rw[ag];omega) (by omega);rw[af,show(((xs.length:Int)+8-1)/8).toNat=(xs.length+7)/8 by omega] at this;exact this
 obtain⟨mc,J⟩:∃mc,mc=madeCells (Array.replicate 8 (.bool false)) ((xs.length+7)/8*8):=⟨_,rfl⟩;have G:Hid (mc.toList=bools (List.replicate ((xs.length+7)/8*8) false)):=by rw[J];exact Oo _
 rw[<-J] at ac;clear J;go_region_with (go_at_call 90;refine(VQ (g:=g) (xs:=xs) (H3.out.keep (l:=[]) ?hk (by simp)) W).mono ?_;(case hk=>(repeat (first|exact az.refl _ _|assumption|refine az.drew ?_|refine az.alloc ?_ _|refine az.trans (l':=[]) ?_ (by assumption) (by simp))));rintro e w' ⟨v1,g1,rfl,o1,z1,z⟩;obtain⟨a1,c1,rfl,_,_⟩:=o1.val;(have O1:=au o1);clear o1)
 all_goals go_wp2_with fail
 all_goals go_ret
 ·rename_i w1 g2 z2 k2 a2 c2 _ _ O2 _ _
  have V:az [] w w.drew:=(az.refl _ _).drew;have hw:w.drew.heap.size=w.heap.size:=rfl;have M:=JB (w:=w) W (((V.trans k2 (by simp)).trans z (by simp)).alloc (.cells mc 97)) ((O2.out.keep z (by simp)).alloc _) (O1.out.alloc _) (Bz (by omega) G.out) (λh=>by
   have y2:=z2 h;have y1:=z1 h;have :=k2.size;have :=z.size;refine⟨⟨?_,?_,?_⟩,?_,?_,?_⟩<;>omega)
  rw[show(w'.alloc (.cells mc 97)).heap.size=w'.heap.size+1 by simp] at M;exact M
 ·rename_i w1 g2 z2 k2 a2 c2 _ _ O2 _ _
  have V:az [] w w.drew:=(az.refl _ _).drew;have hw:w.drew.heap.size=w.heap.size:=rfl;have hs:(w1.alloc (.cells mc 97)).heap.size=w1.heap.size+1:=by simp
  exact JB (w:=w) W (((V.trans k2 (by simp)).alloc (.cells mc 97)).trans z (by simp)) ((O2.out.alloc (.cells mc 97)).keep z (by simp)) O1.out ((Bz (w:=w1) (by omega) G.out).keep z (by simp)) (λh=>by
   have y2:=z2 h;have y1:=z1 h;have :=k2.size;have :=z.size;refine⟨⟨?_,?_,?_⟩,?_,?_,?_⟩<;>omega)
 ·rename_i w1 g2 z2 k2 a2 c2 _ _ O2 _ _
  have V:az [] w w.drew:=(az.refl _ _).drew;have hw:w.drew.heap.size=w.heap.size:=rfl;have hs:(w.alloc (.cells mc 97)).drew.heap.size=w.heap.size+1:=by
   show(w.alloc (.cells mc 97)).heap.size=_;simp
  have ae:az [] w (w.alloc (.cells mc 97)).drew:=((az.refl _ _).alloc _).drew;exact JB (w:=w) W ((ae.trans k2 (by simp)).trans z (by simp)) (O2.out.keep z (by simp)) O1.out (((Bz (w:=w) (by omega) G.out).drew.keep k2 (by simp)).keep z (by simp)) (λh=>by
   have y2:=z2 h;have y1:=z1 h;have :=k2.size;have :=z.size;refine⟨⟨?_,?_,?_⟩,?_,?_,?_⟩<;>omega)
def tD (n:Int):Nat:=(min (max n 0) 10000).toNat
theorem Z2 (n:Int):tD n<=10000:=by unfold tD;omega
theorem Made.weaken{G:World}{e:Ending}(h:Made G xs e w')(z:az [] w G):Made w xs e w':=by
 obtain⟨b,gn,gl,gf,J,V,⟨h3,W,h5,h6⟩,U⟩:=h;have :=z.size;exact⟨b,gn,gl,gf,J,V,⟨by omega,by omega,by omega,by omega⟩,z.trans U (by simp)⟩
theorem acs (w:World)(n:Int):
  Calls prog 22 #[.int .i64 n] w (Made w (List.replicate (tD n) 0)):=by
 obtain⟨i0,hi,V,W,aa⟩:=cP Tryz.info_u64;have hq:=Z2 n;have U:(Instr.makeSlice 71 (.int .i64 (tD n:Int)) (.int .i64 (tD n:Int))).run prog w=
   .ok (.slice (some ⟨w.heap.size,0,none⟩) (tD n) (tD n)) (w.alloc (.cells (madeCells #[.int .u64 0] (tD n)) 56)):=by
  have :=run_make (P:= prog) w 71 56 i0 _ underlying71 hi V .i64 .i64 (tD n:Int) (tD n:Int) (by omega) (by omega) (by rw[aa];omega) (by omega);rw[W,aH,iq] at this;exact this
 have hr:Reads (w.alloc (.cells (madeCells #[.int .u64 0] (tD n)) 56)) (.slice (some ⟨w.heap.size,0,none⟩) (tD n) (tD n)) w.heap.size (aW (List.replicate (tD n) 0)):=by
  refine fp.reads (T:= 56) (n:=tD n) ⟨by simp[aW],_,tD n,rfl,aI _,by unfold maxLen;omega,λ_=>⟨rfl,_,bh.new _ _ _,by simp[size_madeCells],?_⟩⟩;rw[toList_madeCells_one,Ib,aV (by simp[aW])]
 have HO:=au ((aek hr (by simpa using hq)).mono λe w' h=>h.weaken ((az.refl _ w).alloc _));clear hr;have z:((tD n:Nat):Int)=min (max n 0) 10000:=by unfold tD;omega
 generalize tD n=q at *;rcases (show n<0\/(0<=n/\n<=10000)\/10000<n by omega) with h|⟨h,h'⟩|h
 ·obtain rfl:q=0:=by omega
  clear z hq;simp only[Int.natCast_zero] at U;go_enter func22,ntmps22;go_wp2_with fail;refine HO.out.mono ?_;intro e w1 G;have J:=au G;obtain⟨b,gn,gl,gf,rfl,-,-,-⟩:=G;go_wp2_with fail;go_ret;exact J.out
 ·obtain rfl:n=(q:Int):=by omega
  clear z;go_enter func22,ntmps22;go_wp2_with fail;refine HO.out.mono ?_;intro e w1 G;have J:=au G;obtain⟨b,gn,gl,gf,rfl,-,-,-⟩:=G;go_wp2_with fail;go_ret;exact J.out
 ·obtain rfl:q=10000:=by omega
  clear z hq;simp only[show((10000:Nat):Int)=10000 from rfl] at U;generalize madeCells #[Value.int .u64 0] 10000=mc at *;generalize List.replicate 10000 (0:Int)=xs at *;go_enter func22,ntmps22;go_wp2_with fail;refine HO.out.mono ?_;intro e w1 G;have J:=au G;obtain⟨b,gn,gl,gf,rfl,-,-,-⟩:=G;go_wp2_with fail;go_ret;exact J.out
theorem Tryz.info_pair:(prog.info? 58).map (λi=>(i.zero,i.size,i.bytes))=some (some (.agg #[.int .i64 0,.int .u64 0]),2,16):=by kernel_rfl
theorem Oq (n:Nat)(W:n<=100000)(m:Int)(U:m=(n:Int))(w:World):(Instr.makeSlice 54 (.int .i64 m) (.int .i64 m)).run prog w=
  .ok (.slice (some ⟨w.heap.size,0,none⟩) n n) (w.alloc (.cells (madeCells #[.int .i64 0,.int .u64 0] (n*2)) 58)):=by
 subst U;obtain⟨V,J,h,z,G⟩:=cP Tryz.info_pair;have :=run_make (P:= prog) w 54 58 V _ underlying54 J h .i64 .i64 (n:Int) (n:Int) (by omega) (by omega) (by rw[G];omega) (by omega);rw[z,aH] at this;exact this
theorem Ot (w:World)(n:Nat)(z:n<=100000):fp (w.alloc (.cells (madeCells #[.int .i64 0,.int .u64 0] (n*2)) 58)) (.slice (some ⟨w.heap.size,0,none⟩) n n) w.heap.size 58 2 n (je (List.replicate n (0,0))):=by
 have h:(madeCells #[Value.int .i64 0,Value.int .u64 0] (n*2)).size=n*2:=by rw[<-dm,CK,rD,bG]
 refine⟨by rw[rD,bG],_,n,rfl,aI _,by unfold maxLen;omega,λ_=>⟨rfl,_,bh.new _ _ _,h,?_⟩⟩;rw[<-CK,aV (by rw[dm];omega)]
end Go.Proofs.YtepbpdipenedhaaGreatDoor
namespace Go.Proofs.YtepbpdipenedhaaGreatDoor
open Go.Proofs.Tryz
variable{w w':World}{G U b g gf gl gn gp k n z:Nat}{s:j0}{P:Program}{ty:TypeId}{l:List Bool}{v:Value}{B X ws xs:List Int}{J ps qs:List (Int×Int)}{i x:Int}
def kF (ws:List Int):List Int:=ws.take 3128++List.replicate (3128-ws.length) 0
theorem iK (ws:List Int):(kF ws).length=3128:=by simp only[kF,aD,aJ,bG];omega
theorem wT (ws:List Int)(i:Nat):(kF ws).getD i 0=if i<3128 then ws.getD i 0 else 0:=by
 simp only[kF,aj,iy,aJ,bO,bo];by_cases h:i<3128
 ·by_cases z:i<ws.length
  ·rw[aC (by omega),aC h,aC h]
  ·rw[aB (by omega),aC (by omega),aC h,aT (by omega)];rfl
 ·rw[aB (by omega),aB (by omega),aB h];rfl
theorem Ou (h:N3 ps n)(k:N3 qs n):N3 (ps++qs) n:=λp z=>(aU.1 z).elim (h p) (k p)
theorem Ey (h:N3 ps n)(m:Nat):N3 (ps.take m) n:=λp z=>h p (bM z)
theorem Z5 (n:Nat):N3 [] n:=λp h=>by simp at h
theorem aaa (G:0<=i)(z:i<n):N3 [(i,x)] n:=λp h=>by
 rw[ay] at h;subst h;exact⟨G,z⟩
def ko (B:List Int) (ps:List (Int×Int)):List (Int×Int):=(List.range ps.length).map λk=>(jS ps k,(aA B (ps.take k)).getD (jS ps k).toNat 0)
theorem rE (B:List Int)(ps:List (Int×Int)):(ko B ps).length=ps.length:=by simp[ko]
theorem Ez (B:List Int)(ps:List (Int×Int))(k:Nat)(h:k<ps.length):jS (ko B ps) k=jS ps k/\qD (ko B ps) k=(aA B (ps.take k)).getD (jS ps k).toNat 0:=by
 have e:(ko B ps).getD k (0,0)=(jS ps k,(aA B (ps.take k)).getD (jS ps k).toNat 0):=by
  rw[aj,ko,bF,cA h];rfl
 rw[jS,qD,e];exact⟨rfl,rfl⟩
theorem BA (h:k<ps.length):jS (ps++qs) k=jS ps k:=by
 simp[jS,iy,h]
theorem Lf (B:List Int)(ps:List (Int×Int))(i x:Int):ko B (ps++[(i,x)])=ko B ps++[(i,(aA B ps).getD i.toNat 0)]:=by
 have z:jS (ps++[(i,x)]) ps.length=i:=by simp[jS]
 unfold ko;rw[aD,jM,dS,eX,List.map_singleton,z,List.take_left]
 congr 1
 apply dD;intro k h;rw[bX] at h;rw[BA h,ia (by omega)]
theorem Se{m:Nat}(h:k<m):jS (ps.take m) k=jS ps k:=by
 simp[jS,h]
theorem wU (B:List Int)(ps:List (Int×Int))(m:Nat)(h:m<=ps.length):(ko B ps).take m=ko B (ps.take m):=by
 unfold ko;rw[<-List.map_take,List.take_range,aJ,cC h];apply dD;intro k z;rw[bX] at z;rw[Se z,List.take_take,cC (by omega)]
theorem JC (l:List Int)(i:Nat)(x:Int):(l.set i x).set i (l.getD i 0)=l:=by
 rw[List.set_set];exact GI l i 0
theorem Lg (B:List Int)(ps:List (Int×Int))(k:Nat)(h:k<ps.length):
  (aA B (ps.take (k+1))).set (jS ps k).toNat ((aA B (ps.take k)).getD (jS ps k).toNat 0)=aA B (ps.take k):=by
 rw[Bt B ps k h];exact JC _ _ _
def CN (m:Int) (n:Nat):Nat:=(min (max m 0) (n:Int)).toNat
theorem VR (m:Int)(n:Nat):CN m n<=n:=by unfold CN;omega
theorem Ie (m:Int)(n:Nat):((CN m n:Nat):Int)=min (max m 0) (n:Int):=by unfold CN;omega
def Ae (B:List Int) (ps:List (Int×Int)) (i:Int):Int:=if 0<=i/\i<3128 then (aA B ps).getD i.toNat 0 else 0
def QL (i:Int):Bool:=decide (0<=i)&&decide (i<3128)
theorem sB:QL i=true↔0<=i/\i<3128:=by simp[QL]
def cV (B X:List Int) (k:Nat):List (Int×Int):=((List.range k).filter λi=>X.getD i 0 != B.getD i 0).map λ(i:Nat)=>((i:Int),X.getD i 0)
theorem CO (B X:List Int)(k:Nat)(h:X.getD k 0=B.getD k 0):cV B X (k+1)=cV B X k:=by
 unfold cV;rw[dS,ft];have :(X.getD k 0 != B.getD k 0)=false:=by simpa using h
 simp only[iT,this,List.filter_nil];simp
theorem Ov (B X:List Int)(k:Nat)(h:X.getD k 0≠B.getD k 0):cV B X (k+1)=cV B X k++[((k:Int),X.getD k 0)]:=by
 unfold cV;rw[dS,ft];have :(X.getD k 0 != B.getD k 0)=true:=by simpa using h
 simp only[iT,this,List.filter_nil];simp
theorem Ow (B X:List Int)(k:Nat):(cV B X k).length<=k:=by
 unfold cV;rw[bS];have :=fQ (λi=>X.getD i 0 != B.getD i 0) (List.range k);simpa using this
end Go.Proofs.YtepbpdipenedhaaGreatDoor
namespace Go.Proofs.YtepbpdipenedhaaGreatDoor
open Go.Proofs.Tryz
open Go.RowKit
variable{w w':World}{G U b g gf gl gn gp k n z:Nat}{s:j0}{P:Program}{ty:TypeId}{l:List Bool}{v:Value}{B X ws xs:List Int}{J ps qs:List (Int×Int)}{i x:Int}
def gQ (B X:List Int) (h:Value):Array Value:=(aW B++(aW X++[h])).toArray
theorem Af (B X:List Int)(h:Value):(gQ B X h).size=B.length+(X.length+1):=by simp[gQ,bp]
theorem Ig (X:List Int)(z:Value){i:Nat}(h:i<B.length):(gQ B X z)[i]? =some (.int .u64 (B.getD i 0)):=by
 rw[gQ,aF,aY (by rw[bp];exact h),dA h]
theorem BB (z:Value)(G:B.length=3128){i:Nat}(h:i<X.length):(gQ B X z)[3128+i]? =some (.int .u64 (X.getD i 0)):=by
 rw[gQ,aF,aQ (by rw[bp];omega),bp,G,cY,aY (by rw[bp];exact h),dA h]
theorem tE (h:Value)(G:B.length=3128)(z:X.length=3128):(gQ B X h)[6256]? =some h:=by
 rw[gQ,aF,aQ (by rw[bp];omega),bp,G,aQ (by rw[bp];omega),bp,z];rfl
theorem Ag (z:Value)(G:B.length=3128){i:Nat}(h:i<X.length)(x:Int):(gQ B X z).setIfInBounds (3128+i) (.int .u64 x)=gQ B (X.set i x) z:=by
 unfold gQ;rw[ag,dx _ _ (by rw[bp];omega),bp,G,cY,List.set_append_left _ _ (by rw[bp];exact h),lT]
theorem Ah (h:Value)(G:B.length=3128)(z:X.length=3128)(v:Value):(gQ B X h).setIfInBounds 6256 v=gQ B X v:=by
 unfold gQ;rw[ag,dx _ _ (by rw[bp];omega),bp,G,dx _ _ (by rw[bp];omega),bp,z];rfl
structure kp (w:World) (b gp:Nat) (B X:List Int) (us:List (Int×Int)):Prop where
 lb:B.length=3128
 lx:X.length=3128
 at_:∃vp,bh w b (gQ B X vp) 119/\w.ownsRow (b+1) 139 2 vp us.length (je us)/\∀k,vp.ownBlock=some k->k=gp
structure eO (w:World) (b gp:Nat) (B:List Int) (ps:List (Int×Int)):Prop where
 raw:kp w b gp B (aA B ps) (ko B ps)
 inp:N3 ps 3128
theorem kp.keep(h:kp w b z B X J){l:List Nat}(G:az l w w')(hb:b∉l)(W:z∉l):kp w' b z B X J:=by
 obtain⟨lb,lx,vp,V,h2,U⟩:=h;exact⟨lb,lx,vp,V.keep G hb,dB h2 G λk e=>by rw[U k e];exact W,U⟩
theorem eO.keep(h:eO w b z B ps){l:List Nat}(G:az l w w')(U:b∉l)(J:z∉l):eO w' b z B ps:=
 ⟨h.raw.keep G U J,h.inp⟩
theorem kp.lt(h:kp w b G B X J):b<w.heap.size:=by
 obtain⟨lb,lx,V,z,U,W⟩:=h;exact z.lt
theorem kp.cell0(h:kp w b G B X J){i:Nat}(U:i<3128):w.cell? ⟨b,i,none⟩=some (.int .u64 (B.getD i 0)):=by
 obtain⟨lb,lx,W,z,V,h3⟩:=h;rw[z.cell,Ig _ _ (by omega)]
theorem kp.cell1(h:kp w b G B X J){i:Nat}(U:i<3128):w.cell? ⟨b,3128+i,none⟩=some (.int .u64 (X.getD i 0)):=by
 obtain⟨lb,lx,W,z,V,h3⟩:=h;rw[z.cell,BB _ lb (by omega)]
theorem Ai (i:Int)(w:World):Calls prog 94 #[.int .i64 i] w λe w'=>e= .returned (.bool (QL i))/\w=w':=by
 by_cases z:0<=i
 ·by_cases h:i<3128
  ·rw[sB.2 ⟨z,h⟩]
   go_enter func94,ntmps94;go_wp2;go_ret;exact⟨rfl,rfl⟩
  ·rw[show QL i=false by simp[QL];omega]
   go_enter func94,ntmps94;go_wp2;go_ret;exact⟨rfl,rfl⟩
 ·rw[show QL i=false by simp[QL];omega]
  go_enter func94,ntmps94;go_wp2;go_ret;exact⟨rfl,rfl⟩
theorem Sf{U:List (Int×Int)}(h:kp w b G B X U)(i:Int):
  Calls prog 127 #[.pointer (some ⟨b,0,none⟩),.int .i64 i] w λe w'=>e= .returned (.int .u64 (if QL i=true then X.getD i.toNat 0 else 0))/\w=w':=by
 have z:=au (Ai i w);cases hi:QL i
 ·rw[hi] at z
  rw[aB (by simp)];clear hi h;go_enter func127,ntmps127;go_wp2_with(go_at_call 94;refine z.out.mono ?_;rintro e w' ⟨rfl,rfl⟩);go_ret;exact⟨rfl,rfl⟩
 ·rw[hi] at z
  rw[aC rfl];obtain⟨J,V⟩:=sB.1 hi;clear hi;obtain⟨i,rfl⟩:=cu J;have W:=h.cell1 (i:=i) (by omega);rw[aH];generalize X.getD i 0=x at *;clear h;go_enter func127,ntmps127;go_wp2_with(go_at_call 94;refine z.out.mono ?_;rintro e w' ⟨rfl,rfl⟩);go_ret;exact⟨rfl,rfl⟩
theorem oC (h:eO w b z B ps)(i:Int):
  Calls prog 127 #[.pointer (some ⟨b,0,none⟩),.int .i64 i] w λe w'=>e= .returned (.int .u64 (Ae B ps i))/\w=w':=by
 have :=Sf h.raw i;rw[show(if QL i=true then (aA B ps).getD i.toNat 0 else 0)=Ae B ps i by unfold Ae;simp only[sB]] at this;exact this
def nB:Array Value:=gQ (kF []) (kF []) (.slice none 0 0)
theorem Ox (w:World):(zeroValue 119).run prog w= .ok (.agg nB) w:=by kernel_rfl
theorem uT:(prog.info? 116).map (·.size)=some 3128:=by kernel_rfl
theorem qa:(prog.info? 56).map (·.size)=some 1:=by kernel_rfl
theorem wV (B X:List Int)(h:Value):(gQ B X h).toList=aW B++(aW X++[h]):=rfl
theorem JD{z:Value}(G:bh w b (gQ B X z) 119)(lb:B.length=3128):
  (loadVar 116 ⟨b,0,none⟩).run prog w= .ok (.agg (aW B).toArray) w:=by
 refine bW b 0 (aW B) underlying116 rfl (by rw[bp,lb];exact uT) λj h=> ?_
 rw[bp] at h;rw[aX,G.cell,Ig _ _ h,dA h]
theorem EA{z:Value}(G:bh w b (gQ B X z) 119)(lb:B.length=3128)(lx:X.length=3128):
  (loadVar 116 ⟨b,3128,none⟩).run prog w= .ok (.agg (aW X).toArray) w:=by
 refine bW b 3128 (aW X) underlying116 rfl (by rw[bp,lx];exact uT) λj h=> ?_
 rw[bp] at h;rw[G.cell,BB _ lb h,dA h]
theorem kr{T:Nat}{c z:Array Value}(h:bh w b c T):bh (w.setRow b z) b z T:=setRow_heap w b c z T _ h
theorem Lh{h:Value}(G:bh w b (gQ B X h) 119)(lb:B.length=3128)(lx:X.length=3128)(Y:List Int)(z:Y.length=3128):
  ∃w',(storeVar 116 ⟨b,3128,none⟩ (.agg (aW Y).toArray)).run prog w= .ok () w'/\bh w' b (gQ B Y h) 119/\az [b] w w':=by
 refine⟨_,jy b 3128 (aW Y) _ (by rw[bp,z];exact uT) G (by rw[Af,bp];omega) (fh Y),?_,(az.refl _ _).setRow (by simp) _⟩;have e:((gQ B X h).toList.take 3128++aW Y++(gQ B X h).toList.drop (3128+(aW Y).length)).toArray=gQ B Y h:=by
  rw[wV,List.take_left' (by rw[bp,lb]),<-List.drop_drop,List.drop_left' (by rw[bp,lb]),List.drop_left' (by rw[bp,bp,lx,z]),ba];rfl
 rw[e];exact kr G
theorem Oy (ws:List Int):aW (kF ws)=(aW ws).take 3128++(aW (kF [])).drop ((aW ws).take 3128).length:=by
 apply ck;intro j;have h:((aW ws).take 3128).length=min 3128 ws.length:=by rw[aJ,bp]
 by_cases z:j<3128
 ·rw[dA (by rw[iK];exact z),wT,aC z]
  by_cases G:j<ws.length
  ·rw[aY (by rw[h];omega),bO,aC z,dA G]
  ·rw[aQ (by rw[h];omega),bT,h,dA (by rw[iK];omega),wT]
   have :ws.getD j 0=0:=by rw[aj,aT (by omega)];rfl
   rw[this,aC (by omega)];rfl
 ·rw[aT (by rw[bp,iK];omega),aT]
  rw[aD,bE,h,bp,iK];omega
theorem JE (G:bh w b nB 119)(h:Reads w v g (aW ws)):
  ∃n w',(∀ty,(Builtin.copy_ #[71,71] ty #[.slice (some ⟨b,0,none⟩) 3128 3128,v]).run prog w= .ok n w')/\bh w' b (gQ (kF ws) (kF []) (.slice none 0 0)) 119/\az [b] w w':=by
 obtain⟨a,cap,rfl,h1,h2,h3⟩:=h;rw[bp] at *;by_cases V:ws.length=0
 ·obtain rfl:ws=[]:=bg V
  exact⟨_,w,λty=>run_copy_none (P:= prog) w 71 71 ty 56 _ a 3128 3128 0 cap underlying71 qa (by simp),G,az.refl _ _⟩
 ·obtain⟨hg,off,rfl,W⟩:=h3 (by intro e;have :=cB List.length e;rw[bp,b8] at this;omega)
  have J:((aW ws).take 3128).length=min ws.length 3128:=by rw[aJ,bp,Nat.min_comm]
  have hs:nB.size=6257:=by rw[nB,Af,iK]
  refine⟨_,_,λty=>run_copy_row (P:= prog) w 71 71 ty 56 b 0 3128 3128 ⟨g,off,none⟩ ws.length cap nB 119 ((aW ws).take 3128) underlying71 qa G J ?_ ?_ ?_,?_,(az.refl _ _).setRow (by simp) _⟩
  ·intro j u z
   rw[bO] at z;split at z
   ·have U:j<(aW ws).length:=(List.getElem?_eq_some_iff.1 z).1
    rw[bp] at U;rw[add_plain,W j U,z]
   ·cases z
  ·rw[J,hs];omega
  ·exact λu z=>fh ws u (bM z)
  ·have e:(nB.toList.take 0++(aW ws).take 3128++nB.toList.drop (0+((aW ws).take 3128).length)).toArray=gQ (kF ws) (kF []) (.slice none 0 0):=by
    rw[nB,wV,eV,bY,aX,List.drop_append_of_le_length (by rw[J,bp,iK];omega),<-ba,<-Oy];rfl
   rw[e];exact kr G
def Ih (w:World) (B:List Int) (e:Ending) (w':World):Prop:=
 ∃b,e= .returned (.pointer (some ⟨b,0,none⟩))/\w.heap.size<=b/\eO w' b b B []/\az [] w w'
theorem EB (h:Reads w v g (aW ws)):
  Calls prog 26 #[v] w (Ih w (kF ws)):=by
 have z:bh (w.alloc (.cells nB 119)) w.heap.size nB 119 :=bh.new w _ _;have dt:az [] w (w.alloc (.cells nB 119)):=(az.refl _ _).alloc _;obtain⟨n,w1,W,G,aa⟩:=JE z (h.keep dt (by simp));have GK:=JD G (iK ws);obtain⟨w2,U,J,V⟩:=Lh G (iK ws) (iK []) (kF ws) (iK ws);have HM:Hid (Ih w (kF ws) (.returned (.pointer (some ⟨w.heap.size,0,none⟩))) w2):=by
  refine⟨_,rfl,aI _,⟨⟨iK ws,iK ws,_,J,⟨rfl,.inl ⟨rfl,rfl⟩⟩,by intro k hk;cases hk⟩,Z5 _⟩,?_⟩;exact(dt.trans aa (by simp)).trans V (by simp)
 have Zb:=au W;have Zc:=au U;have yr:=au GK;obtain⟨a,cap,rfl,-,-,-⟩:=h;clear z dt W G aa GK U J V;generalize (aW (kF ws)).toArray=Y at *;have ac:=Ox;generalize nB=Z at *;go_enter func26,ntmps26;go_wp2_with(first|((with_reducible show wpList _ _ _ (⟨some 11,_,_,_,_,_⟩::_) _ _);refine iQ rfl (.tmp 9) (.tmp 10) 71 71 rfl _ _ rfl rfl (Zb.out _) ?_)|(with_reducible refine gL 116 yr.out ?_)|(with_reducible refine gS 116 Zc.out ?_));go_ret;exact HM.out
theorem Tryz.info_put:(prog.info? 139).map (λi=>(i.zero,i.size,i.bytes))=some (some (.agg #[.int .i64 0,.int .u64 0]),2,16):=by kernel_rfl
def jE (w:World) (b z:Nat) (B:List Int) (ps:List (Int×Int)) (e:Ending) (w':World):Prop:=
 e= .returned (.tuple #[])/\∃h,(h=z\/(w.heap.size<=h/\h<w'.heap.size))/\eO w' b h B ps/\az [b,z] w w'
def zj (ps:List (Int×Int)) (i x:Int):List (Int×Int):=if QL i=true then ps++[(i,x)] else ps
theorem VS{V:World}{h j:Nat}{ac:Int}{W:Value}{o:Obj}(hb:bh w b (gQ B (aA B ps) W) 119)
  (hg:∀k,W.ownBlock=some k->k=gp) (lb:B.length=3128) (lx:(aA B ps).length=3128) (hj:j<3128)
  (he:ko B (ps++[((j:Int),x)])=ko B ps++[((j:Int),ac)]) (aa:aA B (ps++[((j:Int),x)])=(aA B ps).set j x) (ag:N3 (ps++[((j:Int),x)]) 3128)
  (hl:(ko B (ps++[((j:Int),x)])).length=z+1)
  (G:V.ownsRow (b+1) 139 2 (.slice (some ⟨U,0,none⟩) (z+1) h) (z+1) (je (ko B ps)++[.int .i64 (j:Int),.int .u64 ac]))
  (J:(w.alloc o).drew.grownBy V W.ownBlock) (af:W.ownBlock=some U\/U=w.heap.size+1) (ar:W.ownBlock≠some b):
  jE w b gp B (ps++[((j:Int),x)]) (.returned (.tuple #[])) ((V.setCell ⟨b,6256,none⟩ (.slice (some ⟨U,0,none⟩) (z+1) h)).setCell ⟨b,3128+j,none⟩ (.int .u64 x)):=by
 have ai:az [gp] w V:=((az.refl [gp] w).alloc o).drew.trans (az.of_grown (l:=[gp]) J (by intro k hk;rw[hg k hk];simp)) (by simp);have ak:bh V b (gQ B (aA B ps) W) 119 :=by
  have h1:bh (w.alloc o).drew b (gQ B (aA B ps) W) 119 :=hb.alloc o;have aj:=h1.lt;unfold bh at h1 ⊢;rw[<-h1];exact J.block b aj (λe=>ar e.symm)
 have ah:b≠U:=by have :=cZ G U rfl;omega
 have ae:∀(u v:Value),az [b] V ((V.setCell ⟨b,6256,none⟩ u).setCell ⟨b,3128+j,none⟩ v):=λu v=>((az.refl [b] _).setCell (by simp) _).setCell (by simp) _
 refine⟨rfl,U,?_,⟨⟨lb,?_,.slice (some ⟨U,0,none⟩) (z+1) h,?_,?_,?_⟩,ag⟩,?_⟩
 ·rcases af with e|e
  ·exact .inl (hg _ e)
  ·refine .inr ⟨by omega,?_⟩
   have :=(G.lt U rfl).2;simpa[World.setCell] using this
 ·rw[aa,cT];exact lx
 ·have :=(ak.set 6256 (.slice (some ⟨U,0,none⟩) (z+1) h)).set (3128+j) (.int .u64 x)
  rw[Ah _ lb lx,Ag _ lb (by omega)] at this;rw[aa];exact this
 ·rw[hl,he,sU]
  exact dB G (ae _ _) (by intro k hk;cases hk;simpa using dK ah)
 ·intro k hk;cases hk;rfl
 ·exact(ai.mono (by simp)).trans (ae _ _) (by simp)
theorem oD (h:eO w b gp B ps)(hn:ps.length<=1000000)(i x:Int):
  Calls prog 48 #[.pointer (some ⟨b,0,none⟩),.int .i64 i,.int .u64 x] w (jE w b gp B (zj ps i x)):=by
 have HI:=au (Ai i w);unfold zj;cases V:QL i
 ·rw[V] at HI
  rw[aB (by simp)];have HM:Hid (jE w b gp B ps (.returned (.tuple #[])) w):=⟨rfl,gp,.inl rfl,h,az.refl _ _⟩;clear V h;go_enter func48,ntmps48;go_wp2_with(go_at_call 94;refine HI.out.mono ?_;rintro e w' ⟨rfl,rfl⟩);go_end0;exact HM.out
 ·rw[V] at HI
  rw[aC rfl];obtain⟨h0,h1⟩:=sB.1 V;clear V;obtain⟨j,rfl⟩:=cu h0;obtain⟨⟨lb,lx,vp,G,hr,hg⟩,inp⟩:=h;obtain⟨i0,V,ac,ah,ai⟩:=cP Tryz.info_put;have hj:j<3128:=by omega
  have c1:w.cell? ⟨b,6256,none⟩=some vp:=by rw[G.cell,tE _ lb lx]
  have c2:w.cell? ⟨b,3128+j,none⟩=some (.int .u64 ((aA B ps).getD j 0)):=by rw[G.cell,BB _ lb (by omega)]
  have f1:w.frozen? ⟨b,6256,none⟩=false:=G.frozen _;have f2:w.frozen? ⟨b,3128+j,none⟩=false:=G.frozen _;have F1:∀o,(w.alloc o).drew.frozen? ⟨b,6256,none⟩=false:=λo=>(G.alloc o).frozen _
  have F2:∀o,(w.alloc o).drew.frozen? ⟨b,3128+j,none⟩=false:=λo=>(G.alloc o).frozen _
  have av:=G.lt;have E2:∀o,(w.alloc o).drew.cell? ⟨b,3128+j,none⟩=some (.int .u64 ((aA B ps).getD j 0)):=λo=>by rw[<-c2];exact aO (w:=w) (jv _ _ _ G.lt)
  have n1:¬3128+j=6256:=by omega
  have E1:∀o,(w.alloc o).drew.cell? ⟨b,6256,none⟩=some vp:=λo=>by rw[<-c1];exact aO (w:=w) (jv _ _ _ G.lt)
  have U:vp.ownBlock≠some b:=λe=>by have :=cZ hr b e;omega
  obtain⟨a,cap,hv,q1,q2⟩:=iV hr;rw[rE] at hr hv q1;have HE:=au (Lf B ps (j:Int) x);have QM:Hid (aA B (ps++[((j:Int),x)])=(aA B ps).set j x):=by show aA B _=_;rw[bD];rfl
  have D3:Hid (N3 (ps++[((j:Int),x)]) 3128):=Ou inp (aaa h0 h1);have HL:Hid ((ko B (ps++[((j:Int),x)])).length=ps.length+1):=by show List.length _=_;rw[rE];simp
  rw[aH] at HE;subst hv;have HB:=au G;have HR:=au hr;have HG:=au hg;have LB:=au lb;have LX:=au lx;clear G hr hg lb lx inp;generalize (aA B ps).getD j 0=ae at *;generalize aa:ps.length=n at *;have yI:=au aa;clear aa;unfold maxLen at q2;go_enter func48,ntmps48;go_wp2_with fail;refine HI.out.mono ?_;rintro e w' ⟨rfl,rfl⟩;go_wp2_with fail
  go_region_law ((refine step_append_lies _ (by rfl) _ _ _ (by rfl) (b+1) 139 i0 _ 2 16 underlying117 V ac ah ai rfl (by omega) (.slice a n cap) n _ (by rfl) ((HR.out.alloc _).drew) ⟨w.heap.size,0,none⟩ 1 1 [.int .i64 (j:Int),.int .u64 ae] (by rfl) (by rfl) (jP w [_,_] _ _ rfl) (by simp[Value.oneCell']) (by omega) (by unfold maxLen;omega) (by omega) (by simp;omega) (w.heap.size+1) (by simp) ?_;intro EC aj w1 J z W af;have ag:=(z.cell_far ⟨b,6256,none⟩ (by simp;omega) (dK U)).trans (E1 _);have Zd:=(z.frozen_far ⟨b,6256,none⟩ (by simp;omega) (dK U)).trans (F1 _);have ar:=(z.cell_far ⟨b,3128+j,none⟩ (by simp;omega) (dK U)).trans (E2 _);have ak:=(z.frozen_far ⟨b,3128+j,none⟩ (by simp;omega) (dK U)).trans (F2 _)))
  all_goals
   have HM:=au (VS HB.out HG.out LB.out LX.out hj HE.out QM.out D3.out HL.out J z W U);clear J z W af ag;go_wp2_with fail;go_end0;exact HM.out
end Go.Proofs.YtepbpdipenedhaaGreatDoor
