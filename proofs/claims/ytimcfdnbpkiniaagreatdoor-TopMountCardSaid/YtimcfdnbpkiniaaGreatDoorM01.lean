/- Lemmas. -/
import Derived.Test.YtimcfdnbpkiniaaGreatDoorM00
import Derived.RegionTactic
import Derived.Deep.LoopGhost
import Derived.Deep.RegionWith
import Derived.Laws.CopyRow
import Derived.Laws.IdiomCopy
import Derived.Laws.Tables
import Derived.Deep.RegionLaw
import Derived.Deep.AppendLies
set_option maxHeartbeats 2000000
set_option maxRecDepth 100000
namespace Go.Proofs.YtimcfdnbpkiniaaGreatDoor
open Go.Proofs.Tryz
section
open Go.RowKit
variable{w w':World}{J U b g gf gl gn gp k n z:Nat}{s:kp}{P:Program}{ty:TypeId}{l:List Bool}{v:Value}{B X ws xs:List Int}{G ps qs:List (Int×Int)}{i x:Int}
theorem fx.mark(h:fx w b gn gl gf s)(V:s.now.length≠0)(j:Nat)(x:Bool):
  fx (w.setCell ⟨gf,j,none⟩ (.bool x)) b gn gl gf { s with fl:=s.fl.set j x }:=by
 obtain⟨n9,ll,fll,G,U,vl,J,a,c,d,e⟩:=h;obtain⟨⟨p1,p2,p3⟩,p4,p5,W⟩:=G V;have z:ay [gf] w (w.setCell ⟨gf,j,none⟩ (.bool x)):=(ay.refl _ _).setCell (by simp) _;refine⟨n9,ll,by simpa using fll,G,U,vl,J,a.keep z (by simpa using cZ p3),c.keep z (by simpa using p5),d.keep z (by simpa using W),?_⟩;simpa[Cs] using e.set j (.bool x)
def Ah (fl:List Bool) (q k:Nat):List Bool:=fl.mapIdx λj x=>if q*8<=j/\j<q*8+k then true else x
theorem TH (fl:List Bool)(q:Nat):Ah fl q 0=fl:=by
 apply cE;intro j;simp only[Ah,fX];cases fl[j]? <;>simp
 omega
theorem TI (fl:List Bool)(q k:Nat):(Ah fl q k).set (q*8+k) true=Ah fl q (k+1):=by
 apply cE;intro j;simp only[Ah,fh,fX,List.length_mapIdx];by_cases G:q*8+k=j
 ·subst G
  by_cases z:q*8+k<fl.length
  ·simp[z]
  ·simp[z]
 ·rw[aA G]
  cases fl[j]? with
  |none=>simp
  |some x=>
   simp only[fU,Option.some.injEq];by_cases h:q*8<=j/\j<q*8+k
   ·rw[aB h,aB ⟨h.1,by omega⟩]
   ·rw[aA h,aA]
def kp.flush (s:kp) (i:Int):kp:=if s.refusal i=0 then { s.count with fl:=Ah s.fl (i.toNat/8) 8 } else s
theorem Mx (h:fx w b gn gl gf s)(hf:s.fit)(i:Int):
  Calls prog 106 #[b,i] w λe w'=>e=(s.refusal i:Int)/\fx w' b gn gl gf (s.flush i)/\ay [b,gn,gl,gf] w w':=by
 have W:=ar (Ag h i);by_cases z:s.refusal i=0
 ·obtain⟨hg,i0,i1⟩:=kp.refusal_ok z
  rw[kp.flush,aB z];obtain⟨i,rfl⟩:=cA i0;rw[z] at W ⊢;have ae:=h.n9;have hc:=ar (FE h hf hg);clear z h hf;go_in;go_wp2_with fail;refine C' W.out ?_;go_wp2_with fail;refine Rr hc.out ?_;rintro w1 ⟨h,hk⟩;obtain⟨vn,vl,vf,a,c,d,e⟩:=h.at_;have V:s.count.now.length=s.now.length:=rfl;obtain⟨-,⟨cf,rfl,r1,r2⟩,-,-⟩:=e.cell (by omega);have k0:w1.cell? ⟨b,2,none⟩=some (.slice gf ((s.now.length+7)/8) cf):=by rw[a.cell];rfl
  obtain⟨H,HK⟩:=hh2 h hk;clear a c d e h hk V;go_wp2_with fail
  go_loopw [23] (λc wr=>∃k:Nat,k<=8/\c= .int .i64 (k:Int)/\fx wr b gn gl gf { s.count with fl:=Ah s.fl (i/8) k }/\ay [b,gn,gl,gf] w wr) (λc _=>8-(intOf c).toNat)
  case atStart=>exact⟨0,by omega,rfl,by rw[TH];exact H.out,HK.out.mono (by simp)⟩
  case round=>
   obtain⟨k,uA,rfl,G,J⟩:=hrel;by_cases ac:k<8
   ·have hs:=ar (G.mark (show s.now.length≠0 by omega) (i/8*8+k) true)
    obtain⟨aa,ag,af,a,c,d,e⟩:=G.at_;have V:({ s.count with fl:=Ah s.fl (i/8) k }:kp).now.length=s.now.length:=rfl;obtain⟨-,-,r3,r4⟩:=e.cell (by omega);have k1:wr.cell? ⟨gf,i/8*8+k,none⟩=some (.bool ((Ah s.fl (i/8) k).getD (i/8*8+k) false)):=by
     have :=G.fll;rw[r3 _ (by omega),uM (by rw[this];omega)]
    have k2:wr.frozen? ⟨gf,i/8*8+k,none⟩=false:=r4 _;have U:=ar J;clear a c d e r3 r4 G J V k0;generalize (Ah s.fl (i/8) k).getD (i/8*8+k) false=y at *;go_wp2
    go_roundw
    case rel=>
     refine⟨k+1,by omega,by go_num,?_,U.out.setCell (by simp) _⟩;rw[<-TI];exact hs.out
    case measure=>simp[intOf];omega
   ·obtain rfl:k=8:=by omega
    obtain⟨HP,U⟩:=hh2 G J;clear G J;go_wp2;go_ret;exact⟨rfl,HP.out,U.out⟩
 ·rw[kp.flush,aA z]
  have h1:(s.refusal i != 0)=true:=by simpa using z
  have H:=ar h;generalize s.refusal i=r at *;clear h z;go_in;go_wp2_with(go_at_call 108;refine C' W.out ?_);go_ret;exact⟨rfl,H.out,ay.refl _ _⟩
def mix (c l:List Int) (i:Nat):List Int:=c.take i++l.drop i
theorem Xd (c l:List Int):mix c l 0=l:=by simp[mix]
theorem aaS (c l:List Int)(i:Nat)(h:c.length<=i)(z:l.length<=i):mix c l i=c:=by simp[mix,aW h,dz z]
theorem aaT (c l:List Int)(i:Nat)(h:c.length=l.length):(mix c l i).length=l.length:=by
 simp[mix];omega
theorem Xe (c l:List Int)(i:Nat)(h:c.length=l.length)(U:i<l.length):mix c l (i+1)=(mix c l i).set i (c.getD i 0):=by
 apply cE;intro j;simp only[mix,fh,iy,aJ,bU,b9,aC,bM,aj];by_cases z:i=j
 ·subst z
  have G:i<c.length:=by omega
  simp[G];rw[aB,aB]
 ·rw[aA z]
  by_cases J:j<i
  ·rw[aB,aB,aB,aB]
  ·rw[aA,aA]
   congr 1;omega
theorem fx.setLast(h:fx w b gn gl gf s)(W:s.now.length≠0)(j:Nat)(x:Int):
  fx (w.setCell ⟨gl,j,none⟩ (.int .u64 x)) b gn gl gf { s with last:=s.last.set j x }:=by
 obtain⟨n9,ll,fll,G,U,vl,J,a,c,d,e⟩:=h;obtain⟨⟨p1,p2,p3⟩,V,p5,p6⟩:=G W;have z:ay [gl] w (w.setCell ⟨gl,j,none⟩ (.int .u64 x)):=(ay.refl _ _).setCell (by simp) _;refine⟨n9,by simpa using ll,fll,G,U,vl,J,a.keep z (by simpa using cZ p2),c.keep z (by simpa using V),?_,e.keep z (by simpa using cZ p6)⟩;simpa[lI] using d.set j (.int .u64 x)
theorem fx.drew(h:fx w b gn gl gf s):fx w.drew b gn gl gf s:=
 h.keep ((ay.refl [] w).drew) (by simp) (by simp)
theorem PR (w:World):(zeroValue 200).run prog w= .ok (.agg (Array.replicate 8 (.bool false))) w:=by kernel_rfl
theorem rD (n:Nat):(Builtin.zeroCells (Value.agg (Array.replicate 8 (.bool false))).cells n).toList=bools (List.replicate (n*8) false):=by
 apply cE;intro j;simp only[Builtin.zeroCells,Value.cells,bools,jT,Array.size_replicate,Array.toList_map,Array.toList_range,bJ,bj];by_cases h:j<n*8
 ·have z:j%8<8:=iw _ (by omega)
  rw[cC h];simp[h,z]
 ·rw[aP (by simpa using h)]
  simp[h]
theorem Jq (l:List Bool):∀u∈bools l,u.oneCell'=true:=by
 intro u h;simp only[bools,bH] at h;obtain⟨x,-,rfl⟩:=h;rfl
theorem fx.clear(h:fx w b gn gl gf s):
  ∃z w',w.cell? ⟨b,2,none⟩=some z/\(∀ty,(Builtin.clear_ #[110] ty #[z]).run prog w= .ok (.tuple #[]) w')/\
   fx w' b gn gl gf { s with fl:=List.replicate s.fl.length false }/\ay [b,gn,gl,gf] w w':=by
 obtain⟨n9,ll,fll,G,vn,vl,z,a,c,d,e⟩:=h;obtain⟨w',J,W,U⟩:=Fy (P:= prog) (ty:=0) underlying110 PR rfl (by rw[rD];exact Jq _) e;rw[rD,<-fll] at W;refine⟨z,w',by rw[a.cell];rfl,λty=> ?_,⟨n9,ll,by simpa using fll,G,vn,vl,z,?_,?_,?_,?_⟩,U.mono (by simp)⟩
 ·exact J
 ·by_cases hn:s.now.length=0
  ·obtain⟨V,c1,e1,_,_⟩:=e.val
   have :w'=w:=by
    have hz:(s.now.length+7)/8=0:=by omega
    rw[e1,hz] at J;have h4:(Builtin.clear_ #[110] 0 #[.slice V 0 c1]).run prog w= .ok (.tuple #[]) w:=by
     cases V<;>simp[Builtin.clear_,dB underlying110]
    rw[h4] at J;exact(Result.ok.inj J).2.symm
   rw[this];exact a
  ·exact a.keep U (by simpa using cZ (G hn).1.2.2)
 ·exact c.keepIf U λh=>by simpa using (G h).2.2.1
 ·exact d.keepIf U λh=>by simpa using (G h).2.2.2
 ·exact W
end
section
open Go.RowKit
variable{w w':World}{J U b g gf gl gn gp k n z:Nat}{s:kp}{P:Program}{ty:TypeId}{l:List Bool}{v:Value}{B X ws xs:List Int}{G ps qs:List (Int×Int)}{i x:Int}
end
section
open Go.RowKit
variable{w w':World}{J U b g gf gl gn gp k n z:Nat}{s:kp}{P:Program}{ty:TypeId}{l:List Bool}{v:Value}{B X ws xs:List Int}{G ps qs:List (Int×Int)}{i x:Int}
section
variable {P:Program} {ops:Array Oper} {rest:List Oper} {o:Oper} {a:Act} {w:World} {Q:Exit->Act->World->Prop}
theorem gJ (z:o.guard=none)(ty:TypeId)(x:Operand)(W:o.op= .load ty x)(G:Addr)(V:a.eval x= .pointer (some G))(v:Value)
  (U:(loadVar ty G).run P w= .ok v w) (h:wpList P ops Q rest (a.put o.dst v) w):wpList P ops Q (o::rest) a w:=
 wpList_plain z λ_ J=>by
  unfold Oper.wp execOp;simp only[W,V,Instr.loadAt,Instr.sureAddr,cr,fQ,cO,U];exact J _ _ h
theorem qh (z:o.guard=none)(ty:TypeId)(x y:Operand)(ho:o.op= .store ty x y)(G:Addr)(W:a.eval x= .pointer (some G))(v:Value)(J:a.eval y=v)(w':World)
  (V:(storeVar ty G v).run P w= .ok () w') (h:wpList P ops Q rest (a.put o.dst undef) w'):wpList P ops Q (o::rest) a w:=
 wpList_plain z λ_ U=>by
  unfold Oper.wp execOp;simp only[ho,W,J,Instr.storeAt,Instr.sureAddr,cr,fQ,cO,V];exact U _ _ h
end
section
variable {P:Program} {ops:Array Oper} {rest:List Oper} {a:Act} {Q:Exit->Act->World->Prop}
theorem gL {w:World}{d:Option Tmp}{x:Operand}{s:String}{U:Array Go.Edge}{t:TypeId}{z:Addr}{v:Value}(T:TypeId)(G:(loadVar T z).run P w= .ok v w)(h:wpList P ops Q rest (a.put d v) w)(J:a.eval x= .pointer (some z):=by with_unfolding_all rfl):wpList P ops Q (⟨d,.load T x,t,s,U,none⟩::rest) a w:=
 gJ rfl T x rfl z J v G h
theorem gS {w w':World}{d:Option Tmp}{x y:Operand}{s:String}{V:Array Go.Edge}{t:TypeId}{z:Addr}{v:Value}(T:TypeId)(J:(storeVar T z v).run P w= .ok () w')(h:wpList P ops Q rest (a.put d undef) w')(U:a.eval x= .pointer (some z):=by with_unfolding_all rfl)(G:a.eval y=v:=by with_unfolding_all rfl):wpList P ops Q (⟨d,.store T x y,t,s,V,none⟩::rest) a w:=
 qh rfl T x y rfl z U v G w' J h
end
theorem bZ{d:TypeDesc}(g off:Nat)(cs:List Value)(hu:P.underlying ty=some d)(hd:(match d with | .struct _ | .array _ _=>true|_=>false)=true)
  (G:(P.info? ty).map (·.size)=some cs.length) (V:∀j,j<cs.length->w.cell? ⟨g,off+j,none⟩=cs[j]?):(loadVar ty ⟨g,off,none⟩).run P w= .ok (.agg cs.toArray) w:=by
 have W:(loadCells ⟨g,off,none⟩ cs.length).run P w= .ok cs.toArray w:=
  run_loadCells_list (P:=P) w ⟨g,off,none⟩ cs (λj v J=>by
   have z:(⟨g,off,none⟩:Addr).add j=⟨g,off+j,none⟩:=by unfold Addr.add;split<;>simp_all
   have hj:j<cs.length:=(List.getElem?_eq_some_iff.1 J).1;rw[z,V j hj,J])
 cases hq:P.info? ty with
 |none=>simp[hq] at G
 |some i=>
  have U:i.size=cs.length:=by simpa[hq] using G
  have h:(isAgg ty).run P w= .ok true w:=by
   unfold isAgg;rw[cr,dB hu w];cases d<;>simp_all
  simp[loadVar,h,sizeOf,typeInfo,hq,U,W]
theorem jK{T:TypeId}(g off:Nat)(cs:List Value)(h:Array Value)(G:(P.info? ty).map (·.size)=some cs.length)(W:bh w g h T)(z:off+cs.length<=h.size)
  (V:∀v∈cs,v.oneCell'=true):(storeVar ty ⟨g,off,none⟩ (.agg cs.toArray)).run P w= .ok () (w.setRow g (h.toList.take off++cs++h.toList.drop (off+cs.length)).toArray):=by
 have J:=run_storeCells_at P g off T cs 0 h w W (by simpa using z) V;simp only[dC] at J;cases hq:P.info? ty with
 |none=>simp[hq] at G
 |some i=>
  have U:i.size=cs.length:=by simpa[hq] using G
  simp[storeVar,sizeOf,typeInfo,hq,Value.cells,U,J]
theorem jt{z:Array Oper}{rest:List Oper}{o:Oper}{a:Act}{Q:Exit->Act->World->Prop}(G:o.guard=none)(d x:Operand)(t J:TypeId)
  (ho:o.op= .call { callee:= .builtin .copy,args:= #[d,x],argTypes:= #[t,J] }) (v u:Value) (V:a.eval d=v) (hx:a.eval x=u) {U:Value} {w':World}
  (hr:(Builtin.copy_ #[t,J] o.type #[v,u]).run P w= .ok U w') (h:wpList P z Q rest (a.put o.dst U) w'):wpList P z Q (o::rest) a w:=
 wpList_plain G λ_ W=>by
  unfold Oper.wp execOp;simp only[ho,resolve,invoke,builtin,cr,fQ,cO,List.map_toArray,List.map_cons,List.map_nil,V,hx,hr];exact W _ _ h
theorem TJ (h z G J W U x6 V:Bool)(w:World):(Op.equalIn 10000 200 (.agg (bools [h,z,G,J,W,U,x6,V]).toArray) (.agg #[false,false,false,false,false,false,false,false])).run prog w=
  .ok (!(h||z||G||J||W||U||x6||V)) w:=by
 cases h<;>cases z<;>cases G<;>cases J<;>cases W<;>cases U<;>cases x6<;>cases V<;>kernel_rfl
def noMark (l:List Bool):Bool:= !(l.any id)
theorem eight(h:l.length=8):∃z G J U x4 V x6 W,l=[z,G,J,U,x4,V,x6,W]:=by
 match l,h with
 | [z,G,J,U,x4,V,x6,W],_=>exact⟨z,G,J,U,x4,V,x6,W,rfl⟩
theorem Xf (l:List Bool)(h:l.length=8)(w:World):(Op.equalIn 10000 200 (.agg (bools l).toArray) (.agg #[false,false,false,false,false,false,false,false])).run prog w= .ok (noMark l) w:=by
 obtain⟨z,G,J,U,x4,V,x6,W,rfl⟩:=eight h;rw[TJ];simp[noMark,Bool.or_assoc]
theorem My (l:List Bool)(h:l.length=8)(k:Nat)(J:k<8)(w:World):(Instr.index 200 (.agg (bools l).toArray) (.int .i64 (k:Int))).run prog w= .ok (.bool (l.getD k false)) w:=by
 obtain⟨G,U,V,W,x4,x5,x6,x7,rfl⟩:=eight h;have z:k=0\/k=1\/k=2\/k=3\/k=4\/k=5\/k=6\/k=7:=by omega
 rcases z with rfl|rfl|rfl|rfl|rfl|rfl|rfl|rfl<;>(show Sem.run _ _ _=_;kernel_rfl)
def iI (s:kp) (m:Nat):List Int:=s.last.mapIdx λj x=>if j<m/\s.fl.getD j false=true then s.now.getD j 0 else x
theorem DJ (s:kp)(m:Nat):(iI s m).length=s.last.length:=by simp[iI]
theorem KJ (s:kp):iI s 0=s.last:=by
 apply cE;intro j;simp only[iI,fX];cases s.last[j]? <;>simp
theorem rQ (s:kp)(m G:Nat)(h:∀j,j<s.last.length->s.fl.getD j false=true->(j<m↔j<G)):iI s m=iI s G:=by
 apply cE;intro j;simp only[iI,fX];cases hj:s.last[j]? with
 |none=>rfl
 |some x=>
  have J:=(List.getElem?_eq_some_iff.1 hj).1;simp only[fU,Option.some.injEq];by_cases z:s.fl.getD j false=true
  ·simp only[z,and_true,h j J z]
  ·rw[aA (λe=>z e.2),aA (λe=>z e.2)]
theorem KL (s:kp)(m:Nat)(G:s.fl.getD m false=true):iI s (m+1)=(iI s m).set m (s.now.getD m 0):=by
 apply cE;intro j;simp only[iI,fh,fX,List.length_mapIdx];by_cases z:m=j
 ·subst z
  by_cases h:m<s.last.length
  ·rw[aB rfl,aB h,aD h,fU,aB ⟨by omega,G⟩]
  ·simp[h]
 ·rw[aA z]
  cases s.last[j]? with
  |none=>rfl
  |some x=>
   simp only[fU,Option.some.injEq];have :j<m+1↔j<m:=by omega
   simp only[this]
def kp.fence (s:kp):kp:=if s.gone=true then s else { s.count with last:=iI s s.now.length,fl:=List.replicate s.fl.length false }
def kp.fenceE (s:kp):Int:=if s.gone=true then 9 else 0
def kp.fmid (s:kp) (m:Nat):kp:={ s.count with last:=iI s m }
def nz (fl:List Bool) (q:Nat):List Bool:=(fl.drop (q*8)).take 8
theorem Ai (fl:List Bool)(q k:Nat)(h:k<8):(nz fl q).getD k false=fl.getD (q*8+k) false:=by
 simp[nz,h]
theorem PS (fl:List Bool)(q:Nat)(h:q*8+8<=fl.length):(nz fl q).length=8:=by simp[nz];omega
theorem PT (h:noMark l=true)(k:Nat):l.getD k false=false:=by
 simp only[noMark,Bool.not_eq_true',List.any_eq_false,id_eq] at h;rw[aj];cases hk:l[k]? with
 |none=>rfl
 |some x=>
  have :=h x (List.mem_of_getElem? hk);simpa using this
theorem Mz (h:fx w b gn gl gf s)(hf:s.fit):
  Calls prog 107 #[b] w λe w'=>e=s.fenceE/\fx w' b gn gl gf s.fence/\ay [b,gn,gl,gf] w w':=by
 have U:=ar (Sg h);unfold kp.fence kp.fenceE;cases hg:s.gone
 ·rw[hg] at U
  have aF:=h.n9;obtain⟨ag,ai,hc⟩:=hh3 h.ll h.fll (FE h hf hg);rw[aA (by simp),aA (by simp)];clear h hf hg;go_in;go_wp2_with fail;go_step3;go_wp2_with fail;refine C' U.out ?_;go_wp2_with fail;refine Rr hc.out ?_;rintro w1 ⟨h,hk⟩;obtain⟨vn,vl,vf,a,c,d,e⟩:=h.at_;have ec:s.count.now.length=s.now.length:=rfl;obtain⟨af,cf,rfl,r1,r2⟩:=e.val;have k0:w1.cell? ⟨b,2,none⟩=some (.slice af ((s.now.length+7)/8) cf):=by rw[a.cell];rfl
  have aC:Hid (s.now.length≠0->af=some ⟨gf,0,none⟩):=λhn=>by
   obtain⟨-,⟨aG,h1,-,-⟩,-,-⟩:=e.cell (by omega);exact(Value.slice.inj h1).1
  obtain⟨H,HK⟩:=hh2 h hk;have e8:0<=((s.now.length+7)/8:Nat):=fD _;clear a c d e h hk ec;go_wp2_with fail;go_step3;go_wp2_with fail;go_loopg [17] ((s.now.length+7)/8) (λg s17 wx=>∃L:Nat,L+g=(s.now.length+7)/8/\s17= .int .i64 (L:Int)/\Hid (fx wx b gn gl gf (s.fmid (L*8))/\ay [b,gn,gl,gf] w wx))
  case atStart=>exact⟨0,by omega,rfl,by unfold kp.fmid;rw[Nat.zero_mul,KJ];exact H.out,HK.out.mono (by simp)⟩
  case round=>
   obtain⟨L,aI,rfl,HP⟩:=hrel;cases gk with
   |zero=>
    have hz:¬((L:Int)<((s.now.length:Int)+7)/8):=by omega
    have V:iI s (L*8)=iI s s.now.length:=rQ s _ _ λj G _=>by rw[ag.out] at G;omega
    obtain⟨vf,J,q0,q1,q2,q3⟩:=HP.out.1.clear;obtain⟨Q2,Q3,EL⟩:=hh3 q2 (HP.out.2.trans' q3) V;clear q2 q3 V k0;go_wp2_with fail;go_ret;refine⟨rfl,?_,Q3.out⟩;have :=Q2.out;unfold kp.fmid at this;rw[EL.out] at this;exact this
   |succ g=>
    have hz:(L:Int)<((s.now.length:Int)+7)/8:=by omega
    have av:s.now.length≠0:=by omega
    obtain⟨au,aD,ax,a,c,d,e⟩:=HP.out.1.at_;have ec:(s.fmid (L*8)).now.length=s.now.length:=rfl;obtain⟨-,-,q3,-⟩:=e.cell (by omega);rw[ec] at q3;have z:(nz s.fl L).length=8:=PS _ _ (by rw[ai.out];omega);have ot:(loadVar 200 ⟨gf,L*8,none⟩).run prog wr= .ok (.agg (bools (nz s.fl L)).toArray) wr:=by
     refine bZ gf (L*8) (bools (nz s.fl L)) underlying200 rfl (by rw[qg,z];kernel_rfl) λj G=> ?_
     rw[qg,z] at G;rw[q3 _ (by omega),uM (by rw[show(s.fmid (L*8)).fl=s.fl from rfl,ai.out];omega),uM (by omega),Ai _ _ _ G];rfl
    obtain rfl:=aC.out av;have mY:=ar ot;clear a c d e q3 ec ot k0;obtain⟨J,ae,oP,fo⟩:∃J,Hid ((storeVar 200 wr.heap.size (.agg (bools (nz s.fl L)).toArray)).run prog (wr.alloc (.cells #[false,false,false,false,false,false,false,false] 200))= .ok () J)/\
      Hid (bh J wr.heap.size (bools (nz s.fl L)).toArray 200)/\Hid (ay [] wr J):=by
     have hb:=bh.new wr #[false,false,false,false,false,false,false,false] 200;refine⟨_,jK wr.heap.size 0 (bools (nz s.fl L)) _ (by rw[qg,z];kernel_rfl) hb (by rw[qg,z];simp) (Jq _),?_,?_⟩
     ·have :=setRow_heap _ wr.heap.size _ (List.take 0 (#[Value.bool false,false,false,false,false,false,false,false]:Array Value).toList++bools (nz s.fl L)++List.drop (0+(bools (nz s.fl L)).length) (#[Value.bool false,false,false,false,false,false,false,false]:Array Value).toList).toArray _ _ hb
      rw[qg,z] at this;show bh _ _ _ _;simpa[bh,qg,z] using this
     ·exact((ay.refl _ _).alloc _).setRow (.inr (aH _)) _
    have ac:Hid ((loadVar 200 wr.heap.size).run prog J= .ok (.agg (bools (nz s.fl L)).toArray) J):=by
     refine bZ wr.heap.size 0 (bools (nz s.fl L)) underlying200 rfl (by rw[qg,z];kernel_rfl) λj G=> ?_
     rw[oP.out.cell];simp
    have hq:=Xf (nz s.fl L) z;have mA:Hid (fx J b gn gl gf (s.fmid (L*8))/\ay [b,gn,gl,gf] w J):=⟨HP.out.1.keep fo.out (by simp) (by simp),HP.out.2.trans fo.out (by simp)⟩;clear HP;cases hnm:noMark (nz s.fl L)
    ·rw[hnm] at hq
     have Ba:=ar hnm;clear hnm;go_wp2_with(with_reducible first|refine gL 200 mY.out ?_|refine gS 200 ae.out ?_|refine gL 200 ac.out ?_);clear mY ae oP fo ac hq;obtain⟨wo,rfl⟩:∃wo:World,wo=wr:=⟨_,rfl⟩;go_loopg [26] 8 (λg2 s26 wx=>∃k:Nat,k+g2=8/\s26= .int .i64 (k:Int)/\Hid (fx wx b gn gl gf (s.fmid (L*8+k))/\ay [b,gn,gl,gf] w wx))
     case atStart=>exact⟨0,by omega,rfl,mA.out⟩
     case round=>
      obtain⟨k,uA,rfl,W⟩:=hrel;clear mA;cases gk with
      |zero=>
       obtain rfl:k=8:=by omega
       go_wp2_with fail;go_roundg g;case measure=>omega
       case rel=>exact⟨L+1,by omega,by go_num,by rw[show(L+1)*8=L*8+8 by omega];exact W.out⟩
      |succ g2=>
       have Iu:=λwz=>My (nz s.fl L) z k (by omega) wz
       have aa:=Ai s.fl L k (by omega);rw[aa] at Iu;obtain⟨au,aD,ax,a,c,d,e⟩:=W.out.1.at_;have ec:(s.fmid (L*8+k)).now.length=s.now.length:=rfl;obtain⟨-,⟨az,rfl,q1,q2⟩,q3,q4⟩:=c.cell (by omega);obtain⟨-,⟨ak,rfl,q5,q6⟩,q7,q8⟩:=d.cell (by omega);have k0:wr.cell? b=some (.slice gn s.now.length az):=by rw[a.cell];rfl
       have k1:wr.cell? ⟨b,1,none⟩=some (.slice gl s.now.length ak):=by rw[a.cell];rfl
       by_cases ah:L*8+k<s.now.length
       ·have k2:wr.cell? ⟨gn,L*8+k,none⟩=some (.int .u64 (s.now.getD (L*8+k) 0)):=(q3 _ (by omega)).trans (dF ah)
        have k3:wr.cell? ⟨gl,L*8+k,none⟩=some (.int .u64 ((iI s (L*8+k)).getD (L*8+k) 0)):=(q7 _ (by omega)).trans (dF (by rw[show(s.fmid (L*8+k)).last=iI s (L*8+k) from rfl,DJ,ag.out];exact ah));have k5:wr.frozen? ⟨gl,L*8+k,none⟩=false:=q8 _;have S2:=ar (W.out.1.drew.setLast (by omega) (L*8+k) (s.now.getD (L*8+k) 0));clear a c d e q3 q4 q7 q8 aa;cases hm:s.fl.getD (L*8+k) false
        ·rw[hm] at Iu
         have HM:=ar hm;clear hm;go_wp2_with fail;go_roundg g2;case measure=>omega
         case rel=>
          refine⟨k+1,by omega,by go_num,?_,W.out.2⟩;have V:iI s (L*8+(k+1))=iI s (L*8+k):=rQ s _ _ λj G aj=>by
           by_cases h1:j=L*8+k
           ·subst h1;rw[HM.out] at aj;cases aj
           ·omega
          have :=W.out.1;unfold kp.fmid at this ⊢;rw[V];exact this
        ·rw[hm] at Iu
         have HM:=ar (KL s (L*8+k) hm);clear hm;generalize s.now.getD (L*8+k) 0=x,(iI s (L*8+k)).getD (L*8+k) 0=y at *;go_wp2_with fail
         go_region
         go_wp2_with fail;go_roundg g2;case measure=>omega
         case rel=>
          refine⟨k+1,by omega,by go_num,?_,W.out.2.drew.setCell (by simp) _⟩;have :=S2.out;unfold kp.fmid at this ⊢;rw[show L*8+(k+1)=L*8+k+1 by omega,HM.out];exact this
       ·have V:iI s (L*8+k)=iI s s.now.length:=rQ s _ _ λj G _=>by rw[ag.out] at G;omega
        have EL:=ar V;obtain⟨vf,w3,p0,p1,p2,p3⟩:=W.out.1.clear;obtain⟨P2,P3⟩:=hh2 p2 (W.out.2.trans' p3);clear a c d e q3 q4 q7 q8 aa V p2 p3;go_wp2_with fail;rw[Exit.noGoto_ret];go_ret;refine⟨rfl,?_,P3.out⟩;have :=P2.out;unfold kp.fmid at this;rw[EL.out] at this;exact this
    ·rw[hnm] at hq
     have Ba:=ar hnm;clear hnm;go_wp2_with(with_reducible first|refine gL 200 mY.out ?_|refine gS 200 ae.out ?_|refine gL 200 ac.out ?_);go_roundg g;case measure=>omega
     case rel=>
      refine⟨L+1,by omega,by go_num,?_,mA.out.2⟩;have V:iI s ((L+1)*8)=iI s (L*8):=rQ s _ _ λj G hm=>by
       by_cases h1:L*8<=j/\j<L*8+8
       ·have :=PT Ba.out (j-L*8)
        rw[Ai _ _ _ (by omega),show L*8+(j-L*8)=j by omega,hm] at this;cases this
       ·omega
      have :=mA.out.1;unfold kp.fmid at this ⊢;rw[V];exact this
 ·rw[hg] at U
  have H:=ar h;rw[aB rfl,aB rfl];clear hg h;go_in;go_wp2_with fail;go_step3;go_wp2_with(go_at_call 51;refine C' U.out ?_);rw[Exit.noGoto_ret];go_ret;exact⟨rfl,H.out,ay.refl _ _⟩
theorem Tryz.info_marks:(prog.info? 200).map (λi=>(i.zero,i.size,i.bytes))=some (some (.agg (Array.replicate 8 (.bool false))),8,8):=by kernel_rfl
def Xg (w:World) (xs:List Int) (e:Ending) (w':World):Prop:=
 ∃v g,e=(v:Value)/\eZ w' v g 70 1 xs.length (aY xs)/\(xs.length≠0->w.heap.size<=g/\g<w'.heap.size)/\ay [] w w'
theorem Xh (h:Reads w v g (aY xs))(hn:xs.length<=10000):
  Calls prog 54 #[v] w (Xg w xs):=by
 obtain⟨a,cap,rfl,h1,h2,h3⟩:=h;have e1:=λ(wz:World) (a:Option Addr) (n c:Nat)=>Lib.run_eql_slice_nil (P:= prog) wz 65 70 a n c 0 0 underlying65
 cases a with
 |none=>
  have hz:xs=[]:=by
   by_cases hx:aY xs=[]
   ·cases xs<;>simp_all[aY]
   ·obtain⟨-,off,V,-⟩:=h3 hx;cases V
  subst hz;clear h3;go_in;go_wp2_with fail;go_ret;exact⟨_,0,rfl,eZ.nil _ _ _ _,λh=>absurd rfl h,ay.refl _ _⟩
 |some ad=>
  obtain⟨i0,hi,ae,ag,af⟩:=df Tryz.info_u64;have z:∀j u,(aY xs)[j]? =some u->(w.alloc (.cells #[] 70)).cell? (ad.add j)=some u:=by
   intro j u hu;have hj:j<(aY xs).length:=(List.getElem?_eq_some_iff.1 hu).1;obtain⟨hg,off,V,hc⟩:=h3 (by intro e;rw[e] at hj;simp at hj);cases V;have W:(⟨g,off,none⟩:Addr).add j=⟨g,off+j,none⟩:=by unfold Addr.add;split<;>simp_all
   rw[W,aO (w:=w) (jI _ _ _ hg),hc j hj,hu]
  have U:(w.alloc (.cells #[] 70)).ownsRow w.heap.size 70 1 (.slice w.heap.size 0 0) 0 []:=World.ownsRow_made w #[] 0 (aH _) (by simp[maxLen]) (by simp);obtain⟨HC,HO⟩:=hh2 z U;clear z U h3;rw[bB] at h1 ⊢;go_in;go_wp2_with(at_builtin;refine eU _ rfl _ _ 65 rfl w.heap.size 70 i0 (.int .u64 0) 1 8 underlying65 hi ae ag af rfl (by decide) (.slice w.heap.size 0 0) _ _ rfl HO.out ad xs.length cap (aY xs) rfl (by rw[bB];omega) HC.out (fk xs) (by unfold maxLen;omega) (by omega) (by simp) ?_;intro v' w1 J G _);obtain⟨g',V,aa⟩:=eZ.of_row J;have H:Xg w xs (.returned v') w1:=by
   refine⟨v',g',rfl,by simpa using V,λah=> ?_,?_⟩
   ·have :=aa (by omega)
    exact⟨this.1,((by simpa using V:eZ w1 v' g' 70 1 xs.length (aY xs)).cell ah).1⟩
   ·have hk:=ay.of_grown (l:=[]) (((World.grownBy_alloc w (.cells #[] 70) none))) (by simp)
    have ac:ay [w.heap.size] (w.alloc (.cells #[] 70)) w1:=ay.of_grown G (by intro k hk;simp[Value.ownBlock] at hk;subst hk;simp);exact hk.trans ac (by simp)
  have HH:=ar H;clear J G V aa H;go_wp2_with fail;go_ret;exact HH.out
def Made (w:World) (xs:List Int) (e:Ending) (w':World):Prop:=
 ∃b gn gl gf,e=(b:Nat)/\fx w' b gn gl gf { now:=xs,last:=xs,fl:=List.replicate ((xs.length+7)/8*8) false,deeds:=0,fused:=false,left:=0 }/\
  (w.heap.size<=b/\w.heap.size<=gn/\w.heap.size<=gl/\w.heap.size<=gf)/\ay [] w w'
theorem KM{W:World}{v1 v2 v3:Value}{V:Nat}(hn:xs.length<=10000)(hk:ay [] w W)(o1:eZ W v1 U 70 1 xs.length (aY xs))(o2:eZ W v2 J 70 1 xs.length (aY xs))
  (o3:eZ W v3 V 200 8 ((xs.length+7)/8) (bools (List.replicate ((xs.length+7)/8*8) false)))
  (hz:xs.length≠0->(w.heap.size<=U/\w.heap.size<=J/\w.heap.size<=V)/\U≠J/\U≠V/\J≠V):
  Made w xs (.returned W.heap.size) (W.alloc (.cells #[v1,v2,v3,(0:Int),false,(0:Int)] 112)):=by
 have z:=hk.size;by_cases G:xs.length=0
 ·refine⟨W.heap.size,W.heap.size,W.heap.size,W.heap.size,rfl,⟨hn,rfl,by simp,λh=>absurd G h,v1,v2,v3,bh.new _ _ _,?_,?_,?_⟩,⟨z,z,z,z⟩,hk.alloc _⟩
  ·exact(o1.alloc _).anyG G _
  ·exact(o2.alloc _).anyG G _
  ·exact(o3.alloc _).anyG (by omega) _
 ·obtain⟨⟨a1,a2,a3⟩,a4,a5,a6⟩:=hz G
  have l1:=(o1.cell G).1;have l2:=(o2.cell G).1;have l3:=(o3.cell (by omega)).1;exact⟨W.heap.size,U,J,V,rfl,⟨hn,rfl,by simp,λ_=>⟨⟨by omega,by omega,by omega⟩,a4,a5,a6⟩,v1,v2,v3,bh.new _ _ _,o1.alloc _,o2.alloc _,o3.alloc _⟩,⟨z,a1,a2,a3⟩,hk.alloc _⟩
theorem PU (n:Nat):(madeCells (Array.replicate 8 (Value.bool false)) (n*8)).toList=bools (List.replicate (n*8) false):=by
 have :=rD n;simpa[Builtin.zeroCells,madeCells,Value.cells] using this
theorem Cu{q:Nat}{mc:Array Value}(G:q<=1250)(h:mc.toList=bools (List.replicate (q*8) false)):
  eZ (w.alloc (.cells mc 200)) (.slice w.heap.size q q) w.heap.size 200 8 q (bools (List.replicate (q*8) false)):=by
 have z:mc.size=q*8:=by rw[<-dO,h];simp[bools]
 refine⟨by simp[bools],_,q,rfl,aH _,by unfold maxLen;omega,λ_=>⟨rfl,mc,bh.new _ _ _,z,?_⟩⟩;rw[<-h,aW (by rw[dO];omega)]
theorem acR (h:Reads w v g (aY xs))(W:xs.length<=10000):
  Calls prog 25 #[v] w (Made w xs):=by
 have H3:=ar h;obtain⟨a,cap,rfl,h1,h2,h3⟩:=h;clear h3;rw[bB] at *;unfold maxLen at h2;go_in;go_wp2_with fail;have aa:∀U:World,(Instr.makeSlice 110 (.int .i64 (((xs.length:Int)+8-1)/8)) (.int .i64 (((xs.length:Int)+8-1)/8))).run prog U=
   .ok (.slice U.heap.size ((xs.length+7)/8) ((xs.length+7)/8)) (U.alloc (.cells (madeCells (Array.replicate 8 (.bool false)) ((xs.length+7)/8*8)) 200)):=λU=>by
  obtain⟨i0,hi,ac,ag,af⟩:=df Tryz.info_marks;have :=run_make (P:= prog) U 110 200 i0 _ underlying110 hi ac .i64 .i64 (((xs.length:Int)+8-1)/8) (((xs.length:Int)+8-1)/8) (by omega) (by omega) (by rw[af];omega) (by omega);rw[ag,show(((xs.length:Int)+8-1)/8).toNat=(xs.length+7)/8 by omega] at this;exact this
 obtain⟨mc,G⟩:∃mc,mc=madeCells (Array.replicate 8 (.bool false)) ((xs.length+7)/8*8):=⟨_,rfl⟩;have J:Hid (mc.toList=bools (List.replicate ((xs.length+7)/8*8) false)):=by rw[G];exact PU _
 rw[<-G] at aa;clear G;go_region_with (go_at_call 54;refine(Xh (g:=g) (xs:=xs) (H3.out.keep (l:=[]) ?hk (by simp)) W).mono ?_;(case hk=>(repeat (first|exact ay.refl _ _|assumption|refine ay.drew ?_|refine ay.alloc ?_ _|refine ay.trans (l':=[]) ?_ (by assumption) (by simp))));rintro e w' ⟨v1,g1,rfl,o1,z1,z⟩;obtain⟨a1,c1,rfl,_,_⟩:=o1.val;(have O1:=ar o1);clear o1)
 all_goals go_wp2_with fail
 all_goals go_ret
 ·rename_i w1 g2 z2 k2 a2 c2 _ _ O2 _ _
  have V:ay [] w w.drew:=(ay.refl _ _).drew;have hw:w.drew.heap.size=w.heap.size:=rfl;have M:=KM (w:=w) W (((V.trans k2 (by simp)).trans z (by simp)).alloc (.cells mc 200)) ((O2.out.keep z (by simp)).alloc _) (O1.out.alloc _) (Cu (by omega) J.out) (λh=>by
   have y2:=z2 h;have y1:=z1 h;have :=k2.size;have :=z.size;refine⟨⟨?_,?_,?_⟩,?_,?_,?_⟩<;>omega)
  rw[show(w'.alloc (.cells mc 200)).heap.size=w'.heap.size+1 by simp] at M;exact M
 ·rename_i w1 g2 z2 k2 a2 c2 _ _ O2 _ _
  have V:ay [] w w.drew:=(ay.refl _ _).drew;have hw:w.drew.heap.size=w.heap.size:=rfl;have hs:(w1.alloc (.cells mc 200)).heap.size=w1.heap.size+1:=by simp
  exact KM (w:=w) W (((V.trans k2 (by simp)).alloc (.cells mc 200)).trans z (by simp)) ((O2.out.alloc (.cells mc 200)).keep z (by simp)) O1.out ((Cu (w:=w1) (by omega) J.out).keep z (by simp)) (λh=>by
   have y2:=z2 h;have y1:=z1 h;have :=k2.size;have :=z.size;refine⟨⟨?_,?_,?_⟩,?_,?_,?_⟩<;>omega)
 ·rename_i w1 g2 z2 k2 a2 c2 _ _ O2 _ _
  have V:ay [] w w.drew:=(ay.refl _ _).drew;have hw:w.drew.heap.size=w.heap.size:=rfl;have hs:(w.alloc (.cells mc 200)).drew.heap.size=w.heap.size+1:=by
   show(w.alloc (.cells mc 200)).heap.size=_;simp
  have ae:ay [] w (w.alloc (.cells mc 200)).drew:=((ay.refl _ _).alloc _).drew;exact KM (w:=w) W ((ae.trans k2 (by simp)).trans z (by simp)) (O2.out.keep z (by simp)) O1.out (((Cu (w:=w) (by omega) J.out).drew.keep k2 (by simp)).keep z (by simp)) (λh=>by
   have y2:=z2 h;have y1:=z1 h;have :=k2.size;have :=z.size;refine⟨⟨?_,?_,?_⟩,?_,?_,?_⟩<;>omega)
def uN (n:Int):Nat:=(min (max n 0) 10000).toNat
theorem aaU (n:Int):uN n<=10000:=by unfold uN;omega
theorem Made.weaken{z:World}{e:Ending}(h:Made z xs e w')(G:ay [] w z):Made w xs e w':=by
 obtain⟨b,gn,gl,gf,U,V,⟨h3,W,h5,h6⟩,J⟩:=h;have :=G.size;exact⟨b,gn,gl,gf,U,V,⟨by omega,by omega,by omega,by omega⟩,G.trans J (by simp)⟩
theorem ado (w:World)(n:Int):
  Calls prog 20 #[n] w (Made w (List.replicate (uN n) 0)):=by
 obtain⟨i0,hi,aa,ac,V⟩:=df Tryz.info_u64;have hq:=aaU n;have U:(Instr.makeSlice 65 (.int .i64 (uN n:Int)) (.int .i64 (uN n:Int))).run prog w=
   .ok (.slice w.heap.size (uN n) (uN n)) (w.alloc (.cells (madeCells #[.int .u64 0] (uN n)) 70)):=by
  have :=run_make (P:= prog) w 65 70 i0 _ underlying65 hi aa .i64 .i64 (uN n:Int) (uN n:Int) (by omega) (by omega) (by rw[V];omega) (by omega);rw[ac,aG,iJ] at this;exact this
 have hr:Reads (w.alloc (.cells (madeCells #[.int .u64 0] (uN n)) 70)) (.slice w.heap.size (uN n) (uN n)) w.heap.size (aY (List.replicate (uN n) 0)):=by
  refine eZ.reads (T:= 70) (n:=uN n) ⟨by simp[aY],_,uN n,rfl,aH _,by unfold maxLen;omega,λ_=>⟨rfl,_,bh.new _ _ _,by simp[size_madeCells],?_⟩⟩;rw[toList_madeCells_one,Jp,aW (by simp[aY])]
 have W:=ar ((acR hr (by simpa using hq)).mono λe w' h=>h.weaken ((ay.refl _ w).alloc _));clear hr;have z:((uN n:Nat):Int)=min (max n 0) 10000:=by unfold uN;omega
 generalize uN n=q at *;rcases (show n<0\/(0<=n/\n<=10000)\/10000<n by omega) with h|⟨h,h'⟩|h
 ·obtain rfl:q=0:=by omega
  clear z hq;simp only[Int.natCast_zero] at U;go_in;go_wp2_with fail;refine W.out.mono ?_;intro e w1 G;have J:=ar G;obtain⟨b,gn,gl,gf,rfl,-,-,-⟩:=G;go_wp2_with fail;go_ret;exact J.out
 ·obtain rfl:n=(q:Int):=by omega
  clear z;go_in;go_wp2_with fail;refine W.out.mono ?_;intro e w1 G;have J:=ar G;obtain⟨b,gn,gl,gf,rfl,-,-,-⟩:=G;go_wp2_with fail;go_ret;exact J.out
 ·obtain rfl:q=10000:=by omega
  clear z hq;simp only[show((10000:Nat):Int)=10000 from rfl] at U;generalize madeCells #[Value.int .u64 0] 10000=mc,List.replicate 10000 (0:Int)=xs at *;go_in;go_wp2_with fail;refine W.out.mono ?_;intro e w1 G;have J:=ar G;obtain⟨b,gn,gl,gf,rfl,-,-,-⟩:=G;go_wp2_with fail;go_ret;exact J.out
theorem Tryz.info_pair:(prog.info? 82).map (λi=>(i.zero,i.size,i.bytes))=some (some (.agg #[(0:Int),.int .u64 0]),2,16):=by kernel_rfl
theorem FH (n:Nat)(W:n<=100000)(m:Int)(U:m=(n:Int))(w:World):(Instr.makeSlice 80 (.int .i64 m) (.int .i64 m)).run prog w=
  .ok (.slice w.heap.size n n) (w.alloc (.cells (madeCells #[(0:Int),.int .u64 0] (n*2)) 82)):=by
 subst U;obtain⟨V,J,h,z,G⟩:=df Tryz.info_pair;have :=run_make (P:= prog) w 80 82 V _ underlying80 J h .i64 .i64 (n:Int) (n:Int) (by omega) (by omega) (by rw[G];omega) (by omega);rw[z,aG] at this;exact this
theorem FI (w:World)(n:Nat)(z:n<=100000):eZ (w.alloc (.cells (madeCells #[(0:Int),.int .u64 0] (n*2)) 82)) (.slice w.heap.size n n) w.heap.size 82 2 n (jb (List.replicate n (0,0))):=by
 have h:(madeCells #[Value.int .i64 0,Value.int .u64 0] (n*2)).size=n*2:=by rw[<-dO,DI,sK,bE]
 refine⟨by rw[sK,bE],_,n,rfl,aH _,by unfold maxLen;omega,λ_=>⟨rfl,_,bh.new _ _ _,h,?_⟩⟩;rw[<-DI,aW (by rw[dO];omega)]
end
section
variable{w w':World}{J U b g gf gl gn gp k n z:Nat}{s:kp}{P:Program}{ty:TypeId}{l:List Bool}{v:Value}{B X ws xs:List Int}{G ps qs:List (Int×Int)}{i x:Int}
def kU (ws:List Int):List Int:=ws.take 3128++List.replicate (3128-ws.length) 0
theorem iE (ws:List Int):(kU ws).length=3128:=by simp only[kU,aC,aJ,bE];omega
theorem uO (ws:List Int)(i:Nat):(kU ws).getD i 0=if i<3128 then ws.getD i 0 else 0:=by
 simp only[kU,aj,iy,aJ,bU,bj];by_cases h:i<3128
 ·by_cases z:i<ws.length
  ·rw[aB,aB h,aB h]
  ·rw[aA,aB,aB h,aP (by omega)];rfl
 ·rw[aA,aA,aA h];rfl
theorem PV (h:Mv ps n)(k:Mv qs n):Mv (ps++qs) n:=λp z=>(aT.1 z).elim (h p) (k p)
theorem FJ (h:Mv ps n)(m:Nat):Mv (ps.take m) n:=λp z=>h p (bO z)
theorem aaV (n:Nat):Mv [] n:=λp h=>by simp at h
theorem aaW (G:0<=i)(z:i<n):Mv [(i,x)] n:=λp h=>by
 rw[au] at h;subst h;exact⟨G,z⟩
def kV (B:List Int) (ps:List (Int×Int)):List (Int×Int):=(List.range ps.length).map λk=>(iQ ps k,(az B (ps.take k)).getD (iQ ps k).toNat 0)
theorem sM (B:List Int)(ps:List (Int×Int)):(kV B ps).length=ps.length:=by simp[kV]
theorem FK (B:List Int)(ps:List (Int×Int))(k:Nat)(h:k<ps.length):iQ (kV B ps) k=iQ ps k/\l9 (kV B ps) k=(az B (ps.take k)).getD (iQ ps k).toNat 0:=by
 have e:(kV B ps).getD k (0,0)=(iQ ps k,(az B (ps.take k)).getD (iQ ps k).toNat 0):=by
  rw[aj,kV,bJ,cC h];rfl
 rw[iQ,l9,e];exact⟨rfl,rfl⟩
theorem Cv (h:k<ps.length):iQ (ps++qs) k=iQ ps k:=by
 simp[iQ,iy,h]
theorem MA (B:List Int)(ps:List (Int×Int))(i x:Int):kV B (ps++[(i,x)])=kV B ps++[(i,(az B ps).getD i.toNat 0)]:=by
 have z:iQ (ps++[(i,x)]) ps.length=i:=by simp[iQ]
 unfold kV;rw[aC,jZ,dV,ey,List.map_singleton,z,List.take_left]
 congr 1
 apply dP;intro k h;rw[b7] at h;rw[Cv h,fI (by omega)]
theorem TK{m:Nat}(h:k<m):iQ (ps.take m) k=iQ ps k:=by
 simp[iQ,h]
theorem xM (B:List Int)(ps:List (Int×Int))(m:Nat)(h:m<=ps.length):(kV B ps).take m=kV B (ps.take m):=by
 unfold kV;rw[<-jq,List.take_range,aJ,cT h];apply dP;intro k z;rw[b7] at z;rw[TK z,List.take_take,cT (by omega)]
theorem KN (l:List Int)(i:Nat)(x:Int):(l.set i x).set i (l.getD i 0)=l:=by
 rw[List.set_set];exact zL l i 0
theorem MB (B:List Int)(ps:List (Int×Int))(k:Nat)(h:k<ps.length):
  (az B (ps.take (k+1))).set (iQ ps k).toNat ((az B (ps.take k)).getD (iQ ps k).toNat 0)=az B (ps.take k):=by
 rw[Cn B ps k h];exact KN _ _ _
def DK (m:Int) (n:Nat):Nat:=(min (max m 0) (n:Int)).toNat
theorem Xi (m:Int)(n:Nat):DK m n<=n:=by unfold DK;omega
theorem Jr (m:Int)(n:Nat):((DK m n:Nat):Int)=min (max m 0) (n:Int):=by unfold DK;omega
def Bb (B:List Int) (ps:List (Int×Int)) (i:Int):Int:=if 0<=i/\i<3128 then (az B ps).getD i.toNat 0 else 0
def Si (i:Int):Bool:=decide (0<=i)&&decide (i<3128)
theorem tY:Si i=true↔0<=i/\i<3128:=by simp[Si]
def dh (B X:List Int) (k:Nat):List (Int×Int):=((List.range k).filter λi=>X.getD i 0 != B.getD i 0).map λ(i:Nat)=>((i:Int),X.getD i 0)
theorem DL (B X:List Int)(k:Nat)(h:X.getD k 0=B.getD k 0):dh B X (k+1)=dh B X k:=by
 unfold dh;rw[dV,eJ];have :(X.getD k 0 != B.getD k 0)=false:=by simpa using h
 simp only[fE,this,List.filter_nil];simp
theorem PW (B X:List Int)(k:Nat)(h:X.getD k 0≠B.getD k 0):dh B X (k+1)=dh B X k++[((k:Int),X.getD k 0)]:=by
 unfold dh;rw[dV,eJ];have :(X.getD k 0 != B.getD k 0)=true:=by simpa using h
 simp only[fE,this,List.filter_nil];simp
theorem PX (B X:List Int)(k:Nat):(dh B X k).length<=k:=by
 unfold dh;rw[bY];have :=fR (λi=>X.getD i 0 != B.getD i 0) (List.range k);simpa using this
end
section
open Go.RowKit
variable{w w':World}{J U b g gf gl gn gp k n z:Nat}{s:kp}{P:Program}{ty:TypeId}{l:List Bool}{v:Value}{B X ws xs:List Int}{G ps qs:List (Int×Int)}{i x:Int}
def gV (B X:List Int) (h:Value):Array Value:=(aY B++(aY X++[h])).toArray
theorem Bc (B X:List Int)(h:Value):(gV B X h).size=B.length+(X.length+1):=by simp[gV,bB]
theorem Js (X:List Int)(z:Value){i:Nat}(h:i<B.length):(gV B X z)[i]? =some (.int .u64 (B.getD i 0)):=by
 rw[gV,aF,ba (by rw[bB];exact h),dF h]
theorem Cw (G:Value)(z:B.length=3128){i:Nat}(h:i<X.length):(gV B X G)[3128+i]? =some (.int .u64 (X.getD i 0)):=by
 rw[gV,aF,aR (by rw[bB];omega),bB,z,dD,ba (by rw[bB];exact h),dF h]
theorem uP (h:Value)(G:B.length=3128)(z:X.length=3128):(gV B X h)[6256]? =some h:=by
 rw[gV,aF,aR (by rw[bB];omega),bB,G,aR (by rw[bB];omega),bB,z];rfl
theorem Bd (z:Value)(G:B.length=3128){i:Nat}(h:i<X.length)(x:Int):(gV B X z).setIfInBounds (3128+i) (.int .u64 x)=gV B (X.set i x) z:=by
 unfold gV;rw[ag,dI _ _ (by rw[bB];omega),bB,G,dD,List.set_append_left _ _ (by rw[bB];exact h),lI]
theorem Be (G:Value)(z:B.length=3128)(h:X.length=3128)(v:Value):(gV B X G).setIfInBounds 6256 v=gV B X v:=by
 unfold gV;rw[ag,dI _ _ (by rw[bB];omega),bB,z,dI _ _ (by rw[bB];omega),bB,h];rfl
structure kW (w:World) (b gp:Nat) (B X:List Int) (us:List (Int×Int)):Prop where
 lb:B.length=3128
 lx:X.length=3128
 at_:∃vp,bh w b (gV B X vp) 122/\w.ownsRow (b+1) 152 2 vp us.length (jb us)/\∀k,vp.ownBlock=some k->k=gp
structure eK (w:World) (b gp:Nat) (B:List Int) (ps:List (Int×Int)):Prop where
 raw:kW w b gp B (az B ps) (kV B ps)
 inp:Mv ps 3128
theorem kW.keep{J:List (Int×Int)}(h:kW w b z B X J){l:List Nat}(G:ay l w w')(hb:b∉l)(hg:z∉l):kW w' b z B X J:=by
 obtain⟨lb,lx,V,W,h2,U⟩:=h;exact⟨lb,lx,V,W.keep G hb,eu h2 G λk e=>by rw[U k e];exact hg,U⟩
theorem eK.keep(h:eK w b z B ps){l:List Nat}(G:ay l w w')(U:b∉l)(J:z∉l):eK w' b z B ps:=
 ⟨h.raw.keep G U J,h.inp⟩
theorem kW.lt(h:kW w b J B X G):b<w.heap.size:=by
 obtain⟨lb,lx,U,z,W,V⟩:=h;exact z.lt
theorem kW.cell0(h:kW w b J B X G){i:Nat}(V:i<3128):w.cell? ⟨b,i,none⟩=some (.int .u64 (B.getD i 0)):=by
 obtain⟨lb,lx,U,z,h2,W⟩:=h;rw[z.cell,Js _ _ (by omega)]
theorem kW.cell1(h:kW w b J B X G){i:Nat}(V:i<3128):w.cell? ⟨b,3128+i,none⟩=some (.int .u64 (X.getD i 0)):=by
 obtain⟨lb,lx,U,z,h2,W⟩:=h;rw[z.cell,Cw _ lb (by omega)]
theorem Bf (i:Int)(w:World):Calls prog 100 #[i] w λe w'=>e=(Si i:Bool)/\w=w':=by
 by_cases z:0<=i
 ·by_cases h:i<3128
  ·rw[tY.2 ⟨z,h⟩]
   go_in;go_wp2;go_ret;exact⟨rfl,rfl⟩
  ·rw[show Si i=false by simp[Si];omega]
   go_in;go_wp2;go_ret;exact⟨rfl,rfl⟩
 ·rw[show Si i=false by simp[Si];omega]
  go_in;go_wp2;go_ret;exact⟨rfl,rfl⟩
theorem TL{J:List (Int×Int)}(h:kW w b U B X J)(i:Int):
  Calls prog 57 #[b,i] w λe w'=>e= .returned (.int .u64 (if Si i=true then X.getD i.toNat 0 else 0))/\w=w':=by
 have z:=ar (Bf i w);cases hi:Si i
 ·rw[hi] at z
  rw[aA (by simp)];clear hi h;go_in;go_wp2_with(go_at_call 100;refine C' z.out ?_);go_ret;exact⟨rfl,rfl⟩
 ·rw[hi] at z
  rw[aB rfl];obtain⟨G,V⟩:=tY.1 hi;clear hi;obtain⟨i,rfl⟩:=cA G;have W:=h.cell1 (i:=i) (by omega);rw[aG];generalize X.getD i 0=x at *;clear h;go_in;go_wp2_with(go_at_call 100;refine C' z.out ?_);go_ret;exact⟨rfl,rfl⟩
theorem py (h:eK w b z B ps)(i:Int):
  Calls prog 57 #[b,i] w λe w'=>e= .returned (.int .u64 (Bb B ps i))/\w=w':=by
 have :=TL h.raw i;rw[show(if Si i=true then (az B ps).getD i.toNat 0 else 0)=Bb B ps i by unfold Bb;simp only[tY]] at this;exact this
def oH:Array Value:=gV (kU []) (kU []) (.slice none 0 0)
theorem PY (w:World):(zeroValue 122).run prog w= .ok (.agg oH) w:=by kernel_rfl
theorem vW:(prog.info? 119).map (·.size)=some 3128:=by kernel_rfl
theorem qN:(prog.info? 70).map (·.size)=some 1:=by kernel_rfl
theorem xN (B X:List Int)(h:Value):(gV B X h).toList=aY B++(aY X++[h]):=rfl
theorem KO{G:Value}(z:bh w b (gV B X G) 122)(lb:B.length=3128):
  (loadVar 119 b).run prog w= .ok (.agg (aY B).toArray) w:=by
 refine bZ b 0 (aY B) underlying119 rfl (by rw[bB,lb];exact vW) λj h=> ?_
 rw[bB] at h;rw[bc,z.cell,Js _ _ h,dF h]
theorem FL{G:Value}(z:bh w b (gV B X G) 122)(lb:B.length=3128)(lx:X.length=3128):
  (loadVar 119 ⟨b,3128,none⟩).run prog w= .ok (.agg (aY X).toArray) w:=by
 refine bZ b 3128 (aY X) underlying119 rfl (by rw[bB,lx];exact vW) λj h=> ?_
 rw[bB] at h;rw[z.cell,Cw _ lb h,dF h]
theorem kr{T:Nat}{c z:Array Value}(h:bh w b c T):bh (w.setRow b z) b z T:=setRow_heap w b c z T _ h
theorem MD{h:Value}(G:bh w b (gV B X h) 122)(lb:B.length=3128)(lx:X.length=3128)(Y:List Int)(z:Y.length=3128):
  ∃w',(storeVar 119 ⟨b,3128,none⟩ (.agg (aY Y).toArray)).run prog w= .ok () w'/\bh w' b (gV B Y h) 122/\ay [b] w w':=by
 refine⟨_,jK b 3128 (aY Y) _ (by rw[bB,z];exact vW) G (by rw[Bc,bB];omega) (fk Y),?_,(ay.refl _ _).setRow (by simp) _⟩;have e:((gV B X h).toList.take 3128++aY Y++(gV B X h).toList.drop (3128+(aY Y).length)).toArray=gV B Y h:=by
  rw[xN,List.take_left' (by rw[bB,lb]),<-List.drop_drop,List.drop_left' (by rw[bB,lb]),List.drop_left' (by rw[bB,bB,lx,z]),aV];rfl
 rw[e];exact kr G
theorem PZ (ws:List Int):aY (kU ws)=(aY ws).take 3128++(aY (kU [])).drop ((aY ws).take 3128).length:=by
 apply cE;intro j;have h:((aY ws).take 3128).length=min 3128 ws.length:=by rw[aJ,bB]
 by_cases z:j<3128
 ·rw[dF (by rw[iE];exact z),uO,aB z]
  by_cases G:j<ws.length
  ·rw[ba (by rw[h];omega),bU,aB z,dF G]
  ·rw[aR (by rw[h];omega),b9,h,dF (by rw[iE];omega),uO]
   have :ws.getD j 0=0:=by rw[aj,aP (by omega)];rfl
   rw[this,aB];rfl
 ·rw[aP (by rw[bB,iE];omega),aP]
  rw[aC,bM,h,bB,iE];omega
theorem KP (J:bh w b oH 122)(h:Reads w v g (aY ws)):
  ∃n w',(∀ty,(Builtin.copy_ #[65,65] ty #[.slice b 3128 3128,v]).run prog w= .ok n w')/\bh w' b (gV (kU ws) (kU []) (.slice none 0 0)) 122/\ay [b] w w':=by
 obtain⟨a,cap,rfl,h1,h2,h3⟩:=h;rw[bB] at *;by_cases W:ws.length=0
 ·obtain rfl:ws=[]:=bo W
  exact⟨_,w,λty=>run_copy_none (P:= prog) w 65 65 ty 70 _ a 3128 3128 0 cap underlying65 qN (by simp),J,ay.refl _ _⟩
 ·obtain⟨hg,off,rfl,hc⟩:=h3 (by intro e;have :=cP List.length e;rw[bB,cD] at this;omega)
  have G:((aY ws).take 3128).length=min ws.length 3128:=by rw[aJ,bB,Nat.min_comm]
  have V:oH.size=6257:=by rw[oH,Bc,iE]
  refine⟨_,_,λty=>run_copy_row (P:= prog) w 65 65 ty 70 b 0 3128 3128 ⟨g,off,none⟩ ws.length cap oH 122 ((aY ws).take 3128) underlying65 qN J G ?_ ?_ ?_,?_,(ay.refl _ _).setRow (by simp) _⟩
  ·intro j u z
   rw[bU] at z;split at z
   ·have U:j<(aY ws).length:=(List.getElem?_eq_some_iff.1 z).1
    rw[bB] at U;rw[add_plain,hc j U,z]
   ·cases z
  ·rw[G,V];omega
  ·exact λu z=>fk ws u (bO z)
  ·have e:(oH.toList.take 0++(aY ws).take 3128++oH.toList.drop (0+((aY ws).take 3128).length)).toArray=gV (kU ws) (kU []) (.slice none 0 0):=by
    rw[oH,xN,eP,bQ,bc,List.drop_append_of_le_length (by rw[G,bB,iE];omega),<-aV,<-PZ];rfl
   rw[e];exact kr J
def yP (w:World) (B:List Int) (e:Ending) (w':World):Prop:=
 ∃b,e=(b:Nat)/\w.heap.size<=b/\eK w' b b B []/\ay [] w w'
theorem Bg (h:Reads w v g (aY ws)):
  Calls prog 32 #[v] w (yP w (kU ws)):=by
 have z:bh (w.alloc (.cells oH 122)) w.heap.size oH 122 :=bh.new w _ _;have cM:ay [] w (w.alloc (.cells oH 122)):=(ay.refl _ _).alloc _;obtain⟨n,w1,V,G,U⟩:=KP z (h.keep cM (by simp));have Cx:=KO G (iE ws);obtain⟨w2,W,aa,J⟩:=MD G (iE ws) (iE []) (kU ws) (iE ws);have HM:Hid (yP w (kU ws) (.returned w.heap.size) w2):=by
  refine⟨_,rfl,aH _,⟨⟨iE ws,iE ws,_,aa,⟨rfl,.inl ⟨rfl,rfl⟩⟩,by intro k hk;cases hk⟩,aaV _⟩,?_⟩;exact(cM.trans U (by simp)).trans J (by simp)
 obtain⟨ac,TM,xC⟩:=hh3 V W Cx;obtain⟨a,cap,rfl,-,-,-⟩:=h;clear z cM V G U Cx W aa J;generalize (aY (kU ws)).toArray=Y at *;have ae:=PY;generalize oH=Z at *;go_in;go_wp2_with(first|((with_reducible show wpList _ _ _ (⟨some 11,_,_,_,_,_⟩::_) _ _);refine jt rfl (.tmp 9) (.tmp 10) 65 65 rfl _ _ rfl rfl (ac.out _) ?_)|(with_reducible refine gL 119 xC.out ?_)|(with_reducible refine gS 119 TM.out ?_));go_ret;exact HM.out
theorem Tryz.info_put:(prog.info? 152).map (λi=>(i.zero,i.size,i.bytes))=some (some (.agg #[(0:Int),.int .u64 0]),2,16):=by kernel_rfl
def jQ (w:World) (b z:Nat) (B:List Int) (ps:List (Int×Int)) (e:Ending) (w':World):Prop:=
 e= .returned (.tuple #[])/\∃h,(h=z\/(w.heap.size<=h/\h<w'.heap.size))/\eK w' b h B ps/\ay [b,z] w w'
def Aj (ps:List (Int×Int)) (i x:Int):List (Int×Int):=if Si i=true then ps++[(i,x)] else ps
theorem Xj{V:World}{h j:Nat}{aa:Int}{W:Value}{o:Obj}(hb:bh w b (gV B (az B ps) W) 122)
  (hg:∀k,W.ownBlock=some k->k=gp) (lb:B.length=3128) (lx:(az B ps).length=3128) (hj:j<3128)
  (he:kV B (ps++[((j:Int),x)])=kV B ps++[((j:Int),aa)]) (ae:az B (ps++[((j:Int),x)])=(az B ps).set j x) (af:Mv (ps++[((j:Int),x)]) 3128)
  (hl:(kV B (ps++[((j:Int),x)])).length=z+1)
  (J:V.ownsRow (b+1) 152 2 (.slice U (z+1) h) (z+1) (jb (kV B ps)++[.int .i64 (j:Int),.int .u64 aa]))
  (G:(w.alloc o).drew.grownBy V W.ownBlock) (aj:W.ownBlock=some U\/U=w.heap.size+1) (ar:W.ownBlock≠some b):
  jQ w b gp B (ps++[((j:Int),x)]) (.returned (.tuple #[])) ((V.setCell ⟨b,6256,none⟩ (.slice U (z+1) h)).setCell ⟨b,3128+j,none⟩ (.int .u64 x)):=by
 have ag:ay [gp] w V:=((ay.refl [gp] w).alloc o).drew.trans (ay.of_grown (l:=[gp]) G (by intro k hk;rw[hg k hk];simp)) (by simp);have ah:bh V b (gV B (az B ps) W) 122 :=by
  have h1:bh (w.alloc o).drew b (gV B (az B ps) W) 122 :=hb.alloc o;have ak:=h1.lt;unfold bh at h1 ⊢;rw[<-h1];exact G.block b ak (λe=>ar e.symm)
 have ai:b≠U:=by have :=dQ J U rfl;omega
 have ac:∀(u v:Value),ay [b] V ((V.setCell ⟨b,6256,none⟩ u).setCell ⟨b,3128+j,none⟩ v):=λu v=>((ay.refl [b] _).setCell (by simp) _).setCell (by simp) _
 refine⟨rfl,U,?_,⟨⟨lb,?_,.slice U (z+1) h,?_,?_,?_⟩,af⟩,?_⟩
 ·rcases aj with e|e
  ·exact .inl (hg _ e)
  ·refine .inr ⟨by omega,?_⟩
   have :=(J.lt U rfl).2;simpa[World.setCell] using this
 ·rw[ae,cY];exact lx
 ·have :=(ah.set 6256 (.slice U (z+1) h)).set (3128+j) (.int .u64 x)
  rw[Be _ lb lx,Bd _ lb (by omega)] at this;rw[ae];exact this
 ·rw[hl,he,uz]
  exact eu J (ac _ _) (by intro k hk;cases hk;simpa using cZ ai)
 ·intro k hk;cases hk;rfl
 ·exact(ag.mono (by simp)).trans (ac _ _) (by simp)
theorem pz (h:eK w b gp B ps)(hn:ps.length<=1000000)(i x:Int):
  Calls prog 47 #[b,i,.int .u64 x] w (jQ w b gp B (Aj ps i x)):=by
 have HI:=ar (Bf i w);unfold Aj;cases V:Si i
 ·rw[V] at HI
  rw[aA (by simp)];have HM:Hid (jQ w b gp B ps (.returned (.tuple #[])) w):=⟨rfl,gp,.inl rfl,h,ay.refl _ _⟩;clear V h;go_in;go_wp2_with(go_at_call 100;refine C' HI.out ?_);go_end0;exact HM.out
 ·rw[V] at HI
  rw[aB rfl];obtain⟨h0,h1⟩:=tY.1 V;clear V;obtain⟨j,rfl⟩:=cA h0;obtain⟨⟨lb,lx,vp,U,hr,hg⟩,inp⟩:=h;obtain⟨i0,V,ae,ai,ag⟩:=df Tryz.info_put;have hj:j<3128:=by omega
  have c1:w.cell? ⟨b,6256,none⟩=some vp:=by rw[U.cell,uP _ lb lx]
  have c2:w.cell? ⟨b,3128+j,none⟩=some (.int .u64 ((az B ps).getD j 0)):=by rw[U.cell,Cw _ lb (by omega)]
  have f1:w.frozen? ⟨b,6256,none⟩=false:=U.frozen _;have f2:w.frozen? ⟨b,3128+j,none⟩=false:=U.frozen _;have F1:∀o,(w.alloc o).drew.frozen? ⟨b,6256,none⟩=false:=λo=>(U.alloc o).frozen _
  have F2:∀o,(w.alloc o).drew.frozen? ⟨b,3128+j,none⟩=false:=λo=>(U.alloc o).frozen _
  have av:=U.lt;have E2:∀o,(w.alloc o).drew.cell? ⟨b,3128+j,none⟩=some (.int .u64 ((az B ps).getD j 0)):=λo=>by rw[<-c2];exact aO (w:=w) (jI _ _ _ U.lt)
  have n1:¬3128+j=6256:=by omega
  have E1:∀o,(w.alloc o).drew.cell? ⟨b,6256,none⟩=some vp:=λo=>by rw[<-c1];exact aO (w:=w) (jI _ _ _ U.lt)
  have J:vp.ownBlock≠some b:=λe=>by have :=dQ hr b e;omega
  obtain⟨a,cap,hv,q1,q2⟩:=iV hr;rw[sM] at hr hv q1;have HE:=ar (MA B ps (j:Int) x);have Md:Hid (az B (ps++[((j:Int),x)])=(az B ps).set j x):=by show az B _=_;rw[bz];rfl
  have Fb:Hid (Mv (ps++[((j:Int),x)]) 3128):=PV inp (aaW h0 h1);have HL:Hid ((kV B (ps++[((j:Int),x)])).length=ps.length+1):=by show List.length _=_;rw[sM];simp
  rw[aG] at HE;subst hv;obtain⟨HB,HR,HG,LB,LX⟩:=hh5 U hr hg lb lx;clear U hr hg lb lx inp;generalize (az B ps).getD j 0=ac,W:ps.length=n at *;have zN:=ar W;clear W;unfold maxLen at q2;go_in;go_wp2_with fail;refine C' HI.out ?_;go_wp2_with fail
  go_region_law ((refine step_append_lies _ (by rfl) _ _ _ (by rfl) (b+1) 152 i0 _ 2 16 underlying120 V ae ai ag rfl (by omega) (.slice a n cap) n _ (by rfl) ((HR.out.alloc _).drew) ⟨w.heap.size,0,none⟩ 1 1 [.int .i64 (j:Int),.int .u64 ac] (by rfl) (by rfl) (lH w [_,_] _ _ rfl) (by simp[Value.oneCell']) (by omega) (by unfold maxLen;omega) (by omega) (by simp;omega) (w.heap.size+1) (by simp) ?_;intro FM aj w1 G z aa af;have ah:=(z.cell_far ⟨b,6256,none⟩ (by simp;omega) (cZ J)).trans (E1 _);have ak:=(z.frozen_far ⟨b,6256,none⟩ (by simp;omega) (cZ J)).trans (F1 _);have au:=(z.cell_far ⟨b,3128+j,none⟩ (by simp;omega) (cZ J)).trans (E2 _);have ax:=(z.frozen_far ⟨b,3128+j,none⟩ (by simp;omega) (cZ J)).trans (F2 _)))
  all_goals
   have HM:=ar (Xj HB.out HG.out LB.out LX.out hj HE.out Md.out Fb.out HL.out G z aa J);clear G z aa af ah;go_wp2_with fail;go_end0;exact HM.out
end
end Go.Proofs.YtimcfdnbpkiniaaGreatDoor
