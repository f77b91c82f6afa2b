/- Lemmas. -/
import Derived.Test.YtepbpdipenedhaaGreatDoorM00
import Derived.RegionTactic
import Derived.Deep.LoopGhost
import Derived.Deep.RegionWith
import Derived.Laws.CopyRow
import Derived.Laws.IdiomCopy
import Derived.Laws.Tables
import Derived.Deep.RegionLaw
import Derived.Deep.AppendLies
set_option maxHeartbeats 2000000
set_option maxRecDepth 100000
namespace Go.Proofs.YtepbpdipenedhaaGreatDoor
open Go.Proofs.Tryz
section
open Go.RowKit
variable{w w':World}{J U b g gf gl gn gp k n z:Nat}{s:iV}{P:Program}{ty:TypeId}{l:List Bool}{v:Value}{B X ws xs:List Int}{G ps qs:List (Int×Int)}{i x:Int}
theorem fw.mark(h:fw w b gn gl gf s)(V:s.now.length≠0)(j:Nat)(x:Bool):
  fw (w.setCell ⟨gf,j,none⟩ (.bool x)) b gn gl gf { s with fl:=s.fl.set j x }:=by
 obtain⟨n9,ll,fll,G,vn,vl,U,a,c,d,e⟩:=h;obtain⟨⟨p1,p2,p3⟩,p4,J,W⟩:=G V;have z:ay [gf] w (w.setCell ⟨gf,j,none⟩ (.bool x)):=(ay.refl _ _).setCell (by simp) _;refine⟨n9,ll,by simpa using fll,G,vn,vl,U,a.keep z (by simpa using cY p3),c.keep z (by simpa using J),d.keep z (by simpa using W),?_⟩;simpa[Cl] using e.set j (.bool x)
def Ag (fl:List Bool) (q k:Nat):List Bool:=fl.mapIdx λj x=>if q*8<=j/\j<q*8+k then true else x
theorem TI (fl:List Bool)(q:Nat):Ag fl q 0=fl:=by
 apply cD;intro j;simp only[Ag,fX];cases fl[j]? <;>simp
 omega
theorem TJ (fl:List Bool)(q k:Nat):(Ag fl q k).set (q*8+k) true=Ag fl q (k+1):=by
 apply cD;intro j;simp only[Ag,eT,fX,List.length_mapIdx];by_cases G:q*8+k=j
 ·subst G
  by_cases z:q*8+k<fl.length
  ·simp[z]
  ·simp[z]
 ·rw[aA G]
  cases fl[j]? with
  |none=>simp
  |some x=>
   simp only[fT,Option.some.injEq];by_cases h:q*8<=j/\j<q*8+k
   ·rw[aB h,aB ⟨h.1,by omega⟩]
   ·rw[aA h,aA]
def iV.flush (s:iV) (i:Int):iV:=if s.refusal i=0 then { s.count with fl:=Ag s.fl (i.toNat/8) 8 } else s
theorem FB (h:fw w b gn gl gf s)(hf:s.fit)(i:Int):
  Calls prog 102 #[b,i] w λe w'=>e=(s.refusal i:Int)/\fw w' b gn gl gf (s.flush i)/\ay [b,gn,gl,gf] w w':=by
 have V:=ar (Af h i);by_cases z:s.refusal i=0
 ·obtain⟨hg,i0,i1⟩:=iV.refusal_ok z
  rw[iV.flush,aB z];obtain⟨i,rfl⟩:=cy i0;rw[z] at V ⊢;have ag:=h.n9;have hc:=ar (Fz h hf hg);clear z h hf;go_in;go_wp2_with fail;refine C' V.out ?_;go_wp2_with fail;refine Rr hc.out ?_;rintro w1 ⟨h,hk⟩;obtain⟨vn,vl,vf,a,c,d,e⟩:=h.at_;have W:s.count.now.length=s.now.length:=rfl;obtain⟨-,⟨cf,rfl,r1,r2⟩,-,-⟩:=e.cell (by omega);have k0:w1.cell? ⟨b,2,none⟩=some (.slice gf ((s.now.length+7)/8) cf):=by rw[a.cell];rfl
  obtain⟨H,HK⟩:=hh2 h hk;clear a c d e h hk W;go_wp2_with fail
  go_loopw [23] (λc wr=>∃k:Nat,k<=8/\c= .int .i64 (k:Int)/\fw wr b gn gl gf { s.count with fl:=Ag s.fl (i/8) k }/\ay [b,gn,gl,gf] w wr) (λc _=>8-(intOf c).toNat)
  case atStart=>exact⟨0,by omega,rfl,by rw[TI];exact H.out,HK.out.mono (by simp)⟩
  case round=>
   obtain⟨k,uR,rfl,G,J⟩:=hrel;by_cases ae:k<8
   ·have hs:=ar (G.mark (show s.now.length≠0 by omega) (i/8*8+k) true)
    obtain⟨aa,ac,af,a,c,d,e⟩:=G.at_;have W:({ s.count with fl:=Ag s.fl (i/8) k }:iV).now.length=s.now.length:=rfl;obtain⟨-,-,r3,r4⟩:=e.cell (by omega);have k1:wr.cell? ⟨gf,i/8*8+k,none⟩=some (.bool ((Ag s.fl (i/8) k).getD (i/8*8+k) false)):=by
     have :=G.fll;rw[r3 _ (by omega),uQ (by rw[this];omega)]
    have k2:wr.frozen? ⟨gf,i/8*8+k,none⟩=false:=r4 _;have U:=ar J;clear a c d e r3 r4 G J W k0;generalize (Ag s.fl (i/8) k).getD (i/8*8+k) false=y at *;go_wp2
    go_roundw
    case rel=>
     refine⟨k+1,by omega,by go_num,?_,U.out.setCell (by simp) _⟩;rw[<-TJ];exact hs.out
    case measure=>simp[intOf];omega
   ·obtain rfl:k=8:=by omega
    obtain⟨HP,U⟩:=hh2 G J;clear G J;go_wp2;go_ret;exact⟨rfl,HP.out,U.out⟩
 ·rw[iV.flush,aA z]
  have h1:(s.refusal i != 0)=true:=by simpa using z
  have H:=ar h;generalize s.refusal i=r at *;clear h z;go_in;go_wp2_with(go_at_call 39;refine C' V.out ?_);go_ret;exact⟨rfl,H.out,ay.refl _ _⟩
def mix (c l:List Int) (i:Nat):List Int:=c.take i++l.drop i
theorem Xa (c l:List Int):mix c l 0=l:=by simp[mix]
theorem aaN (c l:List Int)(i:Nat)(z:c.length<=i)(h:l.length<=i):mix c l i=c:=by simp[mix,aW z,dx h]
theorem aaO (c l:List Int)(i:Nat)(h:c.length=l.length):(mix c l i).length=l.length:=by
 simp[mix];omega
theorem Xb (c l:List Int)(i:Nat)(h:c.length=l.length)(U:i<l.length):mix c l (i+1)=(mix c l i).set i (c.getD i 0):=by
 apply cD;intro j;simp only[mix,eT,iA,aJ,bU,b8,aC,bM,aj];by_cases z:i=j
 ·subst z
  have G:i<c.length:=by omega
  simp[G];rw[aB,aB]
 ·rw[aA z]
  by_cases J:j<i
  ·rw[aB,aB,aB,aB]
  ·rw[aA,aA]
   congr 1;omega
theorem fw.setLast(h:fw w b gn gl gf s)(V:s.now.length≠0)(j:Nat)(x:Int):
  fw (w.setCell ⟨gl,j,none⟩ (.int .u64 x)) b gn gl gf { s with last:=s.last.set j x }:=by
 obtain⟨n9,ll,fll,G,vn,vl,J,a,c,d,e⟩:=h;obtain⟨⟨p1,U,p3⟩,p4,p5,W⟩:=G V;have z:ay [gl] w (w.setCell ⟨gl,j,none⟩ (.int .u64 x)):=(ay.refl _ _).setCell (by simp) _;refine⟨n9,by simpa using ll,fll,G,vn,vl,J,a.keep z (by simpa using cY U),c.keep z (by simpa using p4),?_,e.keep z (by simpa using cY W)⟩;simpa[mI] using d.set j (.int .u64 x)
theorem fw.drew(h:fw w b gn gl gf s):fw w.drew b gn gl gf s:=
 h.keep ((ay.refl [] w).drew) (by simp) (by simp)
theorem PR (w:World):(zeroValue 97).run prog w= .ok (.agg (Array.replicate 8 (.bool false))) w:=by kernel_rfl
theorem rC (n:Nat):(Builtin.zeroCells (Value.agg (Array.replicate 8 (.bool false))).cells n).toList=bools (List.replicate (n*8) false):=by
 apply cD;intro j;simp only[Builtin.zeroCells,Value.cells,bools,jY,Array.size_replicate,Array.toList_map,Array.toList_range,bJ,bj];by_cases h:j<n*8
 ·have z:j%8<8:=iz _ (by omega)
  rw[cB h];simp[h,z]
 ·rw[aP (by simpa using h)]
  simp[h]
theorem Jt (l:List Bool):∀u∈bools l,u.oneCell'=true:=by
 intro u h;simp only[bools,bF] at h;obtain⟨x,-,rfl⟩:=h;rfl
theorem fw.clear(h:fw w b gn gl gf s):
  ∃z w',w.cell? ⟨b,2,none⟩=some z/\(∀ty,(Builtin.clear_ #[93] ty #[z]).run prog w= .ok (.tuple #[]) w')/\
   fw w' b gn gl gf { s with fl:=List.replicate s.fl.length false }/\ay [b,gn,gl,gf] w w':=by
 obtain⟨n9,ll,fll,J,vn,vl,z,a,c,d,e⟩:=h;obtain⟨w',U,W,G⟩:=Fs (P:= prog) (ty:=0) underlying93 PR rfl (by rw[rC];exact Jt _) e;rw[rC,<-fll] at W;refine⟨z,w',by rw[a.cell];rfl,λty=> ?_,⟨n9,ll,by simpa using fll,J,vn,vl,z,?_,?_,?_,?_⟩,G.mono (by simp)⟩
 ·exact U
 ·by_cases hn:s.now.length=0
  ·obtain⟨V,c1,e1,_,_⟩:=e.val
   have :w'=w:=by
    have hz:(s.now.length+7)/8=0:=by omega
    rw[e1,hz] at U;have h4:(Builtin.clear_ #[93] 0 #[.slice V 0 c1]).run prog w= .ok (.tuple #[]) w:=by
     cases V<;>simp[Builtin.clear_,dA underlying93]
    rw[h4] at U;exact(Result.ok.inj U).2.symm
   rw[this];exact a
  ·exact a.keep G (by simpa using cY (J hn).1.2.2)
 ·exact c.keepIf G λh=>by simpa using (J h).2.2.1
 ·exact d.keepIf G λh=>by simpa using (J h).2.2.2
 ·exact W
end
section
open Go.RowKit
variable{w w':World}{J U b g gf gl gn gp k n z:Nat}{s:iV}{P:Program}{ty:TypeId}{l:List Bool}{v:Value}{B X ws xs:List Int}{G ps qs:List (Int×Int)}{i x:Int}
end
section
open Go.RowKit
variable{w w':World}{J U b g gf gl gn gp k n z:Nat}{s:iV}{P:Program}{ty:TypeId}{l:List Bool}{v:Value}{B X ws xs:List Int}{G ps qs:List (Int×Int)}{i x:Int}
section
variable {P:Program} {ops:Array Oper} {rest:List Oper} {o:Oper} {a:Act} {w:World} {Q:Exit->Act->World->Prop}
theorem gJ (z:o.guard=none)(ty:TypeId)(x:Operand)(W:o.op= .load ty x)(G:Addr)(V:a.eval x= .pointer (some G))(v:Value)
  (J:(loadVar ty G).run P w= .ok v w) (h:wpList P ops Q rest (a.put o.dst v) w):wpList P ops Q (o::rest) a w:=
 wpList_plain z λ_ U=>by
  unfold Oper.wp execOp;simp only[W,V,Instr.loadAt,Instr.sureAddr,ck,fO,cL,J];exact U _ _ h
theorem qh (z:o.guard=none)(ty:TypeId)(x y:Operand)(ho:o.op= .store ty x y)(G:Addr)(W:a.eval x= .pointer (some G))(v:Value)(U:a.eval y=v)(w':World)
  (J:(storeVar ty G v).run P w= .ok () w') (h:wpList P ops Q rest (a.put o.dst undef) w'):wpList P ops Q (o::rest) a w:=
 wpList_plain z λ_ V=>by
  unfold Oper.wp execOp;simp only[ho,W,U,Instr.storeAt,Instr.sureAddr,ck,fO,cL,J];exact V _ _ h
end
section
variable {P:Program} {ops:Array Oper} {rest:List Oper} {a:Act} {Q:Exit->Act->World->Prop}
theorem gL {w:World}{d:Option Tmp}{x:Operand}{s:String}{U:Array Go.Edge}{t:TypeId}{z:Addr}{v:Value}(T:TypeId)(G:(loadVar T z).run P w= .ok v w)(h:wpList P ops Q rest (a.put d v) w)(J:a.eval x= .pointer (some z):=by with_unfolding_all rfl):wpList P ops Q (⟨d,.load T x,t,s,U,none⟩::rest) a w:=
 gJ rfl T x rfl z J v G h
theorem gS {w w':World}{d:Option Tmp}{x y:Operand}{s:String}{V:Array Go.Edge}{t:TypeId}{z:Addr}{v:Value}(T:TypeId)(G:(storeVar T z v).run P w= .ok () w')(h:wpList P ops Q rest (a.put d undef) w')(U:a.eval x= .pointer (some z):=by with_unfolding_all rfl)(J:a.eval y=v:=by with_unfolding_all rfl):wpList P ops Q (⟨d,.store T x y,t,s,V,none⟩::rest) a w:=
 qh rfl T x y rfl z U v J w' G h
end
theorem b7{d:TypeDesc}(g off:Nat)(cs:List Value)(hu:P.underlying ty=some d)(hd:(match d with | .struct _ | .array _ _=>true|_=>false)=true)
  (J:(P.info? ty).map (·.size)=some cs.length) (V:∀j,j<cs.length->w.cell? ⟨g,off+j,none⟩=cs[j]?):(loadVar ty ⟨g,off,none⟩).run P w= .ok (.agg cs.toArray) w:=by
 have U:(loadCells ⟨g,off,none⟩ cs.length).run P w= .ok cs.toArray w:=
  run_loadCells_list (P:=P) w ⟨g,off,none⟩ cs (λj v G=>by
   have h:(⟨g,off,none⟩:Addr).add j=⟨g,off+j,none⟩:=by unfold Addr.add;split<;>simp_all
   have hj:j<cs.length:=(List.getElem?_eq_some_iff.1 G).1;rw[h,V j hj,G])
 cases hq:P.info? ty with
 |none=>simp[hq] at J
 |some i=>
  have W:i.size=cs.length:=by simpa[hq] using J
  have z:(isAgg ty).run P w= .ok true w:=by
   unfold isAgg;rw[ck,dA hu w];cases d<;>simp_all
  simp[loadVar,z,sizeOf,typeInfo,hq,W,U]
theorem jO{T:TypeId}(g off:Nat)(cs:List Value)(h:Array Value)(J:(P.info? ty).map (·.size)=some cs.length)(V:bh w g h T)(z:off+cs.length<=h.size)
  (U:∀v∈cs,v.oneCell'=true):(storeVar ty ⟨g,off,none⟩ (.agg cs.toArray)).run P w= .ok () (w.setRow g (h.toList.take off++cs++h.toList.drop (off+cs.length)).toArray):=by
 have G:=run_storeCells_at P g off T cs 0 h w V (by simpa using z) U;simp only[dB] at G;cases hq:P.info? ty with
 |none=>simp[hq] at J
 |some i=>
  have W:i.size=cs.length:=by simpa[hq] using J
  simp[storeVar,sizeOf,typeInfo,hq,Value.cells,W,G]
theorem jw{z:Array Oper}{rest:List Oper}{o:Oper}{a:Act}{Q:Exit->Act->World->Prop}(G:o.guard=none)(d x:Operand)(t J:TypeId)
  (ho:o.op= .call { callee:= .builtin .copy,args:= #[d,x],argTypes:= #[t,J] }) (v u:Value) (W:a.eval d=v) (hx:a.eval x=u) {U:Value} {w':World}
  (V:(Builtin.copy_ #[t,J] o.type #[v,u]).run P w= .ok U w') (h:wpList P z Q rest (a.put o.dst U) w'):wpList P z Q (o::rest) a w:=
 wpList_plain G λ_ hK=>by
  unfold Oper.wp execOp;simp only[ho,resolve,invoke,builtin,ck,fO,cL,List.map_toArray,List.map_cons,List.map_nil,W,hx,V];exact hK _ _ h
theorem TK (W G U h J V x6 z:Bool)(w:World):(Op.equalIn 10000 97 (.agg (bools [W,G,U,h,J,V,x6,z]).toArray) (.agg #[false,false,false,false,false,false,false,false])).run prog w=
  .ok (!(W||G||U||h||J||V||x6||z)) w:=by
 cases W<;>cases G<;>cases U<;>cases h<;>cases J<;>cases V<;>cases x6<;>cases z<;>kernel_rfl
def noMark (l:List Bool):Bool:= !(l.any id)
theorem eight(h:l.length=8):∃x0 J V z U W x6 G,l=[x0,J,V,z,U,W,x6,G]:=by
 match l,h with
 | [x0,J,V,z,U,W,x6,G],_=>exact⟨x0,J,V,z,U,W,x6,G,rfl⟩
theorem Xc (l:List Bool)(h:l.length=8)(w:World):(Op.equalIn 10000 97 (.agg (bools l).toArray) (.agg #[false,false,false,false,false,false,false,false])).run prog w= .ok (noMark l) w:=by
 obtain⟨x0,J,V,z,U,W,x6,G,rfl⟩:=eight h;rw[TK];simp[noMark,Bool.or_assoc]
theorem My (l:List Bool)(h:l.length=8)(k:Nat)(G:k<8)(w:World):(Instr.index 97 (.agg (bools l).toArray) (.int .i64 (k:Int))).run prog w= .ok (.bool (l.getD k false)) w:=by
 obtain⟨x0,V,x2,J,W,x5,x6,U,rfl⟩:=eight h;have z:k=0\/k=1\/k=2\/k=3\/k=4\/k=5\/k=6\/k=7:=by omega
 rcases z with rfl|rfl|rfl|rfl|rfl|rfl|rfl|rfl<;>(show Sem.run _ _ _=_;kernel_rfl)
def iJ (s:iV) (m:Nat):List Int:=s.last.mapIdx λj x=>if j<m/\s.fl.getD j false=true then s.now.getD j 0 else x
theorem DA (s:iV)(m:Nat):(iJ s m).length=s.last.length:=by simp[iJ]
theorem KO (s:iV):iJ s 0=s.last:=by
 apply cD;intro j;simp only[iJ,fX];cases s.last[j]? <;>simp
theorem rR (s:iV)(m G:Nat)(h:∀j,j<s.last.length->s.fl.getD j false=true->(j<m↔j<G)):iJ s m=iJ s G:=by
 apply cD;intro j;simp only[iJ,fX];cases hj:s.last[j]? with
 |none=>rfl
 |some x=>
  have J:=(List.getElem?_eq_some_iff.1 hj).1;simp only[fT,Option.some.injEq];by_cases z:s.fl.getD j false=true
  ·simp only[z,and_true,h j J z]
  ·rw[aA (λe=>z e.2),aA (λe=>z e.2)]
theorem KP (s:iV)(m:Nat)(G:s.fl.getD m false=true):iJ s (m+1)=(iJ s m).set m (s.now.getD m 0):=by
 apply cD;intro j;simp only[iJ,eT,fX,List.length_mapIdx];by_cases z:m=j
 ·subst z
  by_cases h:m<s.last.length
  ·rw[aB rfl,aB h,aD h,fT,aB ⟨by omega,G⟩]
  ·simp[h]
 ·rw[aA z]
  cases s.last[j]? with
  |none=>rfl
  |some x=>
   simp only[fT,Option.some.injEq];have :j<m+1↔j<m:=by omega
   simp only[this]
def iV.fence (s:iV):iV:=if s.gone=true then s else { s.count with last:=iJ s s.now.length,fl:=List.replicate s.fl.length false }
def iV.fenceE (s:iV):Int:=if s.gone=true then 9 else 0
def iV.fmid (s:iV) (m:Nat):iV:={ s.count with last:=iJ s m }
def nA (fl:List Bool) (q:Nat):List Bool:=(fl.drop (q*8)).take 8
theorem Ah (fl:List Bool)(q k:Nat)(h:k<8):(nA fl q).getD k false=fl.getD (q*8+k) false:=by
 simp[nA,h]
theorem PS (fl:List Bool)(q:Nat)(h:q*8+8<=fl.length):(nA fl q).length=8:=by simp[nA];omega
theorem PT (h:noMark l=true)(k:Nat):l.getD k false=false:=by
 simp only[noMark,Bool.not_eq_true',List.any_eq_false,id_eq] at h;rw[aj];cases hk:l[k]? with
 |none=>rfl
 |some x=>
  have :=h x (List.mem_of_getElem? hk);simpa using this
theorem FC (h:fw w b gn gl gf s)(hf:s.fit):
  Calls prog 103 #[b] w λe w'=>e=s.fenceE/\fw w' b gn gl gf s.fence/\ay [b,gn,gl,gf] w w':=by
 have V:=ar (Sf h);unfold iV.fence iV.fenceE;cases hg:s.gone
 ·rw[hg] at V
  have aF:=h.n9;obtain⟨aa,ah,hc⟩:=hh3 h.ll h.fll (Fz h hf hg);rw[aA (by simp),aA (by simp)];clear h hf hg;go_in;go_wp2_with fail;go_step3;go_wp2_with fail;refine C' V.out ?_;go_wp2_with fail;refine Rr hc.out ?_;rintro w1 ⟨h,hk⟩;obtain⟨vn,vl,vf,a,c,d,e⟩:=h.at_;have ec:s.count.now.length=s.now.length:=rfl;obtain⟨af,cf,rfl,r1,r2⟩:=e.val;have k0:w1.cell? ⟨b,2,none⟩=some (.slice af ((s.now.length+7)/8) cf):=by rw[a.cell];rfl
  have aD:Hid (s.now.length≠0->af=some ⟨gf,0,none⟩):=λhn=>by
   obtain⟨-,⟨aI,h1,-,-⟩,-,-⟩:=e.cell (by omega);exact(Value.slice.inj h1).1
  obtain⟨H,HK⟩:=hh2 h hk;have e8:0<=((s.now.length+7)/8:Nat):=fC _;clear a c d e h hk ec;go_wp2_with fail;go_step3;go_wp2_with fail;go_loopg [17] ((s.now.length+7)/8) (λg s17 wx=>∃L:Nat,L+g=(s.now.length+7)/8/\s17= .int .i64 (L:Int)/\Hid (fw wx b gn gl gf (s.fmid (L*8))/\ay [b,gn,gl,gf] w wx))
  case atStart=>exact⟨0,by omega,rfl,by unfold iV.fmid;rw[Nat.zero_mul,KO];exact H.out,HK.out.mono (by simp)⟩
  case round=>
   obtain⟨L,aG,rfl,HP⟩:=hrel;cases gk with
   |zero=>
    have hz:¬((L:Int)<((s.now.length:Int)+7)/8):=by omega
    have G:iJ s (L*8)=iJ s s.now.length:=rR s _ _ λj U _=>by rw[aa.out] at U;omega
    obtain⟨vf,J,q0,q1,q2,q3⟩:=HP.out.1.clear;obtain⟨Q2,Q3,EL⟩:=hh3 q2 (HP.out.2.trans' q3) G;clear q2 q3 G k0;go_wp2_with fail;go_ret;refine⟨rfl,?_,Q3.out⟩;have :=Q2.out;unfold iV.fmid at this;rw[EL.out] at this;exact this
   |succ g=>
    have hz:(L:Int)<((s.now.length:Int)+7)/8:=by omega
    have av:s.now.length≠0:=by omega
    obtain⟨ak,az,ax,a,c,d,e⟩:=HP.out.1.at_;have ec:(s.fmid (L*8)).now.length=s.now.length:=rfl;obtain⟨-,-,q3,-⟩:=e.cell (by omega);rw[ec] at q3;have z:(nA s.fl L).length=8:=PS _ _ (by rw[ah.out];omega);have ot:(loadVar 97 ⟨gf,L*8,none⟩).run prog wr= .ok (.agg (bools (nA s.fl L)).toArray) wr:=by
     refine b7 gf (L*8) (bools (nA s.fl L)) underlying97 rfl (by rw[qg,z];kernel_rfl) λj U=> ?_
     rw[qg,z] at U;rw[q3 _ (by omega),uQ (by rw[show(s.fmid (L*8)).fl=s.fl from rfl,ah.out];omega),uQ (by omega),Ah _ _ _ U];rfl
    obtain rfl:=aD.out av;have mY:=ar ot;clear a c d e q3 ec ot k0;obtain⟨J,ag,oQ,fx⟩:∃J,Hid ((storeVar 97 wr.heap.size (.agg (bools (nA s.fl L)).toArray)).run prog (wr.alloc (.cells #[false,false,false,false,false,false,false,false] 97))= .ok () J)/\
      Hid (bh J wr.heap.size (bools (nA s.fl L)).toArray 97)/\Hid (ay [] wr J):=by
     have hb:=bh.new wr #[false,false,false,false,false,false,false,false] 97;refine⟨_,jO wr.heap.size 0 (bools (nA s.fl L)) _ (by rw[qg,z];kernel_rfl) hb (by rw[qg,z];simp) (Jt _),?_,?_⟩
     ·have :=setRow_heap _ wr.heap.size _ (List.take 0 (#[Value.bool false,false,false,false,false,false,false,false]:Array Value).toList++bools (nA s.fl L)++List.drop (0+(bools (nA s.fl L)).length) (#[Value.bool false,false,false,false,false,false,false,false]:Array Value).toList).toArray _ _ hb
      rw[qg,z] at this;show bh _ _ _ _;simpa[bh,qg,z] using this
     ·exact((ay.refl _ _).alloc _).setRow (.inr (aH _)) _
    have ac:Hid ((loadVar 97 wr.heap.size).run prog J= .ok (.agg (bools (nA s.fl L)).toArray) J):=by
     refine b7 wr.heap.size 0 (bools (nA s.fl L)) underlying97 rfl (by rw[qg,z];kernel_rfl) λj U=> ?_
     rw[oQ.out.cell];simp
    have hq:=Xc (nA s.fl L) z;have mZ:Hid (fw J b gn gl gf (s.fmid (L*8))/\ay [b,gn,gl,gf] w J):=⟨HP.out.1.keep fx.out (by simp) (by simp),HP.out.2.trans fx.out (by simp)⟩;clear HP;cases hnm:noMark (nA s.fl L)
    ·rw[hnm] at hq
     have A1:=ar hnm;clear hnm;go_wp2_with(with_reducible first|refine gL 97 mY.out ?_|refine gS 97 ag.out ?_|refine gL 97 ac.out ?_);clear mY ag oQ fx ac hq;obtain⟨wo,rfl⟩:∃wo:World,wo=wr:=⟨_,rfl⟩;go_loopg [26] 8 (λg2 s26 wx=>∃k:Nat,k+g2=8/\s26= .int .i64 (k:Int)/\Hid (fw wx b gn gl gf (s.fmid (L*8+k))/\ay [b,gn,gl,gf] w wx))
     case atStart=>exact⟨0,by omega,rfl,mZ.out⟩
     case round=>
      obtain⟨k,uR,rfl,W⟩:=hrel;clear mZ;cases gk with
      |zero=>
       obtain rfl:k=8:=by omega
       go_wp2_with fail;go_roundg g;case measure=>omega
       case rel=>exact⟨L+1,by omega,by go_num,by rw[show(L+1)*8=L*8+8 by omega];exact W.out⟩
      |succ g2=>
       have Iv:=λwz=>My (nA s.fl L) z k (by omega) wz
       have ae:=Ah s.fl L k (by omega);rw[ae] at Iv;obtain⟨ak,az,ax,a,c,d,e⟩:=W.out.1.at_;have ec:(s.fmid (L*8+k)).now.length=s.now.length:=rfl;obtain⟨-,⟨aC,rfl,q1,q2⟩,q3,q4⟩:=c.cell (by omega);obtain⟨-,⟨au,rfl,q5,q6⟩,q7,q8⟩:=d.cell (by omega);have k0:wr.cell? b=some (.slice gn s.now.length aC):=by rw[a.cell];rfl
       have k1:wr.cell? ⟨b,1,none⟩=some (.slice gl s.now.length au):=by rw[a.cell];rfl
       by_cases ai:L*8+k<s.now.length
       ·have k2:wr.cell? ⟨gn,L*8+k,none⟩=some (.int .u64 (s.now.getD (L*8+k) 0)):=(q3 _ (by omega)).trans (dO ai)
        have k3:wr.cell? ⟨gl,L*8+k,none⟩=some (.int .u64 ((iJ s (L*8+k)).getD (L*8+k) 0)):=(q7 _ (by omega)).trans (dO (by rw[show(s.fmid (L*8+k)).last=iJ s (L*8+k) from rfl,DA,aa.out];exact ai));have k5:wr.frozen? ⟨gl,L*8+k,none⟩=false:=q8 _;have S2:=ar (W.out.1.drew.setLast (by omega) (L*8+k) (s.now.getD (L*8+k) 0));clear a c d e q3 q4 q7 q8 ae;cases hm:s.fl.getD (L*8+k) false
        ·rw[hm] at Iv
         have HM:=ar hm;clear hm;go_wp2_with fail;go_roundg g2;case measure=>omega
         case rel=>
          refine⟨k+1,by omega,by go_num,?_,W.out.2⟩;have G:iJ s (L*8+(k+1))=iJ s (L*8+k):=rR s _ _ λj U aj=>by
           by_cases h1:j=L*8+k
           ·subst h1;rw[HM.out] at aj;cases aj
           ·omega
          have :=W.out.1;unfold iV.fmid at this ⊢;rw[G];exact this
        ·rw[hm] at Iv
         have HM:=ar (KP s (L*8+k) hm);clear hm;generalize s.now.getD (L*8+k) 0=x,(iJ s (L*8+k)).getD (L*8+k) 0=y at *;go_wp2_with fail
         go_region
         go_wp2_with fail;go_roundg g2;case measure=>omega
         case rel=>
          refine⟨k+1,by omega,by go_num,?_,W.out.2.drew.setCell (by simp) _⟩;have :=S2.out;unfold iV.fmid at this ⊢;rw[show L*8+(k+1)=L*8+k+1 by omega,HM.out];exact this
       ·have G:iJ s (L*8+k)=iJ s s.now.length:=rR s _ _ λj U _=>by rw[aa.out] at U;omega
        have EL:=ar G;obtain⟨vf,w3,p0,p1,p2,p3⟩:=W.out.1.clear;obtain⟨P2,P3⟩:=hh2 p2 (W.out.2.trans' p3);clear a c d e q3 q4 q7 q8 ae G p2 p3;go_wp2_with fail;rw[Exit.noGoto_ret];go_ret;refine⟨rfl,?_,P3.out⟩;have :=P2.out;unfold iV.fmid at this;rw[EL.out] at this;exact this
    ·rw[hnm] at hq
     have A1:=ar hnm;clear hnm;go_wp2_with(with_reducible first|refine gL 97 mY.out ?_|refine gS 97 ag.out ?_|refine gL 97 ac.out ?_);go_roundg g;case measure=>omega
     case rel=>
      refine⟨L+1,by omega,by go_num,?_,mZ.out.2⟩;have G:iJ s ((L+1)*8)=iJ s (L*8):=rR s _ _ λj U hm=>by
       by_cases h1:L*8<=j/\j<L*8+8
       ·have :=PT A1.out (j-L*8)
        rw[Ah _ _ _ (by omega),show L*8+(j-L*8)=j by omega,hm] at this;cases this
       ·omega
      have :=mZ.out.1;unfold iV.fmid at this ⊢;rw[G];exact this
 ·rw[hg] at V
  have H:=ar h;rw[aB rfl,aB rfl];clear hg h;go_in;go_wp2_with fail;go_step3;go_wp2_with(go_at_call 88;refine C' V.out ?_);rw[Exit.noGoto_ret];go_ret;exact⟨rfl,H.out,ay.refl _ _⟩
theorem Tryz.info_marks:(prog.info? 97).map (λi=>(i.zero,i.size,i.bytes))=some (some (.agg (Array.replicate 8 (.bool false))),8,8):=by kernel_rfl
def Xd (w:World) (xs:List Int) (e:Ending) (w':World):Prop:=
 ∃v g,e=(v:Value)/\fp w' v g 56 1 xs.length (aY xs)/\(xs.length≠0->w.heap.size<=g/\g<w'.heap.size)/\ay [] w w'
theorem Xe (h:Reads w v g (aY xs))(hn:xs.length<=10000):
  Calls prog 90 #[v] w (Xd w xs):=by
 obtain⟨a,cap,rfl,h1,h2,h3⟩:=h;have e1:=λ(wz:World) (a:Option Addr) (n c:Nat)=>Lib.run_eql_slice_nil (P:= prog) wz 71 56 a n c 0 0 underlying71
 cases a with
 |none=>
  have hz:xs=[]:=by
   by_cases hx:aY xs=[]
   ·cases xs<;>simp_all[aY]
   ·obtain⟨-,off,V,-⟩:=h3 hx;cases V
  subst hz;clear h3;go_in;go_wp2_with fail;go_ret;exact⟨_,0,rfl,fp.nil _ _ _ _,λh=>absurd rfl h,ay.refl _ _⟩
 |some ad=>
  obtain⟨i0,hi,ag,ah,ac⟩:=dc Tryz.info_u64;have z:∀j u,(aY xs)[j]? =some u->(w.alloc (.cells #[] 56)).cell? (ad.add j)=some u:=by
   intro j u hu;have hj:j<(aY xs).length:=(List.getElem?_eq_some_iff.1 hu).1;obtain⟨hg,off,V,hc⟩:=h3 (by intro e;rw[e] at hj;simp at hj);cases V;have W:(⟨g,off,none⟩:Addr).add j=⟨g,off+j,none⟩:=by unfold Addr.add;split<;>simp_all
   rw[W,aO (w:=w) (jL _ _ _ hg),hc j hj,hu]
  have U:(w.alloc (.cells #[] 56)).ownsRow w.heap.size 56 1 (.slice w.heap.size 0 0) 0 []:=World.ownsRow_made w #[] 0 (aH _) (by simp[maxLen]) (by simp);obtain⟨HC,HO⟩:=hh2 z U;clear z U h3;rw[bB] at h1 ⊢;go_in;go_wp2_with(at_builtin;refine eU _ rfl _ _ 71 rfl w.heap.size 56 i0 (.int .u64 0) 1 8 underlying71 hi ag ah ac rfl (by decide) (.slice w.heap.size 0 0) _ _ rfl HO.out ad xs.length cap (aY xs) rfl (by rw[bB];omega) HC.out (fh xs) (by unfold maxLen;omega) (by omega) (by simp) ?_;intro v' w1 G J _);obtain⟨g',V,aa⟩:=fp.of_row G;have H:Xd w xs (.returned v') w1:=by
   refine⟨v',g',rfl,by simpa using V,λae=> ?_,?_⟩
   ·have :=aa (by omega)
    exact⟨this.1,((by simpa using V:fp w1 v' g' 56 1 xs.length (aY xs)).cell ae).1⟩
   ·have hk:=ay.of_grown (l:=[]) (((World.grownBy_alloc w (.cells #[] 56) none))) (by simp)
    have af:ay [w.heap.size] (w.alloc (.cells #[] 56)) w1:=ay.of_grown J (by intro k hk;simp[Value.ownBlock] at hk;subst hk;simp);exact hk.trans af (by simp)
  have HH:=ar H;clear G J V aa H;go_wp2_with fail;go_ret;exact HH.out
def Made (w:World) (xs:List Int) (e:Ending) (w':World):Prop:=
 ∃b gn gl gf,e=(b:Nat)/\fw w' b gn gl gf { now:=xs,last:=xs,fl:=List.replicate ((xs.length+7)/8*8) false,deeds:=0,fused:=false,left:=0 }/\
  (w.heap.size<=b/\w.heap.size<=gn/\w.heap.size<=gl/\w.heap.size<=gf)/\ay [] w w'
theorem KQ{W:World}{v1 v2 v3:Value}{V:Nat}(hn:xs.length<=10000)(hk:ay [] w W)(o1:fp W v1 J 56 1 xs.length (aY xs))(o2:fp W v2 V 56 1 xs.length (aY xs))
  (o3:fp W v3 U 97 8 ((xs.length+7)/8) (bools (List.replicate ((xs.length+7)/8*8) false)))
  (hz:xs.length≠0->(w.heap.size<=J/\w.heap.size<=V/\w.heap.size<=U)/\J≠V/\J≠U/\V≠U):
  Made w xs (.returned W.heap.size) (W.alloc (.cells #[v1,v2,v3,(0:Int),false,(0:Int)] 95)):=by
 have z:=hk.size;by_cases G:xs.length=0
 ·refine⟨W.heap.size,W.heap.size,W.heap.size,W.heap.size,rfl,⟨hn,rfl,by simp,λh=>absurd G h,v1,v2,v3,bh.new _ _ _,?_,?_,?_⟩,⟨z,z,z,z⟩,hk.alloc _⟩
  ·exact(o1.alloc _).anyG G _
  ·exact(o2.alloc _).anyG G _
  ·exact(o3.alloc _).anyG (by omega) _
 ·obtain⟨⟨a1,a2,a3⟩,a4,a5,a6⟩:=hz G
  have l1:=(o1.cell G).1;have l2:=(o2.cell G).1;have l3:=(o3.cell (by omega)).1;exact⟨W.heap.size,J,V,U,rfl,⟨hn,rfl,by simp,λ_=>⟨⟨by omega,by omega,by omega⟩,a4,a5,a6⟩,v1,v2,v3,bh.new _ _ _,o1.alloc _,o2.alloc _,o3.alloc _⟩,⟨z,a1,a2,a3⟩,hk.alloc _⟩
theorem PU (n:Nat):(madeCells (Array.replicate 8 (Value.bool false)) (n*8)).toList=bools (List.replicate (n*8) false):=by
 have :=rC n;simpa[Builtin.zeroCells,madeCells,Value.cells] using this
theorem Cn{q:Nat}{mc:Array Value}(G:q<=1250)(h:mc.toList=bools (List.replicate (q*8) false)):
  fp (w.alloc (.cells mc 97)) (.slice w.heap.size q q) w.heap.size 97 8 q (bools (List.replicate (q*8) false)):=by
 have z:mc.size=q*8:=by rw[<-dL,h];simp[bools]
 refine⟨by simp[bools],_,q,rfl,aH _,by unfold maxLen;omega,λ_=>⟨rfl,mc,bh.new _ _ _,z,?_⟩⟩;rw[<-h,aW (by rw[dL];omega)]
theorem ae8 (h:Reads w v g (aY xs))(V:xs.length<=10000):
  Calls prog 42 #[v] w (Made w xs):=by
 have H3:=ar h;obtain⟨a,cap,rfl,h1,h2,h3⟩:=h;clear h3;rw[bB] at *;unfold maxLen at h2;go_in;go_wp2_with fail;have ac:∀U:World,(Instr.makeSlice 93 (.int .i64 (((xs.length:Int)+8-1)/8)) (.int .i64 (((xs.length:Int)+8-1)/8))).run prog U=
   .ok (.slice U.heap.size ((xs.length+7)/8) ((xs.length+7)/8)) (U.alloc (.cells (madeCells (Array.replicate 8 (.bool false)) ((xs.length+7)/8*8)) 97)):=λU=>by
  obtain⟨i0,hi,af,ag,aa⟩:=dc Tryz.info_marks;have :=run_make (P:= prog) U 93 97 i0 _ underlying93 hi af .i64 .i64 (((xs.length:Int)+8-1)/8) (((xs.length:Int)+8-1)/8) (by omega) (by omega) (by rw[aa];omega) (by omega);rw[ag,show(((xs.length:Int)+8-1)/8).toNat=(xs.length+7)/8 by omega] at this;exact this
 obtain⟨mc,J⟩:∃mc,mc=madeCells (Array.replicate 8 (.bool false)) ((xs.length+7)/8*8):=⟨_,rfl⟩;have G:Hid (mc.toList=bools (List.replicate ((xs.length+7)/8*8) false)):=by rw[J];exact PU _
 rw[<-J] at ac;clear J;go_region_with (go_at_call 90;refine(Xe (g:=g) (xs:=xs) (H3.out.keep (l:=[]) ?hk (by simp)) V).mono ?_;(case hk=>(repeat (first|exact ay.refl _ _|assumption|refine ay.drew ?_|refine ay.alloc ?_ _|refine ay.trans (l':=[]) ?_ (by assumption) (by simp))));rintro e w' ⟨v1,g1,rfl,o1,z1,z⟩;obtain⟨a1,c1,rfl,_,_⟩:=o1.val;(have O1:=ar o1);clear o1)
 all_goals go_wp2_with fail
 all_goals go_ret
 ·rename_i w1 g2 z2 k2 a2 c2 _ _ O2 _ _
  have W:ay [] w w.drew:=(ay.refl _ _).drew;have hw:w.drew.heap.size=w.heap.size:=rfl;have M:=KQ (w:=w) V (((W.trans k2 (by simp)).trans z (by simp)).alloc (.cells mc 97)) ((O2.out.keep z (by simp)).alloc _) (O1.out.alloc _) (Cn (by omega) G.out) (λh=>by
   have y2:=z2 h;have y1:=z1 h;have :=k2.size;have :=z.size;refine⟨⟨?_,?_,?_⟩,?_,?_,?_⟩<;>omega)
  rw[show(w'.alloc (.cells mc 97)).heap.size=w'.heap.size+1 by simp] at M;exact M
 ·rename_i w1 g2 z2 k2 a2 c2 _ _ O2 _ _
  have W:ay [] w w.drew:=(ay.refl _ _).drew;have hw:w.drew.heap.size=w.heap.size:=rfl;have hs:(w1.alloc (.cells mc 97)).heap.size=w1.heap.size+1:=by simp
  exact KQ (w:=w) V (((W.trans k2 (by simp)).alloc (.cells mc 97)).trans z (by simp)) ((O2.out.alloc (.cells mc 97)).keep z (by simp)) O1.out ((Cn (w:=w1) (by omega) G.out).keep z (by simp)) (λh=>by
   have y2:=z2 h;have y1:=z1 h;have :=k2.size;have :=z.size;refine⟨⟨?_,?_,?_⟩,?_,?_,?_⟩<;>omega)
 ·rename_i w1 g2 z2 k2 a2 c2 _ _ O2 _ _
  have W:ay [] w w.drew:=(ay.refl _ _).drew;have hw:w.drew.heap.size=w.heap.size:=rfl;have hs:(w.alloc (.cells mc 97)).drew.heap.size=w.heap.size+1:=by
   show(w.alloc (.cells mc 97)).heap.size=_;simp
  have ae:ay [] w (w.alloc (.cells mc 97)).drew:=((ay.refl _ _).alloc _).drew;exact KQ (w:=w) V ((ae.trans k2 (by simp)).trans z (by simp)) (O2.out.keep z (by simp)) O1.out (((Cn (w:=w) (by omega) G.out).drew.keep k2 (by simp)).keep z (by simp)) (λh=>by
   have y2:=z2 h;have y1:=z1 h;have :=k2.size;have :=z.size;refine⟨⟨?_,?_,?_⟩,?_,?_,?_⟩<;>omega)
def uS (n:Int):Nat:=(min (max n 0) 10000).toNat
theorem aaP (n:Int):uS n<=10000:=by unfold uS;omega
theorem Made.weaken{G:World}{e:Ending}(h:Made G xs e w')(z:ay [] w G):Made w xs e w':=by
 obtain⟨b,gn,gl,gf,V,U,⟨h3,h4,h5,W⟩,J⟩:=h;have :=z.size;exact⟨b,gn,gl,gf,V,U,⟨by omega,by omega,by omega,by omega⟩,z.trans J (by simp)⟩
theorem adi (w:World)(n:Int):
  Calls prog 22 #[n] w (Made w (List.replicate (uS n) 0)):=by
 obtain⟨i0,hi,V,W,aa⟩:=dc Tryz.info_u64;have hq:=aaP n;have U:(Instr.makeSlice 71 (.int .i64 (uS n:Int)) (.int .i64 (uS n:Int))).run prog w=
   .ok (.slice w.heap.size (uS n) (uS n)) (w.alloc (.cells (madeCells #[.int .u64 0] (uS n)) 56)):=by
  have :=run_make (P:= prog) w 71 56 i0 _ underlying71 hi V .i64 .i64 (uS n:Int) (uS n:Int) (by omega) (by omega) (by rw[aa];omega) (by omega);rw[W,aG,iK] at this;exact this
 have hr:Reads (w.alloc (.cells (madeCells #[.int .u64 0] (uS n)) 56)) (.slice w.heap.size (uS n) (uS n)) w.heap.size (aY (List.replicate (uS n) 0)):=by
  refine fp.reads (T:= 56) (n:=uS n) ⟨by simp[aY],_,uS n,rfl,aH _,by unfold maxLen;omega,λ_=>⟨rfl,_,bh.new _ _ _,by simp[size_madeCells],?_⟩⟩;rw[toList_madeCells_one,Js,aW (by simp[aY])]
 have HO:=ar ((ae8 hr (by simpa using hq)).mono λe w' h=>h.weaken ((ay.refl _ w).alloc _));clear hr;have z:((uS n:Nat):Int)=min (max n 0) 10000:=by unfold uS;omega
 generalize uS n=q at *;rcases (show n<0\/(0<=n/\n<=10000)\/10000<n by omega) with h|⟨h,h'⟩|h
 ·obtain rfl:q=0:=by omega
  clear z hq;simp only[Int.natCast_zero] at U;go_in;go_wp2_with fail;refine HO.out.mono ?_;intro e w1 G;have J:=ar G;obtain⟨b,gn,gl,gf,rfl,-,-,-⟩:=G;go_wp2_with fail;go_ret;exact J.out
 ·obtain rfl:n=(q:Int):=by omega
  clear z;go_in;go_wp2_with fail;refine HO.out.mono ?_;intro e w1 G;have J:=ar G;obtain⟨b,gn,gl,gf,rfl,-,-,-⟩:=G;go_wp2_with fail;go_ret;exact J.out
 ·obtain rfl:q=10000:=by omega
  clear z hq;simp only[show((10000:Nat):Int)=10000 from rfl] at U;generalize madeCells #[Value.int .u64 0] 10000=mc,List.replicate 10000 (0:Int)=xs at *;go_in;go_wp2_with fail;refine HO.out.mono ?_;intro e w1 G;have J:=ar G;obtain⟨b,gn,gl,gf,rfl,-,-,-⟩:=G;go_wp2_with fail;go_ret;exact J.out
theorem Tryz.info_pair:(prog.info? 58).map (λi=>(i.zero,i.size,i.bytes))=some (some (.agg #[(0:Int),.int .u64 0]),2,16):=by kernel_rfl
theorem FD (n:Nat)(W:n<=100000)(m:Int)(J:m=(n:Int))(w:World):(Instr.makeSlice 54 (.int .i64 m) (.int .i64 m)).run prog w=
  .ok (.slice w.heap.size n n) (w.alloc (.cells (madeCells #[(0:Int),.int .u64 0] (n*2)) 58)):=by
 subst J;obtain⟨U,V,h,z,G⟩:=dc Tryz.info_pair;have :=run_make (P:= prog) w 54 58 U _ underlying54 V h .i64 .i64 (n:Int) (n:Int) (by omega) (by omega) (by rw[G];omega) (by omega);rw[z,aG] at this;exact this
theorem FE (w:World)(n:Nat)(z:n<=100000):fp (w.alloc (.cells (madeCells #[(0:Int),.int .u64 0] (n*2)) 58)) (.slice w.heap.size n n) w.heap.size 58 2 n (jd (List.replicate n (0,0))):=by
 have h:(madeCells #[Value.int .i64 0,Value.int .u64 0] (n*2)).size=n*2:=by rw[<-dL,Dz,sO,bE]
 refine⟨by rw[sO,bE],_,n,rfl,aH _,by unfold maxLen;omega,λ_=>⟨rfl,_,bh.new _ _ _,h,?_⟩⟩;rw[<-Dz,aW (by rw[dL];omega)]
end
section
variable{w w':World}{J U b g gf gl gn gp k n z:Nat}{s:iV}{P:Program}{ty:TypeId}{l:List Bool}{v:Value}{B X ws xs:List Int}{G ps qs:List (Int×Int)}{i x:Int}
def kU (ws:List Int):List Int:=ws.take 3128++List.replicate (3128-ws.length) 0
theorem iF (ws:List Int):(kU ws).length=3128:=by simp only[kU,aC,aJ,bE];omega
theorem uT (ws:List Int)(i:Nat):(kU ws).getD i 0=if i<3128 then ws.getD i 0 else 0:=by
 simp only[kU,aj,iA,aJ,bU,bj];by_cases h:i<3128
 ·by_cases z:i<ws.length
  ·rw[aB,aB h,aB h]
  ·rw[aA,aB,aB h,aP (by omega)];rfl
 ·rw[aA,aA,aA h];rfl
theorem PV (h:Me ps n)(k:Me qs n):Me (ps++qs) n:=λp z=>(aT.1 z).elim (h p) (k p)
theorem FH (h:Me ps n)(m:Nat):Me (ps.take m) n:=λp z=>h p (bO z)
theorem aaQ (n:Nat):Me [] n:=λp h=>by simp at h
theorem aaR (G:0<=i)(z:i<n):Me [(i,x)] n:=λp h=>by
 rw[au] at h;subst h;exact⟨G,z⟩
def kV (B:List Int) (ps:List (Int×Int)):List (Int×Int):=(List.range ps.length).map λk=>(iw ps k,(az B (ps.take k)).getD (iw ps k).toNat 0)
theorem sP (B:List Int)(ps:List (Int×Int)):(kV B ps).length=ps.length:=by simp[kV]
theorem FI (B:List Int)(ps:List (Int×Int))(k:Nat)(h:k<ps.length):iw (kV B ps) k=iw ps k/\lv (kV B ps) k=(az B (ps.take k)).getD (iw ps k).toNat 0:=by
 have e:(kV B ps).getD k (0,0)=(iw ps k,(az B (ps.take k)).getD (iw ps k).toNat 0):=by
  rw[aj,kV,bJ,cB h];rfl
 rw[iw,lv,e];exact⟨rfl,rfl⟩
theorem Co (h:k<ps.length):iw (ps++qs) k=iw ps k:=by
 simp[iw,iA,h]
theorem Mz (B:List Int)(ps:List (Int×Int))(i x:Int):kV B (ps++[(i,x)])=kV B ps++[(i,(az B ps).getD i.toNat 0)]:=by
 have z:iw (ps++[(i,x)]) ps.length=i:=by simp[iw]
 unfold kV;rw[aC,ka,dU,eu,List.map_singleton,z,List.take_left]
 congr 1
 apply dM;intro k h;rw[bW] at h;rw[Co h,fH (by omega)]
theorem TL{m:Nat}(h:k<m):iw (ps.take m) k=iw ps k:=by
 simp[iw,h]
theorem xN (B:List Int)(ps:List (Int×Int))(m:Nat)(h:m<=ps.length):(kV B ps).take m=kV B (ps.take m):=by
 unfold kV;rw[<-jv,List.take_range,aJ,cQ h];apply dM;intro k z;rw[bW] at z;rw[TL z,List.take_take,cQ (by omega)]
theorem KR (l:List Int)(i:Nat)(x:Int):(l.set i x).set i (l.getD i 0)=l:=by
 rw[List.set_set];exact ID l i 0
theorem MA (B:List Int)(ps:List (Int×Int))(k:Nat)(h:k<ps.length):
  (az B (ps.take (k+1))).set (iw ps k).toNat ((az B (ps.take k)).getD (iw ps k).toNat 0)=az B (ps.take k):=by
 rw[Ci B ps k h];exact KR _ _ _
def DC (m:Int) (n:Nat):Nat:=(min (max m 0) (n:Int)).toNat
theorem Xf (m:Int)(n:Nat):DC m n<=n:=by unfold DC;omega
theorem Ju (m:Int)(n:Nat):((DC m n:Nat):Int)=min (max m 0) (n:Int):=by unfold DC;omega
def A5 (B:List Int) (ps:List (Int×Int)) (i:Int):Int:=if 0<=i/\i<3128 then (az B ps).getD i.toNat 0 else 0
def Sg (i:Int):Bool:=decide (0<=i)&&decide (i<3128)
theorem uh:Sg i=true↔0<=i/\i<3128:=by simp[Sg]
def dg (B X:List Int) (k:Nat):List (Int×Int):=((List.range k).filter λi=>X.getD i 0 != B.getD i 0).map λ(i:Nat)=>((i:Int),X.getD i 0)
theorem DD (B X:List Int)(k:Nat)(h:X.getD k 0=B.getD k 0):dg B X (k+1)=dg B X k:=by
 unfold dg;rw[dU,eJ];have :(X.getD k 0 != B.getD k 0)=false:=by simpa using h
 simp only[fD,this,List.filter_nil];simp
theorem PW (B X:List Int)(k:Nat)(h:X.getD k 0≠B.getD k 0):dg B X (k+1)=dg B X k++[((k:Int),X.getD k 0)]:=by
 unfold dg;rw[dU,eJ];have :(X.getD k 0 != B.getD k 0)=true:=by simpa using h
 simp only[fD,this,List.filter_nil];simp
theorem PX (B X:List Int)(k:Nat):(dg B X k).length<=k:=by
 unfold dg;rw[bZ];have :=fQ (λi=>X.getD i 0 != B.getD i 0) (List.range k);simpa using this
end
section
open Go.RowKit
variable{w w':World}{J U b g gf gl gn gp k n z:Nat}{s:iV}{P:Program}{ty:TypeId}{l:List Bool}{v:Value}{B X ws xs:List Int}{G ps qs:List (Int×Int)}{i x:Int}
def gV (B X:List Int) (h:Value):Array Value:=(aY B++(aY X++[h])).toArray
theorem A7 (B X:List Int)(h:Value):(gV B X h).size=B.length+(X.length+1):=by simp[gV,bB]
theorem Jv (X:List Int)(z:Value){i:Nat}(h:i<B.length):(gV B X z)[i]? =some (.int .u64 (B.getD i 0)):=by
 rw[gV,aF,ba (by rw[bB];exact h),dO h]
theorem Cq (z:Value)(G:B.length=3128){i:Nat}(h:i<X.length):(gV B X z)[3128+i]? =some (.int .u64 (X.getD i 0)):=by
 rw[gV,aF,aR (by rw[bB];omega),bB,G,dD,ba (by rw[bB];exact h),dO h]
theorem uU (h:Value)(G:B.length=3128)(z:X.length=3128):(gV B X h)[6256]? =some h:=by
 rw[gV,aF,aR (by rw[bB];omega),bB,G,aR (by rw[bB];omega),bB,z];rfl
theorem A8 (z:Value)(G:B.length=3128){i:Nat}(h:i<X.length)(x:Int):(gV B X z).setIfInBounds (3128+i) (.int .u64 x)=gV B (X.set i x) z:=by
 unfold gV;rw[ag,dH _ _ (by rw[bB];omega),bB,G,dD,List.set_append_left _ _ (by rw[bB];exact h),mI]
theorem A9 (h:Value)(G:B.length=3128)(z:X.length=3128)(v:Value):(gV B X h).setIfInBounds 6256 v=gV B X v:=by
 unfold gV;rw[ag,dH _ _ (by rw[bB];omega),bB,G,dH _ _ (by rw[bB];omega),bB,z];rfl
structure kW (w:World) (b gp:Nat) (B X:List Int) (us:List (Int×Int)):Prop where
 lb:B.length=3128
 lx:X.length=3128
 at_:∃vp,bh w b (gV B X vp) 119/\w.ownsRow (b+1) 139 2 vp us.length (jd us)/\∀k,vp.ownBlock=some k->k=gp
structure eK (w:World) (b gp:Nat) (B:List Int) (ps:List (Int×Int)):Prop where
 raw:kW w b gp B (az B ps) (kV B ps)
 inp:Me ps 3128
theorem kW.keep{U:List (Int×Int)}(h:kW w b z B X U){l:List Nat}(G:ay l w w')(hb:b∉l)(hg:z∉l):kW w' b z B X U:=by
 obtain⟨lb,lx,V,h1,W,J⟩:=h;exact⟨lb,lx,V,h1.keep G hb,eo W G λk e=>by rw[J k e];exact hg,J⟩
theorem eK.keep(h:eK w b z B ps){l:List Nat}(G:ay l w w')(U:b∉l)(J:z∉l):eK w' b z B ps:=
 ⟨h.raw.keep G U J,h.inp⟩
theorem kW.lt(h:kW w b z B X G):b<w.heap.size:=by
 obtain⟨lb,lx,U,J,W,V⟩:=h;exact J.lt
theorem kW.cell0(h:kW w b z B X G){i:Nat}(hi:i<3128):w.cell? ⟨b,i,none⟩=some (.int .u64 (B.getD i 0)):=by
 obtain⟨lb,lx,U,J,W,V⟩:=h;rw[J.cell,Jv _ _ (by omega)]
theorem kW.cell1(h:kW w b z B X G){i:Nat}(hi:i<3128):w.cell? ⟨b,3128+i,none⟩=some (.int .u64 (X.getD i 0)):=by
 obtain⟨lb,lx,U,J,W,V⟩:=h;rw[J.cell,Cq _ lb (by omega)]
theorem Ba (i:Int)(w:World):Calls prog 94 #[i] w λe w'=>e=(Sg i:Bool)/\w=w':=by
 by_cases z:0<=i
 ·by_cases h:i<3128
  ·rw[uh.2 ⟨z,h⟩]
   go_in;go_wp2;go_ret;exact⟨rfl,rfl⟩
  ·rw[show Sg i=false by simp[Sg];omega]
   go_in;go_wp2;go_ret;exact⟨rfl,rfl⟩
 ·rw[show Sg i=false by simp[Sg];omega]
  go_in;go_wp2;go_ret;exact⟨rfl,rfl⟩
theorem TM{U:List (Int×Int)}(h:kW w b J B X U)(i:Int):
  Calls prog 127 #[b,i] w λe w'=>e= .returned (.int .u64 (if Sg i=true then X.getD i.toNat 0 else 0))/\w=w':=by
 have z:=ar (Ba i w);cases hi:Sg i
 ·rw[hi] at z
  rw[aA (by simp)];clear hi h;go_in;go_wp2_with(go_at_call 94;refine C' z.out ?_);go_ret;exact⟨rfl,rfl⟩
 ·rw[hi] at z
  rw[aB rfl];obtain⟨G,W⟩:=uh.1 hi;clear hi;obtain⟨i,rfl⟩:=cy G;have V:=h.cell1 (i:=i) (by omega);rw[aG];generalize X.getD i 0=x at *;clear h;go_in;go_wp2_with(go_at_call 94;refine C' z.out ?_);go_ret;exact⟨rfl,rfl⟩
theorem pz (h:eK w b z B ps)(i:Int):
  Calls prog 127 #[b,i] w λe w'=>e= .returned (.int .u64 (A5 B ps i))/\w=w':=by
 have :=TM h.raw i;rw[show(if Sg i=true then (az B ps).getD i.toNat 0 else 0)=A5 B ps i by unfold A5;simp only[uh]] at this;exact this
def oH:Array Value:=gV (kU []) (kU []) (.slice none 0 0)
theorem PY (w:World):(zeroValue 119).run prog w= .ok (.agg oH) w:=by kernel_rfl
theorem wm:(prog.info? 116).map (·.size)=some 3128:=by kernel_rfl
theorem qL:(prog.info? 56).map (·.size)=some 1:=by kernel_rfl
theorem xO (B X:List Int)(h:Value):(gV B X h).toList=aY B++(aY X++[h]):=rfl
theorem KS{z:Value}(G:bh w b (gV B X z) 119)(lb:B.length=3128):
  (loadVar 116 b).run prog w= .ok (.agg (aY B).toArray) w:=by
 refine b7 b 0 (aY B) underlying116 rfl (by rw[bB,lb];exact wm) λj h=> ?_
 rw[bB] at h;rw[bc,G.cell,Jv _ _ h,dO h]
theorem FJ{z:Value}(G:bh w b (gV B X z) 119)(lb:B.length=3128)(lx:X.length=3128):
  (loadVar 116 ⟨b,3128,none⟩).run prog w= .ok (.agg (aY X).toArray) w:=by
 refine b7 b 3128 (aY X) underlying116 rfl (by rw[bB,lx];exact wm) λj h=> ?_
 rw[bB] at h;rw[G.cell,Cq _ lb h,dO h]
theorem kv{T:Nat}{c z:Array Value}(h:bh w b c T):bh (w.setRow b z) b z T:=setRow_heap w b c z T _ h
theorem MB{h:Value}(z:bh w b (gV B X h) 119)(lb:B.length=3128)(lx:X.length=3128)(Y:List Int)(G:Y.length=3128):
  ∃w',(storeVar 116 ⟨b,3128,none⟩ (.agg (aY Y).toArray)).run prog w= .ok () w'/\bh w' b (gV B Y h) 119/\ay [b] w w':=by
 refine⟨_,jO b 3128 (aY Y) _ (by rw[bB,G];exact wm) z (by rw[A7,bB];omega) (fh Y),?_,(ay.refl _ _).setRow (by simp) _⟩;have e:((gV B X h).toList.take 3128++aY Y++(gV B X h).toList.drop (3128+(aY Y).length)).toArray=gV B Y h:=by
  rw[xO,List.take_left' (by rw[bB,lb]),<-List.drop_drop,List.drop_left' (by rw[bB,lb]),List.drop_left' (by rw[bB,bB,lx,G]),aV];rfl
 rw[e];exact kv z
theorem PZ (ws:List Int):aY (kU ws)=(aY ws).take 3128++(aY (kU [])).drop ((aY ws).take 3128).length:=by
 apply cD;intro j;have h:((aY ws).take 3128).length=min 3128 ws.length:=by rw[aJ,bB]
 by_cases z:j<3128
 ·rw[dO (by rw[iF];exact z),uT,aB z]
  by_cases G:j<ws.length
  ·rw[ba (by rw[h];omega),bU,aB z,dO G]
  ·rw[aR (by rw[h];omega),b8,h,dO (by rw[iF];omega),uT]
   have :ws.getD j 0=0:=by rw[aj,aP (by omega)];rfl
   rw[this,aB];rfl
 ·rw[aP (by rw[bB,iF];omega),aP]
  rw[aC,bM,h,bB,iF];omega
theorem KT (J:bh w b oH 119)(h:Reads w v g (aY ws)):
  ∃n w',(∀ty,(Builtin.copy_ #[71,71] ty #[.slice b 3128 3128,v]).run prog w= .ok n w')/\bh w' b (gV (kU ws) (kU []) (.slice none 0 0)) 119/\ay [b] w w':=by
 obtain⟨a,cap,rfl,h1,h2,W⟩:=h;rw[bB] at *;by_cases V:ws.length=0
 ·obtain rfl:ws=[]:=bo V
  exact⟨_,w,λty=>run_copy_none (P:= prog) w 71 71 ty 56 _ a 3128 3128 0 cap underlying71 qL (by simp),J,ay.refl _ _⟩
 ·obtain⟨hg,off,rfl,hc⟩:=W (by intro e;have :=cN List.length e;rw[bB,cC] at this;omega)
  have G:((aY ws).take 3128).length=min ws.length 3128:=by rw[aJ,bB,Nat.min_comm]
  have hs:oH.size=6257:=by rw[oH,A7,iF]
  refine⟨_,_,λty=>run_copy_row (P:= prog) w 71 71 ty 56 b 0 3128 3128 ⟨g,off,none⟩ ws.length cap oH 119 ((aY ws).take 3128) underlying71 qL J G ?_ ?_ ?_,?_,(ay.refl _ _).setRow (by simp) _⟩
  ·intro j u z
   rw[bU] at z;split at z
   ·have U:j<(aY ws).length:=(List.getElem?_eq_some_iff.1 z).1
    rw[bB] at U;rw[add_plain,hc j U,z]
   ·cases z
  ·rw[G,hs];omega
  ·exact λu z=>fh ws u (bO z)
  ·have e:(oH.toList.take 0++(aY ws).take 3128++oH.toList.drop (0+((aY ws).take 3128).length)).toArray=gV (kU ws) (kU []) (.slice none 0 0):=by
    rw[oH,xO,ez,bQ,bc,List.drop_append_of_le_length (by rw[G,bB,iF];omega),<-aV,<-PZ];rfl
   rw[e];exact kv J
def yP (w:World) (B:List Int) (e:Ending) (w':World):Prop:=
 ∃b,e=(b:Nat)/\w.heap.size<=b/\eK w' b b B []/\ay [] w w'
theorem Bb (h:Reads w v g (aY ws)):
  Calls prog 26 #[v] w (yP w (kU ws)):=by
 have z:bh (w.alloc (.cells oH 119)) w.heap.size oH 119 :=bh.new w _ _;have cJ:ay [] w (w.alloc (.cells oH 119)):=(ay.refl _ _).alloc _;obtain⟨n,w1,U,G,V⟩:=KT z (h.keep cJ (by simp));have Cr:=KS G (iF ws);obtain⟨w2,W,aa,J⟩:=MB G (iF ws) (iF []) (kU ws) (iF ws);have HM:Hid (yP w (kU ws) (.returned w.heap.size) w2):=by
  refine⟨_,rfl,aH _,⟨⟨iF ws,iF ws,_,aa,⟨rfl,.inl ⟨rfl,rfl⟩⟩,by intro k hk;cases hk⟩,aaQ _⟩,?_⟩;exact(cJ.trans V (by simp)).trans J (by simp)
 obtain⟨ac,TN,xw⟩:=hh3 U W Cr;obtain⟨a,cap,rfl,-,-,-⟩:=h;clear z cJ U G V Cr W aa J;generalize (aY (kU ws)).toArray=Y at *;have ae:=PY;generalize oH=Z at *;go_in;go_wp2_with(first|((with_reducible show wpList _ _ _ (⟨some 11,_,_,_,_,_⟩::_) _ _);refine jw rfl (.tmp 9) (.tmp 10) 71 71 rfl _ _ rfl rfl (ac.out _) ?_)|(with_reducible refine gL 116 xw.out ?_)|(with_reducible refine gS 116 TN.out ?_));go_ret;exact HM.out
theorem Tryz.info_put:(prog.info? 139).map (λi=>(i.zero,i.size,i.bytes))=some (some (.agg #[(0:Int),.int .u64 0]),2,16):=by kernel_rfl
def jU (w:World) (b z:Nat) (B:List Int) (ps:List (Int×Int)) (e:Ending) (w':World):Prop:=
 e= .returned (.tuple #[])/\∃h,(h=z\/(w.heap.size<=h/\h<w'.heap.size))/\eK w' b h B ps/\ay [b,z] w w'
def Ai (ps:List (Int×Int)) (i x:Int):List (Int×Int):=if Sg i=true then ps++[(i,x)] else ps
theorem Xg{V:World}{h j:Nat}{aa:Int}{W:Value}{o:Obj}(hb:bh w b (gV B (az B ps) W) 119)
  (hg:∀k,W.ownBlock=some k->k=gp) (lb:B.length=3128) (lx:(az B ps).length=3128) (hj:j<3128)
  (he:kV B (ps++[((j:Int),x)])=kV B ps++[((j:Int),aa)]) (ac:az B (ps++[((j:Int),x)])=(az B ps).set j x) (aj:Me (ps++[((j:Int),x)]) 3128)
  (hl:(kV B (ps++[((j:Int),x)])).length=z+1)
  (G:V.ownsRow (b+1) 139 2 (.slice U (z+1) h) (z+1) (jd (kV B ps)++[.int .i64 (j:Int),.int .u64 aa]))
  (J:(w.alloc o).drew.grownBy V W.ownBlock) (ai:W.ownBlock=some U\/U=w.heap.size+1) (ag:W.ownBlock≠some b):
  jU w b gp B (ps++[((j:Int),x)]) (.returned (.tuple #[])) ((V.setCell ⟨b,6256,none⟩ (.slice U (z+1) h)).setCell ⟨b,3128+j,none⟩ (.int .u64 x)):=by
 have ah:ay [gp] w V:=((ay.refl [gp] w).alloc o).drew.trans (ay.of_grown (l:=[gp]) J (by intro k hk;rw[hg k hk];simp)) (by simp);have ak:bh V b (gV B (az B ps) W) 119 :=by
  have h1:bh (w.alloc o).drew b (gV B (az B ps) W) 119 :=hb.alloc o;have ar:=h1.lt;unfold bh at h1 ⊢;rw[<-h1];exact J.block b ar (λe=>ag e.symm)
 have af:b≠U:=by have :=dP G U rfl;omega
 have ae:∀(u v:Value),ay [b] V ((V.setCell ⟨b,6256,none⟩ u).setCell ⟨b,3128+j,none⟩ v):=λu v=>((ay.refl [b] _).setCell (by simp) _).setCell (by simp) _
 refine⟨rfl,U,?_,⟨⟨lb,?_,.slice U (z+1) h,?_,?_,?_⟩,aj⟩,?_⟩
 ·rcases ai with e|e
  ·exact .inl (hg _ e)
  ·refine .inr ⟨by omega,?_⟩
   have :=(G.lt U rfl).2;simpa[World.setCell] using this
 ·rw[ac,cX];exact lx
 ·have :=(ak.set 6256 (.slice U (z+1) h)).set (3128+j) (.int .u64 x)
  rw[A9 _ lb lx,A8 _ lb (by omega)] at this;rw[ac];exact this
 ·rw[hl,he,uF]
  exact eo G (ae _ _) (by intro k hk;cases hk;simpa using cY af)
 ·intro k hk;cases hk;rfl
 ·exact(ah.mono (by simp)).trans (ae _ _) (by simp)
theorem pA (h:eK w b gp B ps)(hn:ps.length<=1000000)(i x:Int):
  Calls prog 48 #[b,i,.int .u64 x] w (jU w b gp B (Ai ps i x)):=by
 have HI:=ar (Ba i w);unfold Ai;cases V:Sg i
 ·rw[V] at HI
  rw[aA (by simp)];have HM:Hid (jU w b gp B ps (.returned (.tuple #[])) w):=⟨rfl,gp,.inl rfl,h,ay.refl _ _⟩;clear V h;go_in;go_wp2_with(go_at_call 94;refine C' HI.out ?_);go_end0;exact HM.out
 ·rw[V] at HI
  rw[aB rfl];obtain⟨h0,h1⟩:=uh.1 V;clear V;obtain⟨j,rfl⟩:=cy h0;obtain⟨⟨lb,lx,vp,J,hr,hg⟩,inp⟩:=h;obtain⟨i0,V,af,ag,ac⟩:=dc Tryz.info_put;have hj:j<3128:=by omega
  have c1:w.cell? ⟨b,6256,none⟩=some vp:=by rw[J.cell,uU _ lb lx]
  have c2:w.cell? ⟨b,3128+j,none⟩=some (.int .u64 ((az B ps).getD j 0)):=by rw[J.cell,Cq _ lb (by omega)]
  have f1:w.frozen? ⟨b,6256,none⟩=false:=J.frozen _;have f2:w.frozen? ⟨b,3128+j,none⟩=false:=J.frozen _;have F1:∀o,(w.alloc o).drew.frozen? ⟨b,6256,none⟩=false:=λo=>(J.alloc o).frozen _
  have F2:∀o,(w.alloc o).drew.frozen? ⟨b,3128+j,none⟩=false:=λo=>(J.alloc o).frozen _
  have ax:=J.lt;have E2:∀o,(w.alloc o).drew.cell? ⟨b,3128+j,none⟩=some (.int .u64 ((az B ps).getD j 0)):=λo=>by rw[<-c2];exact aO (w:=w) (jL _ _ _ J.lt)
  have n1:¬3128+j=6256:=by omega
  have E1:∀o,(w.alloc o).drew.cell? ⟨b,6256,none⟩=some vp:=λo=>by rw[<-c1];exact aO (w:=w) (jL _ _ _ J.lt)
  have G:vp.ownBlock≠some b:=λe=>by have :=dP hr b e;omega
  obtain⟨a,cap,hv,q1,q2⟩:=iX hr;rw[sP] at hr hv q1;have HE:=ar (Mz B ps (j:Int) x);have Mf:Hid (az B (ps++[((j:Int),x)])=(az B ps).set j x):=by show az B _=_;rw[bz];rfl
  have EW:Hid (Me (ps++[((j:Int),x)]) 3128):=PV inp (aaR h0 h1);have HL:Hid ((kV B (ps++[((j:Int),x)])).length=ps.length+1):=by show List.length _=_;rw[sP];simp
  rw[aG] at HE;subst hv;obtain⟨HB,HR,HG,LB,LX⟩:=hh5 J hr hg lb lx;clear J hr hg lb lx inp;generalize (az B ps).getD j 0=ae,W:ps.length=n at *;have zM:=ar W;clear W;unfold maxLen at q2;go_in;go_wp2_with fail;refine C' HI.out ?_;go_wp2_with fail
  go_region_law ((refine step_append_lies _ (by rfl) _ _ _ (by rfl) (b+1) 139 i0 _ 2 16 underlying117 V af ag ac rfl (by omega) (.slice a n cap) n _ (by rfl) ((HR.out.alloc _).drew) ⟨w.heap.size,0,none⟩ 1 1 [.int .i64 (j:Int),.int .u64 ae] (by rfl) (by rfl) (lI w [_,_] _ _ rfl) (by simp[Value.oneCell']) (by omega) (by unfold maxLen;omega) (by omega) (by simp;omega) (w.heap.size+1) (by simp) ?_;intro FK aj w1 U z aa ai;have ah:=(z.cell_far ⟨b,6256,none⟩ (by simp;omega) (cY G)).trans (E1 _);have ak:=(z.frozen_far ⟨b,6256,none⟩ (by simp;omega) (cY G)).trans (F1 _);have av:=(z.cell_far ⟨b,3128+j,none⟩ (by simp;omega) (cY G)).trans (E2 _);have au:=(z.frozen_far ⟨b,3128+j,none⟩ (by simp;omega) (cY G)).trans (F2 _)))
  all_goals
   have HM:=ar (Xg HB.out HG.out LB.out LX.out hj HE.out Mf.out EW.out HL.out U z aa G);clear U z aa ai ah;go_wp2_with fail;go_end0;exact HM.out
end
end Go.Proofs.YtepbpdipenedhaaGreatDoor
