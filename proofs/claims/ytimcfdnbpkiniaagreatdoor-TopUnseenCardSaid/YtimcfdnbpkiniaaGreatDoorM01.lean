/- Lemmas. -/
import Derived.Test.YtimcfdnbpkiniaaGreatDoorM00
import Derived.Deep.LoopGhost
import Derived.Deep.RegionWith
import Derived.Laws.CopyRow
import Derived.Laws.IdiomCopy
import Derived.Laws.Tables
import Derived.Deep.RegionLaw
import Derived.Deep.AppendLies
import Derived.BigRegion
import Derived.StillTailTactics
set_option maxHeartbeats 4000000
set_option maxRecDepth 100000
namespace Go.Proofs.YtimcfdnbpkiniaaGreatDoor
open Go.Proofs.Tryz
section
open Go.RowKit
variable{P:Program}{W w w':World}{ty:TypeId}{l:List Bool}{G U V b g gp k n z:Nat}{v:Value}{B X ws xs:List Int}{J ps qs:List (Int×Int)}{i x:Int}
section
variable {P:Program} {ops:Array Oper} {rest:List Oper} {o:Oper} {a:Act} {w:World} {Q:Exit->Act->World->Prop}
theorem gH (z:o.guard=none)(ty:TypeId)(x:Operand)(W:o.op= .load ty x)(G:Addr)(J:a.eval x= .pointer (some G))(v:Value)
  (V:(loadVar ty G).run P w= .ok v w) (h:wpList P ops Q rest (a.put o.dst v) w):wpList P ops Q (o::rest) a w:=
 wpList_plain z λ_ U=>by
  unfold Oper.wp execOp;simp only[W,J,Instr.loadAt,Instr.sureAddr,ck,fQ,cN,V];exact U _ _ h
theorem qa (z:o.guard=none)(ty:TypeId)(x y:Operand)(ho:o.op= .store ty x y)(G:Addr)(J:a.eval x= .pointer (some G))(v:Value)(W:a.eval y=v)(w':World)
  (V:(storeVar ty G v).run P w= .ok () w') (h:wpList P ops Q rest (a.put o.dst undef) w'):wpList P ops Q (o::rest) a w:=
 wpList_plain z λ_ U=>by
  unfold Oper.wp execOp;simp only[ho,J,W,Instr.storeAt,Instr.sureAddr,ck,fQ,cN,V];exact U _ _ h
end
section
variable {P:Program} {ops:Array Oper} {rest:List Oper} {a:Act} {Q:Exit->Act->World->Prop}
theorem gL {w:World}{d:Option Tmp}{x:Operand}{s:String}{J:Array Go.Edge}{t:TypeId}{z:Addr}{v:Value}(T:TypeId)(U:(loadVar T z).run P w= .ok v w)(h:wpList P ops Q rest (a.put d v) w)(G:a.eval x= .pointer (some z):=by with_unfolding_all rfl):wpList P ops Q (⟨d,.load T x,t,s,J,none⟩::rest) a w:=
 gH rfl T x rfl z G v U h
theorem gS {w w':World}{d:Option Tmp}{x y:Operand}{s:String}{J:Array Go.Edge}{t:TypeId}{z:Addr}{v:Value}(T:TypeId)(U:(storeVar T z v).run P w= .ok () w')(h:wpList P ops Q rest (a.put d undef) w')(G:a.eval x= .pointer (some z):=by with_unfolding_all rfl)(V:a.eval y=v:=by with_unfolding_all rfl):wpList P ops Q (⟨d,.store T x y,t,s,J,none⟩::rest) a w:=
 qa rfl T x y rfl z G v V w' U h
end
theorem bX{d:TypeDesc}(g off:Nat)(cs:List Value)(V:P.underlying ty=some d)(hd:(match d with | .struct _ | .array _ _=>true|_=>false)=true)
  (J:(P.info? ty).map (·.size)=some cs.length) (U:∀j,j<cs.length->w.cell? ⟨g,off+j,none⟩=cs[j]?):(loadVar ty ⟨g,off,none⟩).run P w= .ok (.agg cs.toArray) w:=by
 have hl:(loadCells ⟨g,off,none⟩ cs.length).run P w= .ok cs.toArray w:=
  run_loadCells_list (P:=P) w ⟨g,off,none⟩ cs (λj v G=>by
   have h:(⟨g,off,none⟩:Addr).add j=⟨g,off+j,none⟩:=by unfold Addr.add;split<;>simp_all
   have W:j<cs.length:=(List.getElem?_eq_some_iff.1 G).1;rw[h,U j W,G])
 cases hq:P.info? ty with
 |none=>simp[hq] at J
 |some i=>
  have hs:i.size=cs.length:=by simpa[hq] using J
  have z:(isAgg ty).run P w= .ok true w:=by
   unfold isAgg;rw[ck,dD V w];cases d<;>simp_all
  simp[loadVar,z,sizeOf,typeInfo,hq,hs,hl]
theorem jH{T:TypeId}(g off:Nat)(cs:List Value)(h:Array Value)(J:(P.info? ty).map (·.size)=some cs.length)(W:bc w g h T)(z:off+cs.length<=h.size)
  (U:∀v∈cs,v.oneCell'=true):(storeVar ty ⟨g,off,none⟩ (.agg cs.toArray)).run P w= .ok () (w.setRow g (h.toList.take off++cs++h.toList.drop (off+cs.length)).toArray):=by
 have G:=run_storeCells_at P g off T cs 0 h w W (by simpa using z) U;simp only[dE] at G;cases hq:P.info? ty with
 |none=>simp[hq] at J
 |some i=>
  have V:i.size=cs.length:=by simpa[hq] using J
  simp[storeVar,sizeOf,typeInfo,hq,Value.cells,V,G]
theorem jm{z:Array Oper}{rest:List Oper}{o:Oper}{a:Act}{Q:Exit->Act->World->Prop}(G:o.guard=none)(d x:Operand)(t U:TypeId)
  (ho:o.op= .call { callee:= .builtin .copy,args:= #[d,x],argTypes:= #[t,U] }) (v u:Value) (V:a.eval d=v) (W:a.eval x=u) {J:Value} {w':World}
  (hr:(Builtin.copy_ #[t,U] o.type #[v,u]).run P w= .ok J w') (h:wpList P z Q rest (a.put o.dst J) w'):wpList P z Q (o::rest) a w:=
 wpList_plain G λ_ hK=>by
  unfold Oper.wp execOp;simp only[ho,resolve,invoke,builtin,ck,fQ,cN,List.map_toArray,List.map_cons,List.map_nil,V,W,hr];exact hK _ _ h
theorem TI (J U h x3 z V G W:Bool)(w:World):(Op.equalIn 10000 200 (.agg (bools [J,U,h,x3,z,V,G,W]).toArray) (.agg #[false,false,false,false,false,false,false,false])).run prog w=
  .ok (!(J||U||h||x3||z||V||G||W)) w:=by
 cases J<;>cases U<;>cases h<;>cases x3<;>cases z<;>cases V<;>cases G<;>cases W<;>kernel_rfl
def noMark (l:List Bool):Bool:= !(l.any id)
theorem eight(h:l.length=8):∃U V z x3 G W J x7,l=[U,V,z,x3,G,W,J,x7]:=by
 match l,h with
 | [U,V,z,x3,G,W,J,x7],_=>exact⟨U,V,z,x3,G,W,J,x7,rfl⟩
theorem Xi (l:List Bool)(h:l.length=8)(w:World):(Op.equalIn 10000 200 (.agg (bools l).toArray) (.agg #[false,false,false,false,false,false,false,false])).run prog w= .ok (noMark l) w:=by
 obtain⟨U,V,z,x3,G,W,J,x7,rfl⟩:=eight h;rw[TI];simp[noMark,Bool.or_assoc]
theorem Mr (l:List Bool)(h:l.length=8)(k:Nat)(hk:k<8)(w:World):(Instr.index 200 (.agg (bools l).toArray) (.int .i64 (k:Int))).run prog w= .ok (.bool (l.getD k false)) w:=by
 obtain⟨V,W,G,x3,J,x5,U,x7,rfl⟩:=eight h;have z:k=0\/k=1\/k=2\/k=3\/k=4\/k=5\/k=6\/k=7:=by omega
 rcases z with rfl|rfl|rfl|rfl|rfl|rfl|rfl|rfl<;>(show Sem.run _ _ _=_;kernel_rfl)
def iD (s:kp) (m:Nat):List Int:=s.last.mapIdx λj x=>if j<m/\s.fl.getD j false=true then s.now.getD j 0 else x
theorem Dy (s:kp)(m:Nat):(iD s m).length=s.last.length:=by simp[iD]
theorem KC (s:kp):iD s 0=s.last:=by
 apply cG;intro j;simp only[iD,fV];cases s.last[j]? <;>simp
theorem rN (s:kp)(m G:Nat)(h:∀j,j<s.last.length->s.fl.getD j false=true->(j<m↔j<G)):iD s m=iD s G:=by
 apply cG;intro j;simp only[iD,fV];cases hj:s.last[j]? with
 |none=>rfl
 |some x=>
  have J:=(List.getElem?_eq_some_iff.1 hj).1;simp only[iB,Option.some.injEq];by_cases z:s.fl.getD j false=true
  ·simp only[z,and_true,h j J z]
  ·rw[aA (λe=>z e.2),aA (λe=>z e.2)]
theorem KD (s:kp)(m:Nat)(G:s.fl.getD m false=true):iD s (m+1)=(iD s m).set m (s.now.getD m 0):=by
 apply cG;intro j;simp only[iD,gT,fV,List.length_mapIdx];by_cases z:m=j
 ·subst z
  by_cases h:m<s.last.length
  ·rw[aB rfl,aB h,aD h,iB,aB ⟨by omega,G⟩]
  ·simp[h]
 ·rw[aA z]
  cases s.last[j]? with
  |none=>rfl
  |some x=>
   simp only[iB,Option.some.injEq];have :j<m+1↔j<m:=by omega
   simp only[this]
def kp.fence (s:kp):kp:=if s.gone=true then s else { s.count with last:=iD s s.now.length,fl:=List.replicate s.fl.length false }
def kp.fenceE (s:kp):Int:=if s.gone=true then 9 else 0
def kp.fmid (s:kp) (m:Nat):kp:={ s.count with last:=iD s m }
def np (fl:List Bool) (q:Nat):List Bool:=(fl.drop (q*8)).take 8
theorem zZ (fl:List Bool)(q k:Nat)(h:k<8):(np fl q).getD k false=fl.getD (q*8+k) false:=by
 simp[np,h]
theorem PL (fl:List Bool)(q:Nat)(h:q*8+8<=fl.length):(np fl q).length=8:=by simp[np];omega
theorem PN (h:noMark l=true)(k:Nat):l.getD k false=false:=by
 simp only[noMark,Bool.not_eq_true',List.any_eq_false,id_eq] at h;rw[aj];cases hk:l[k]? with
 |none=>rfl
 |some x=>
  have :=h x (List.mem_of_getElem? hk);simpa using this
theorem Ms{gn gl gf:Nat}{s:kp}(h:fM w b gn gl gf s)(hf:s.fit):
  Calls prog 107 #[b] w λe w'=>e=s.fenceE/\fM w' b gn gl gf s.fence/\ay [b,gn,gl,gf] w w':=by
 have G:=ar (Sa h);unfold kp.fence kp.fenceE;cases hg:s.gone
 ·rw[hg] at G
  have aH:=h.n9;obtain⟨ae,aj,hc⟩:=hh3 h.ll h.fll (Fu h hf hg);rw[aA (by simp),aA (by simp)];clear h hf hg;go_in;go_wp2_with fail;go_step3;go_wp2_with fail;refine C' G.out ?_;go_wp2_with fail;refine Rr hc.out ?_;rintro w1 ⟨h,hk⟩;obtain⟨vn,vl,vf,a,c,d,e⟩:=h.at_;have ec:s.count.now.length=s.now.length:=rfl;obtain⟨af,cf,rfl,r1,r2⟩:=e.val;have k0:w1.cell? ⟨b,2,none⟩=some (.slice af ((s.now.length+7)/8) cf):=by rw[a.cell];rfl
  have aD:Hid (s.now.length≠0->af=some ⟨gf,0,none⟩):=λhn=>by
   obtain⟨-,⟨aF,h1,-,-⟩,-,-⟩:=e.cell (by omega);exact(Value.slice.inj h1).1
  obtain⟨H,HK⟩:=hh2 h hk;have e8:0<=((s.now.length+7)/8:Nat):=fD _;clear a c d e h hk ec;go_wp2_with fail;go_step3;go_wp2_with fail;go_loopg [17] ((s.now.length+7)/8) (λg s17 wx=>∃L:Nat,L+g=(s.now.length+7)/8/\s17= .int .i64 (L:Int)/\Hid (fM wx b gn gl gf (s.fmid (L*8))/\ay [b,gn,gl,gf] w wx))
  case atStart=>exact⟨0,by omega,rfl,by unfold kp.fmid;rw[Nat.zero_mul,KC];exact H.out,HK.out.mono⟩
  case round=>
   obtain⟨L,aG,rfl,HP⟩:=hrel;cases gk with
   |zero=>
    have hz:¬((L:Int)<((s.now.length:Int)+7)/8):=by omega
    have V:iD s (L*8)=iD s s.now.length:=rN s _ _ λj J _=>by rw[ae.out] at J;omega
    obtain⟨vf,z,q0,q1,q2,q3⟩:=HP.out.1.clear;obtain⟨Q2,Q3,EL⟩:=hh3 q2 (HP.out.2.trans' q3) V;clear q2 q3 V k0;go_wp2;go_ret;refine⟨rfl,?_,Q3.out⟩;have :=Q2.out;unfold kp.fmid at this;rw[EL.out] at this;exact this
   |succ g=>
    have hz:(L:Int)<((s.now.length:Int)+7)/8:=by omega
    have aC:s.now.length≠0:=by omega
    obtain⟨au,ak,av,a,c,d,e⟩:=HP.out.1.at_;have ec:(s.fmid (L*8)).now.length=s.now.length:=rfl;obtain⟨-,-,q3,-⟩:=e.cell (by omega);rw[ec] at q3;have U:(np s.fl L).length=8:=PL _ _ (by rw[aj.out];omega);have pN:(loadVar 200 ⟨gf,L*8,none⟩).run prog wr= .ok (.agg (bools (np s.fl L)).toArray) wr:=by
     refine bX gf (L*8) (bools (np s.fl L)) underlying200 rfl (by rw[pZ,U];kernel_rfl) λj J=> ?_
     rw[pZ,U] at J;rw[q3 _ (by omega),uI (by rw[show(s.fmid (L*8)).fl=s.fl from rfl,aj.out];omega),uI (by omega),zZ _ _ _ J];rfl
    obtain rfl:=aD.out aC;have mO:=ar pN;clear a c d e q3 ec pN k0;obtain⟨z,ac,oD,fC⟩:∃z,Hid ((storeVar 200 wr.heap.size (.agg (bools (np s.fl L)).toArray)).run prog (wr.alloc (.cells #[false,false,false,false,false,false,false,false] 200))= .ok () z)/\
      Hid (bc z wr.heap.size (bools (np s.fl L)).toArray 200)/\Hid (ay [] wr z):=by
     have hb:=bc.new wr #[false,false,false,false,false,false,false,false] 200;refine⟨_,jH wr.heap.size 0 (bools (np s.fl L)) _ (by rw[pZ,U];kernel_rfl) hb (by rw[pZ,U];simp) (Jl _),?_,?_⟩
     ·have :=setRow_heap _ wr.heap.size _ (List.take 0 (#[Value.bool false,false,false,false,false,false,false,false]:Array Value).toList++bools (np s.fl L)++List.drop (0+(bools (np s.fl L)).length) (#[Value.bool false,false,false,false,false,false,false,false]:Array Value).toList).toArray _ _ hb
      rw[pZ,U] at this;show bc _ _ _ _;simpa[bc,pZ,U] using this
     ·exact((ay.refl _ _).alloc _).setRow (.inr (aI _)) _
    have aa:Hid ((loadVar 200 wr.heap.size).run prog z= .ok (.agg (bools (np s.fl L)).toArray) z):=by
     refine bX wr.heap.size 0 (bools (np s.fl L)) underlying200 rfl (by rw[pZ,U];kernel_rfl) λj J=> ?_
     rw[oD.out.cell];simp
    have hq:=Xi (np s.fl L) U;have mP:Hid (fM z b gn gl gf (s.fmid (L*8))/\ay [b,gn,gl,gf] w z):=⟨HP.out.1.keep fC.out,HP.out.2.trans fC.out⟩;clear HP;cases hnm:noMark (np s.fl L)
    ·rw[hnm] at hq
     have AU:=ar hnm;clear hnm;go_wp2_with(with_reducible first|refine gL 200 mO.out ?_|refine gS 200 ac.out ?_|refine gL 200 aa.out ?_);clear mO ac oD fC aa hq;obtain⟨wo,rfl⟩:∃wo:World,wo=wr:=⟨_,rfl⟩;go_loopg [26] 8 (λg2 s26 wx=>∃k:Nat,k+g2=8/\s26= .int .i64 (k:Int)/\Hid (fM wx b gn gl gf (s.fmid (L*8+k))/\ay [b,gn,gl,gf] w wx))
     case atStart=>exact⟨0,by omega,rfl,mP.out⟩
     case round=>
      obtain⟨k,rM,rfl,W⟩:=hrel;clear mP;cases gk with
      |zero=>
       obtain rfl:k=8:=by omega
       go_wp2;go_roundg g;case measure=>omega
       case rel=>exact⟨L+1,by omega,by go_num,by rw[show(L+1)*8=L*8+8 by omega];exact W.out⟩
      |succ g2=>
       have Ib:=λwz=>Mr (np s.fl L) U k (by omega) wz
       have ag:=zZ s.fl L k (by omega);rw[ag] at Ib;obtain⟨au,ak,av,a,c,d,e⟩:=W.out.1.at_;have ec:(s.fmid (L*8+k)).now.length=s.now.length:=rfl;obtain⟨-,⟨az,rfl,q1,q2⟩,q3,q4⟩:=c.cell (by omega);obtain⟨-,⟨ax,rfl,q5,q6⟩,q7,q8⟩:=d.cell (by omega);have k0:wr.cell? b=some (.slice gn s.now.length az):=by rw[a.cell];rfl
       have k1:wr.cell? ⟨b,1,none⟩=some (.slice gl s.now.length ax):=by rw[a.cell];rfl
       by_cases ah:L*8+k<s.now.length
       ·have k2:wr.cell? ⟨gn,L*8+k,none⟩=some (.int .u64 (s.now.getD (L*8+k) 0)):=(q3 _ (by omega)).trans (dM ah)
        have k3:wr.cell? ⟨gl,L*8+k,none⟩=some (.int .u64 ((iD s (L*8+k)).getD (L*8+k) 0)):=(q7 _ (by omega)).trans (dM (by rw[show(s.fmid (L*8+k)).last=iD s (L*8+k) from rfl,Dy,ae.out];exact ah));have k5:wr.frozen? ⟨gl,L*8+k,none⟩=false:=q8 _;have S2:=ar (W.out.1.drew.setLast (by omega) (L*8+k) (s.now.getD (L*8+k) 0));clear a c d e q3 q4 q7 q8 ag;cases hm:s.fl.getD (L*8+k) false
        ·rw[hm] at Ib
         have HM:=ar hm;clear hm;go_wp2;go_roundg g2;case measure=>omega
         case rel=>
          refine⟨k+1,by omega,by go_num,?_,W.out.2⟩;have V:iD s (L*8+(k+1))=iD s (L*8+k):=rN s _ _ λj J ai=>by
           by_cases h1:j=L*8+k
           ·subst h1;rw[HM.out] at ai;cases ai
           ·omega
          have :=W.out.1;unfold kp.fmid at this ⊢;rw[V];exact this
        ·rw[hm] at Ib
         have HM:=ar (KD s (L*8+k) hm);clear hm;generalize s.now.getD (L*8+k) 0=x,(iD s (L*8+k)).getD (L*8+k) 0=y at *;go_wp2_with fail
         go_region
         go_wp2;go_roundg g2;case measure=>omega
         case rel=>
          refine⟨k+1,by omega,by go_num,?_,W.out.2.drew.setCell (by simp) _⟩;have :=S2.out;unfold kp.fmid at this ⊢;rw[show L*8+(k+1)=L*8+k+1 by omega,HM.out];exact this
       ·have V:iD s (L*8+k)=iD s s.now.length:=rN s _ _ λj J _=>by rw[ae.out] at J;omega
        have EL:=ar V;obtain⟨vf,w3,p0,p1,p2,p3⟩:=W.out.1.clear;obtain⟨P2,P3⟩:=hh2 p2 (W.out.2.trans' p3);clear a c d e q3 q4 q7 q8 ag V p2 p3;go_wp2_with fail;rw[Exit.noGoto_ret];go_ret;refine⟨rfl,?_,P3.out⟩;have :=P2.out;unfold kp.fmid at this;rw[EL.out] at this;exact this
    ·rw[hnm] at hq
     have AU:=ar hnm;clear hnm;go_wp2_with(with_reducible first|refine gL 200 mO.out ?_|refine gS 200 ac.out ?_|refine gL 200 aa.out ?_);go_roundg g;case measure=>omega
     case rel=>
      refine⟨L+1,by omega,by go_num,?_,mP.out.2⟩;have V:iD s ((L+1)*8)=iD s (L*8):=rN s _ _ λj J hm=>by
       by_cases h1:L*8<=j/\j<L*8+8
       ·have :=PN AU.out (j-L*8)
        rw[zZ _ _ _ (by omega),show L*8+(j-L*8)=j by omega,hm] at this;cases this
       ·omega
      have :=mP.out.1;unfold kp.fmid at this ⊢;rw[V];exact this
 ·rw[hg] at G
  have H:=ar h;rw[aB rfl,aB rfl];clear hg h;go_in;go_wp2_with fail;go_step3;go_wp2_with(go_at_call 51;refine C' G.out ?_);rw[Exit.noGoto_ret];go_ret;exact⟨rfl,H.out,ay.refl _ _⟩
theorem Tryz.info_marks:(prog.info? 200).map (λi=>(i.zero,i.size,i.bytes))=some (some (.agg (Array.replicate 8 (.bool false))),8,8):=by kernel_rfl
def Xj (w:World) (xs:List Int) (e:Ending) (w':World):Prop:=
 ∃v g,e=(v:Value)/\fw w' v g 70 1 xs.length (aX xs)/\(xs.length≠0->w.heap.size<=g/\g<w'.heap.size)/\ay [] w w'
theorem Xk (h:Reads w v g (aX xs))(hn:xs.length<=10000):
  Calls prog 54 #[v] w (Xj w xs):=by
 obtain⟨a,cap,rfl,h1,h2,h3⟩:=h;have e1:=λ(wz:World) (a:Option Addr) (n c:Nat)=>Lib.run_eql_slice_nil (P:= prog) wz 65 70 a n c 0 0 underlying65
 cases a with
 |none=>
  have hz:xs=[]:=by
   by_cases hx:aX xs=[]
   ·cases xs<;>simp_all[aX]
   ·obtain⟨-,off,V,-⟩:=h3 hx;cases V
  subst hz;clear h3;go_in;go_wp2;go_ret;exact⟨_,0,rfl,fw.nil _ _ _ _,λh=>absurd rfl h,ay.refl _ _⟩
 |some ad=>
  obtain⟨i0,hi,ah,ac,ae⟩:=df Tryz.info_u64;have J:∀j u,(aX xs)[j]? =some u->(w.alloc (.cells #[] 70)).cell? (ad.add j)=some u:=by
   intro j u hu;have hj:j<(aX xs).length:=(List.getElem?_eq_some_iff.1 hu).1;obtain⟨hg,off,V,hc⟩:=h3 (by intro e;rw[e] at hj;simp at hj);cases V;have W:(⟨g,off,none⟩:Addr).add j=⟨g,off+j,none⟩:=by unfold Addr.add;split<;>simp_all
   rw[W,aO (w:=w) (jF _ _ _ hg),hc j hj,hu]
  have U:(w.alloc (.cells #[] 70)).ownsRow w.heap.size 70 1 (.slice w.heap.size 0 0) 0 []:=World.ownsRow_made w #[] 0 (aI _) (by simp[maxLen]) (by simp);obtain⟨HC,HO⟩:=hh2 J U;clear J U h3;rw[bA] at h1 ⊢;go_in;go_wp2_with(at_builtin;refine eO _ rfl _ _ 65 rfl w.heap.size 70 i0 (.int .u64 0) 1 8 underlying65 hi ah ac ae rfl (by decide) (.slice w.heap.size 0 0) _ _ rfl HO.out ad xs.length cap (aX xs) rfl (by rw[bA];omega) HC.out (fk xs) (by unfold maxLen;omega) (by omega) (by simp) ?_;intro v' w1 z G _);obtain⟨g',V,aa⟩:=fw.of_row z;have H:Xj w xs (.returned v') w1:=by
   refine⟨v',g',rfl,by simpa using V,λag=> ?_,?_⟩
   ·have :=aa (by omega)
    exact⟨this.1,((by simpa using V:fw w1 v' g' 70 1 xs.length (aX xs)).cell ag).1⟩
   ·have hk:=ay.of_grown (l:=[]) (((World.grownBy_alloc w (.cells #[] 70) none))) (by simp)
    have af:ay [w.heap.size] (w.alloc (.cells #[] 70)) w1:=ay.of_grown G (by intro k hk;simp[Value.ownBlock] at hk;subst hk;simp);exact hk.trans af
  have HH:=ar H;clear z G V aa H;go_wp2;go_ret;exact HH.out
def Made (w:World) (xs:List Int) (e:Ending) (w':World):Prop:=
 ∃b gn gl gf,e=(b:Nat)/\fM w' b gn gl gf { now:=xs,last:=xs,fl:=List.replicate ((xs.length+7)/8*8) false,deeds:=0,fused:=false,left:=0 }/\
  (w.heap.size<=b/\w.heap.size<=gn/\w.heap.size<=gl/\w.heap.size<=gf)/\ay [] w w'
theorem KE{v1 v2 v3:Value}{J:Nat}(hn:xs.length<=10000)(hk:ay [] w W)(o1:fw W v1 J 70 1 xs.length (aX xs))(o2:fw W v2 U 70 1 xs.length (aX xs))
  (o3:fw W v3 V 200 8 ((xs.length+7)/8) (bools (List.replicate ((xs.length+7)/8*8) false)))
  (hz:xs.length≠0->(w.heap.size<=J/\w.heap.size<=U/\w.heap.size<=V)/\J≠U/\J≠V/\U≠V):
  Made w xs (.returned W.heap.size) (W.alloc (.cells #[v1,v2,v3,(0:Int),false,(0:Int)] 112)):=by
 have z:=hk.size;by_cases G:xs.length=0
 ·refine⟨W.heap.size,W.heap.size,W.heap.size,W.heap.size,rfl,⟨hn,rfl,by simp,λh=>absurd G h,v1,v2,v3,bc.new _ _ _,?_,?_,?_⟩,⟨z,z,z,z⟩,hk.alloc _⟩
  ·exact(o1.alloc _).anyG G _
  ·exact(o2.alloc _).anyG G _
  ·exact(o3.alloc _).anyG (by omega) _
 ·obtain⟨⟨a1,a2,a3⟩,a4,a5,a6⟩:=hz G
  have l1:=(o1.cell G).1;have l2:=(o2.cell G).1;have l3:=(o3.cell (by omega)).1;exact⟨W.heap.size,J,U,V,rfl,⟨hn,rfl,by simp,λ_=>⟨⟨by omega,by omega,by omega⟩,a4,a5,a6⟩,v1,v2,v3,bc.new _ _ _,o1.alloc _,o2.alloc _,o3.alloc _⟩,⟨z,a1,a2,a3⟩,hk.alloc _⟩
theorem PO (n:Nat):(madeCells (Array.replicate 8 (Value.bool false)) (n*8)).toList=bools (List.replicate (n*8) false):=by
 have :=rB n;simpa[Builtin.zeroCells,madeCells,Value.cells] using this
theorem Cg{q:Nat}{mc:Array Value}(G:q<=1250)(h:mc.toList=bools (List.replicate (q*8) false)):
  fw (w.alloc (.cells mc 200)) (.slice w.heap.size q q) w.heap.size 200 8 q (bools (List.replicate (q*8) false)):=by
 have z:mc.size=q*8:=by rw[<-dK,h];simp[bools]
 refine⟨by simp[bools],_,q,rfl,aI _,by unfold maxLen;omega,λ_=>⟨rfl,mc,bc.new _ _ _,z,?_⟩⟩;rw[<-h,aW (by rw[dK];omega)]
theorem aft (h:Reads w v g (aX xs))(W:xs.length<=10000):
  Calls prog 25 #[v] w (Made w xs):=by
 have H3:=ar h;obtain⟨a,cap,rfl,h1,h2,h3⟩:=h;clear h3;rw[bA] at *;unfold maxLen at h2;go_in;go_wp2_with fail;have aa:∀U:World,(Instr.makeSlice 110 (.int .i64 (((xs.length:Int)+8-1)/8)) (.int .i64 (((xs.length:Int)+8-1)/8))).run prog U=
   .ok (.slice U.heap.size ((xs.length+7)/8) ((xs.length+7)/8)) (U.alloc (.cells (madeCells (Array.replicate 8 (.bool false)) ((xs.length+7)/8*8)) 200)):=λU=>by
  obtain⟨i0,hi,ag,ae,af⟩:=df Tryz.info_marks;have :=run_make (P:= prog) U 110 200 i0 _ underlying110 hi ag .i64 .i64 (((xs.length:Int)+8-1)/8) (((xs.length:Int)+8-1)/8) (by omega) (by omega) (by rw[af];omega) (by omega);rw[ae,show(((xs.length:Int)+8-1)/8).toNat=(xs.length+7)/8 by omega] at this;exact this
 obtain⟨mc,J⟩:∃mc,mc=madeCells (Array.replicate 8 (.bool false)) ((xs.length+7)/8*8):=⟨_,rfl⟩;have G:Hid (mc.toList=bools (List.replicate ((xs.length+7)/8*8) false)):=by rw[J];exact PO _
 rw[<-J] at aa;clear J;go_region_with (go_at_call 54;refine(Xk (g:=g) (xs:=xs) (H3.out.keep (l:=[]) ?hk (by simp)) W).mono ?_;(case hk=>(repeat (first|exact ay.refl _ _|assumption|refine ay.drew ?_|refine ay.alloc ?_ _|refine ay.trans (l':=[]) ?_ (by assumption) (by simp))));rintro e w' ⟨v1,g1,rfl,o1,z1,z⟩;obtain⟨a1,c1,rfl,_,_⟩:=o1.val;(have O1:=ar o1);clear o1)
 all_goals go_wp2_with fail
 all_goals go_ret
 ·rename_i w1 g2 z2 k2 a2 c2 _ _ O2 _ _
  have V:ay [] w w.drew:=(ay.refl _ _).drew;have hw:w.drew.heap.size=w.heap.size:=rfl;have M:=KE (w:=w) W (((V.trans k2).trans z).alloc (.cells mc 200)) ((O2.out.keep z).alloc _) (O1.out.alloc _) (Cg (by omega) G.out) (λh=>by
   have y2:=z2 h;have y1:=z1 h;have :=k2.size;have :=z.size;refine⟨⟨?_,?_,?_⟩,?_,?_,?_⟩<;>omega)
  rw[show(w'.alloc (.cells mc 200)).heap.size=w'.heap.size+1 by simp] at M;exact M
 ·rename_i w1 g2 z2 k2 a2 c2 _ _ O2 _ _
  have V:ay [] w w.drew:=(ay.refl _ _).drew;have hw:w.drew.heap.size=w.heap.size:=rfl;have hs:(w1.alloc (.cells mc 200)).heap.size=w1.heap.size+1:=by simp
  exact KE (w:=w) W (((V.trans k2).alloc (.cells mc 200)).trans z) ((O2.out.alloc (.cells mc 200)).keep z) O1.out ((Cg (w:=w1) (by omega) G.out).keep z) (λh=>by
   have y2:=z2 h;have y1:=z1 h;have :=k2.size;have :=z.size;refine⟨⟨?_,?_,?_⟩,?_,?_,?_⟩<;>omega)
 ·rename_i w1 g2 z2 k2 a2 c2 _ _ O2 _ _
  have V:ay [] w w.drew:=(ay.refl _ _).drew;have hw:w.drew.heap.size=w.heap.size:=rfl;have hs:(w.alloc (.cells mc 200)).drew.heap.size=w.heap.size+1:=by
   show(w.alloc (.cells mc 200)).heap.size=_;simp
  have ac:ay [] w (w.alloc (.cells mc 200)).drew:=((ay.refl _ _).alloc _).drew;exact KE (w:=w) W ((ac.trans k2).trans z) (O2.out.keep z) O1.out (((Cg (w:=w) (by omega) G.out).drew.keep k2).keep z) (λh=>by
   have y2:=z2 h;have y1:=z1 h;have :=k2.size;have :=z.size;refine⟨⟨?_,?_,?_⟩,?_,?_,?_⟩<;>omega)
def uJ (n:Int):Nat:=(min (max n 0) 10000).toNat
theorem aa6 (n:Int):uJ n<=10000:=by unfold uJ;omega
theorem Made.weaken{G:World}{e:Ending}(h:Made G xs e w')(z:ay [] w G):Made w xs e w':=by
 obtain⟨b,gn,gl,gf,J,V,⟨h3,h4,h5,W⟩,U⟩:=h;have :=z.size;exact⟨b,gn,gl,gf,J,V,⟨by omega,by omega,by omega,by omega⟩,z.trans U⟩
theorem adC (w:World)(n:Int):
  Calls prog 20 #[n] w (Made w (List.replicate (uJ n) 0)):=by
 obtain⟨i0,hi,W,V,aa⟩:=df Tryz.info_u64;have hq:=aa6 n;have J:(Instr.makeSlice 65 (.int .i64 (uJ n:Int)) (.int .i64 (uJ n:Int))).run prog w=
   .ok (.slice w.heap.size (uJ n) (uJ n)) (w.alloc (.cells (madeCells #[.int .u64 0] (uJ n)) 70)):=by
  have :=run_make (P:= prog) w 65 70 i0 _ underlying65 hi W .i64 .i64 (uJ n:Int) (uJ n:Int) (by omega) (by omega) (by rw[aa];omega) (by omega);rw[V,aF,iE] at this;exact this
 have hr:Reads (w.alloc (.cells (madeCells #[.int .u64 0] (uJ n)) 70)) (.slice w.heap.size (uJ n) (uJ n)) w.heap.size (aX (List.replicate (uJ n) 0)):=by
  refine fw.reads (T:= 70) (n:=uJ n) ⟨by simp[aX],_,uJ n,rfl,aI _,by unfold maxLen;omega,λ_=>⟨rfl,_,bc.new _ _ _,by simp[size_madeCells],?_⟩⟩;rw[toList_madeCells_one,Jk,aW (by simp[aX])]
 have HO:=ar ((aft hr (by simpa using hq)).mono λe w' h=>h.weaken ((ay.refl _ w).alloc _));clear hr;have z:((uJ n:Nat):Int)=min (max n 0) 10000:=by unfold uJ;omega
 generalize uJ n=q at *;rcases (show n<0\/(0<=n/\n<=10000)\/10000<n by omega) with h|⟨h,h'⟩|h
 ·obtain rfl:q=0:=by omega
  clear z hq;simp only[Int.natCast_zero] at J;go_in;go_wp2_with fail;refine HO.out.mono ?_;intro e w1 G;have U:=ar G;obtain⟨b,gn,gl,gf,rfl,-,-,-⟩:=G;go_wp2;go_ret;exact U.out
 ·obtain rfl:n=(q:Int):=by omega
  clear z;go_in;go_wp2_with fail;refine HO.out.mono ?_;intro e w1 G;have U:=ar G;obtain⟨b,gn,gl,gf,rfl,-,-,-⟩:=G;go_wp2;go_ret;exact U.out
 ·obtain rfl:q=10000:=by omega
  clear z hq;simp only[show((10000:Nat):Int)=10000 from rfl] at J;generalize madeCells #[Value.int .u64 0] 10000=mc,List.replicate 10000 (0:Int)=xs at *;go_in;go_wp2_with fail;refine HO.out.mono ?_;intro e w1 G;have U:=ar G;obtain⟨b,gn,gl,gf,rfl,-,-,-⟩:=G;go_wp2;go_ret;exact U.out
theorem Tryz.info_pair:(prog.info? 82).map (λi=>(i.zero,i.size,i.bytes))=some (some (.agg #[(0:Int),.int .u64 0]),2,16):=by kernel_rfl
theorem PQ (n:Nat)(W:n<=100000)(m:Int)(U:m=(n:Int))(w:World):(Instr.makeSlice 80 (.int .i64 m) (.int .i64 m)).run prog w=
  .ok (.slice w.heap.size n n) (w.alloc (.cells (madeCells #[(0:Int),.int .u64 0] (n*2)) 82)):=by
 subst U;obtain⟨J,V,z,h,G⟩:=df Tryz.info_pair;have :=run_make (P:= prog) w 80 82 J _ underlying80 V z .i64 .i64 (n:Int) (n:Int) (by omega) (by omega) (by rw[G];omega) (by omega);rw[h,aF] at this;exact this
theorem PR (w:World)(n:Nat)(z:n<=100000):fw (w.alloc (.cells (madeCells #[(0:Int),.int .u64 0] (n*2)) 82)) (.slice w.heap.size n n) w.heap.size 82 2 n (je (List.replicate n (0,0))):=by
 have h:(madeCells #[Value.int .i64 0,Value.int .u64 0] (n*2)).size=n*2:=by rw[<-dK,Dx,sJ,bJ]
 refine⟨by rw[sJ,bJ],_,n,rfl,aI _,by unfold maxLen;omega,λ_=>⟨rfl,_,bc.new _ _ _,h,?_⟩⟩;rw[<-Dx,aW (by rw[dK];omega)]
end
section
variable{P:Program}{W w w':World}{ty:TypeId}{l:List Bool}{G U V b g gp k n z:Nat}{v:Value}{B X ws xs:List Int}{J ps qs:List (Int×Int)}{i x:Int}
def kN (ws:List Int):List Int:=ws.take 3128++List.replicate (3128-ws.length) 0
theorem iw (ws:List Int):(kN ws).length=3128:=by simp only[kN,aC,aJ,bJ];omega
theorem uK (ws:List Int)(i:Nat):(kN ws).getD i 0=if i<3128 then ws.getD i 0 else 0:=by
 simp only[kN,aj,jb,aJ,bU,bB];by_cases h:i<3128
 ·by_cases z:i<ws.length
  ·rw[aB,aB h,aB h]
  ·rw[aA,aB,aB h,aZ (by omega)];rfl
 ·rw[aA,aA,aA h];rfl
theorem PS (h:Mn ps n)(k:Mn qs n):Mn (ps++qs) n:=λp z=>(aR.1 z).elim (h p) (k p)
theorem Fv (h:Mn ps n)(m:Nat):Mn (ps.take m) n:=λp z=>h p (bL z)
theorem aa7 (n:Nat):Mn [] n:=λp h=>by simp at h
theorem aa8 (G:0<=i)(z:i<n):Mn [(i,x)] n:=λp h=>by
 rw[au] at h;subst h;exact⟨G,z⟩
def kO (B:List Int) (ps:List (Int×Int)):List (Int×Int):=(List.range ps.length).map λk=>(jo ps k,(az B (ps.take k)).getD (jo ps k).toNat 0)
theorem sK (B:List Int)(ps:List (Int×Int)):(kO B ps).length=ps.length:=by simp[kO]
theorem Fw (B:List Int)(ps:List (Int×Int))(k:Nat)(h:k<ps.length):jo (kO B ps) k=jo ps k/\rA (kO B ps) k=(az B (ps.take k)).getD (jo ps k).toNat 0:=by
 have e:(kO B ps).getD k (0,0)=(jo ps k,(az B (ps.take k)).getD (jo ps k).toNat 0):=by
  rw[aj,kO,bO,cU h];rfl
 rw[jo,rA,e];exact⟨rfl,rfl⟩
theorem Ch (h:k<ps.length):jo (ps++qs) k=jo ps k:=by
 simp[jo,jb,h]
theorem Mt (B:List Int)(ps:List (Int×Int))(i x:Int):kO B (ps++[(i,x)])=kO B ps++[(i,(az B ps).getD i.toNat 0)]:=by
 have z:jo (ps++[(i,x)]) ps.length=i:=by simp[jo]
 unfold kO;rw[aC,List.length_singleton,dQ,ez,List.map_singleton,z,List.take_left]
 congr 1
 apply dL;intro k h;rw[cu] at h;rw[Ch h,fI (by omega)]
theorem TJ{m:Nat}(h:k<m):jo (ps.take m) k=jo ps k:=by
 simp[jo,h]
theorem xA (B:List Int)(ps:List (Int×Int))(m:Nat)(h:m<=ps.length):(kO B ps).take m=kO B (ps.take m):=by
 unfold kO;rw[<-j0,List.take_range,aJ,cZ h];apply dL;intro k z;rw[cu] at z;rw[TJ z,List.take_take,cZ (by omega)]
theorem KF (l:List Int)(i:Nat)(x:Int):(l.set i x).set i (l.getD i 0)=l:=by
 rw[List.set_set];exact Io l i 0
theorem Mu (B:List Int)(ps:List (Int×Int))(k:Nat)(h:k<ps.length):
  (az B (ps.take (k+1))).set (jo ps k).toNat ((az B (ps.take k)).getD (jo ps k).toNat 0)=az B (ps.take k):=by
 rw[Ca B ps k h];exact KF _ _ _
def Fx (m:Int) (n:Nat):Nat:=(min (max m 0) (n:Int)).toNat
theorem Xl (m:Int)(n:Nat):Fx m n<=n:=by unfold Fx;omega
theorem Jm (m:Int)(n:Nat):((Fx m n:Nat):Int)=min (max m 0) (n:Int):=by unfold Fx;omega
def AV (B:List Int) (ps:List (Int×Int)) (i:Int):Int:=if 0<=i/\i<3128 then (az B ps).getD i.toNat 0 else 0
def Sc (i:Int):Bool:=decide (0<=i)&&decide (i<3128)
theorem ub:Sc i=true↔0<=i/\i<3128:=by simp[Sc]
def dm (B X:List Int) (k:Nat):List (Int×Int):=((List.range k).filter λi=>X.getD i 0 != B.getD i 0).map λ(i:Nat)=>((i:Int),X.getD i 0)
theorem Dz (B X:List Int)(k:Nat)(h:X.getD k 0=B.getD k 0):dm B X (k+1)=dm B X k:=by
 unfold dm;rw[dQ,dZ];have :(X.getD k 0 != B.getD k 0)=false:=by simpa using h
 simp only[fE,this,List.filter_nil];simp
theorem PT (B X:List Int)(k:Nat)(h:X.getD k 0≠B.getD k 0):dm B X (k+1)=dm B X k++[((k:Int),X.getD k 0)]:=by
 unfold dm;rw[dQ,dZ];have :(X.getD k 0 != B.getD k 0)=true:=by simpa using h
 simp only[fE,this,List.filter_nil];simp
theorem PU (B X:List Int)(k:Nat):(dm B X k).length<=k:=by
 unfold dm;rw[b7];have :=fe (λi=>X.getD i 0 != B.getD i 0) (List.range k);simpa using this
end
section
open Go.RowKit
variable{P:Program}{W w w':World}{ty:TypeId}{l:List Bool}{G U V b g gp k n z:Nat}{v:Value}{B X ws xs:List Int}{J ps qs:List (Int×Int)}{i x:Int}
def gW (B X:List Int) (h:Value):Array Value:=(aX B++(aX X++[h])).toArray
theorem AW (B X:List Int)(h:Value):(gW B X h).size=B.length+(X.length+1):=by simp[gW,bA]
theorem Jn (X:List Int)(z:Value){i:Nat}(h:i<B.length):(gW B X z)[i]? =some (.int .u64 (B.getD i 0)):=by
 rw[gW,aG,bh (by rw[bA];exact h),dM h]
theorem Ci (z:Value)(G:B.length=3128){i:Nat}(h:i<X.length):(gW B X z)[3128+i]? =some (.int .u64 (X.getD i 0)):=by
 rw[gW,aG,aT (by rw[bA];omega),bA,G,dS,bh (by rw[bA];exact h),dM h]
theorem uL (h:Value)(G:B.length=3128)(z:X.length=3128):(gW B X h)[6256]? =some h:=by
 rw[gW,aG,aT (by rw[bA];omega),bA,G,aT (by rw[bA];omega),bA,z];rfl
theorem AX (z:Value)(G:B.length=3128){i:Nat}(h:i<X.length)(x:Int):(gW B X z).setIfInBounds (3128+i) (.int .u64 x)=gW B (X.set i x) z:=by
 unfold gW;rw[ag,dU _ _ (by rw[bA];omega),bA,G,dS,List.set_append_left _ _ (by rw[bA];exact h),mz]
theorem AY (h:Value)(G:B.length=3128)(z:X.length=3128)(v:Value):(gW B X h).setIfInBounds 6256 v=gW B X v:=by
 unfold gW;rw[ag,dU _ _ (by rw[bA];omega),bA,G,dU _ _ (by rw[bA];omega),bA,z];rfl
structure kP (w:World) (b gp:Nat) (B X:List Int) (us:List (Int×Int)):Prop where
 lb:B.length=3128
 lx:X.length=3128
 at_:∃vp,bc w b (gW B X vp) 122/\w.ownsRow (b+1) 152 2 vp us.length (je us)/\∀k,vp.ownBlock=some k->k=gp
structure eN (w:World) (b gp:Nat) (B:List Int) (ps:List (Int×Int)):Prop where
 raw:kP w b gp B (az B ps) (kO B ps)
 inp:Mn ps 3128
theorem kP.keep{U:List (Int×Int)}(h:kP w b z B X U){l:List Nat}(G:ay l w w')(W:b∉l:=by simp)(hg:z∉l:=by simp):kP w' b z B X U:=by
 obtain⟨lb,lx,vp,V,h2,J⟩:=h;exact⟨lb,lx,vp,V.keep G W,ey h2 G λk e=>by rw[J k e];exact hg,J⟩
theorem eN.keep(h:eN w b z B ps){l:List Nat}(J:ay l w w')(G:b∉l:=by simp)(U:z∉l:=by simp):eN w' b z B ps:=
 ⟨h.raw.keep J G U,h.inp⟩
theorem kP.lt(h:kP w b G B X J):b<w.heap.size:=by
 obtain⟨lb,lx,U,z,W,V⟩:=h;exact z.lt
theorem kP.cell0(h:kP w b G B X J){i:Nat}(W:i<3128):w.cell? ⟨b,i,none⟩=some (.int .u64 (B.getD i 0)):=by
 obtain⟨lb,lx,U,z,h2,V⟩:=h;rw[z.cell,Jn _ _ (by omega)]
theorem kP.cell1(h:kP w b G B X J){i:Nat}(W:i<3128):w.cell? ⟨b,3128+i,none⟩=some (.int .u64 (X.getD i 0)):=by
 obtain⟨lb,lx,U,z,h2,V⟩:=h;rw[z.cell,Ci _ lb (by omega)]
theorem AZ (i:Int)(w:World):Calls prog 100 #[i] w λe w'=>e=(Sc i:Bool)/\w=w':=by
 by_cases z:0<=i
 ·by_cases h:i<3128
  ·rw[ub.2 ⟨z,h⟩]
   go_in;go_wp2;go_ret;exact⟨rfl,rfl⟩
  ·rw[show Sc i=false by simp[Sc];omega]
   go_in;go_wp2;go_ret;exact⟨rfl,rfl⟩
 ·rw[show Sc i=false by simp[Sc];omega]
  go_in;go_wp2;go_ret;exact⟨rfl,rfl⟩
theorem TK (h:kP w b G B X J)(i:Int):
  Calls prog 57 #[b,i] w λe w'=>e= .returned (.int .u64 (if Sc i=true then X.getD i.toNat 0 else 0))/\w=w':=by
 have z:=ar (AZ i w);cases hi:Sc i
 ·rw[hi] at z
  rw[aA (by simp)];clear hi h;go_in;go_wp2_with(go_at_call 100;refine C' z.out ?_);go_ret;exact⟨rfl,rfl⟩
 ·rw[hi] at z
  rw[aB rfl];obtain⟨U,V⟩:=ub.1 hi;clear hi;obtain⟨i,rfl⟩:=cz U;have W:=h.cell1 (i:=i) (by omega);rw[aF];generalize X.getD i 0=x at *;clear h;go_in;go_wp2_with(go_at_call 100;refine C' z.out ?_);go_ret;exact⟨rfl,rfl⟩
theorem nW (h:eN w b z B ps)(i:Int):
  Calls prog 57 #[b,i] w λe w'=>e= .returned (.int .u64 (AV B ps i))/\w=w':=by
 have :=TK h.raw i;rw[show(if Sc i=true then (az B ps).getD i.toNat 0 else 0)=AV B ps i by unfold AV;simp only[ub]] at this;exact this
def od:Array Value:=gW (kN []) (kN []) (.slice none 0 0)
theorem PV (w:World):(zeroValue 122).run prog w= .ok (.agg od) w:=by kernel_rfl
theorem vR:(prog.info? 119).map (·.size)=some 3128:=by kernel_rfl
theorem qH:(prog.info? 70).map (·.size)=some 1:=by kernel_rfl
theorem xB (B X:List Int)(h:Value):(gW B X h).toList=aX B++(aX X++[h]):=rfl
theorem KG{z:Value}(G:bc w b (gW B X z) 122)(lb:B.length=3128):
  (loadVar 119 b).run prog w= .ok (.agg (aX B).toArray) w:=by
 refine bX b 0 (aX B) underlying119 rfl (by rw[bA,lb];exact vR) λj h=> ?_
 rw[bA] at h;rw[bp,G.cell,Jn _ _ h,dM h]
theorem Fy{z:Value}(G:bc w b (gW B X z) 122)(lb:B.length=3128)(lx:X.length=3128):
  (loadVar 119 ⟨b,3128,none⟩).run prog w= .ok (.agg (aX X).toArray) w:=by
 refine bX b 3128 (aX X) underlying119 rfl (by rw[bA,lx];exact vR) λj h=> ?_
 rw[bA] at h;rw[G.cell,Ci _ lb h,dM h]
theorem j4{T:Nat}{c z:Array Value}(h:bc w b c T):bc (w.setRow b z) b z T:=setRow_heap w b c z T _ h
theorem Mv{h:Value}(z:bc w b (gW B X h) 122)(lb:B.length=3128)(lx:X.length=3128)(Y:List Int)(G:Y.length=3128):
  ∃w',(storeVar 119 ⟨b,3128,none⟩ (.agg (aX Y).toArray)).run prog w= .ok () w'/\bc w' b (gW B Y h) 122/\ay [b] w w':=by
 refine⟨_,jH b 3128 (aX Y) _ (by rw[bA,G];exact vR) z (by rw[AW,bA];omega) (fk Y),?_,(ay.refl _ _).setRow (by simp) _⟩;have e:((gW B X h).toList.take 3128++aX Y++(gW B X h).toList.drop (3128+(aX Y).length)).toArray=gW B Y h:=by
  rw[xB,List.take_left' (by rw[bA,lb]),<-List.drop_drop,List.drop_left' (by rw[bA,lb]),List.drop_left' (by rw[bA,bA,lx,G]),aV];rfl
 rw[e];exact j4 z
theorem PW (ws:List Int):aX (kN ws)=(aX ws).take 3128++(aX (kN [])).drop ((aX ws).take 3128).length:=by
 apply cG;intro j;have h:((aX ws).take 3128).length=min 3128 ws.length:=by rw[aJ,bA]
 by_cases z:j<3128
 ·rw[dM (by rw[iw];exact z),uK,aB z]
  by_cases G:j<ws.length
  ·rw[bh (by rw[h];omega),bU,aB z,dM G]
  ·rw[aT (by rw[h];omega),cj,h,dM (by rw[iw];omega),uK]
   have :ws.getD j 0=0:=by rw[aj,aZ (by omega)];rfl
   rw[this,aB];rfl
 ·rw[aZ (by rw[bA,iw];omega),aZ]
  rw[aC,bV,h,bA,iw];omega
theorem KH (G:bc w b od 122)(h:Reads w v g (aX ws)):
  ∃n w',(∀ty,(Builtin.copy_ #[65,65] ty #[.slice b 3128 3128,v]).run prog w= .ok n w')/\bc w' b (gW (kN ws) (kN []) (.slice none 0 0)) 122/\ay [b] w w':=by
 obtain⟨a,cap,rfl,h1,h2,h3⟩:=h;rw[bA] at *;by_cases h0:ws.length=0
 ·obtain rfl:ws=[]:=bg h0
  exact⟨_,w,λty=>run_copy_none (P:= prog) w 65 65 ty 70 _ a 3128 3128 0 cap underlying65 qH (by simp),G,ay.refl _ _⟩
 ·obtain⟨hg,off,rfl,V⟩:=h3 (by intro e;have :=cP List.length e;rw[bA,cD] at this;omega)
  have J:((aX ws).take 3128).length=min ws.length 3128:=by rw[aJ,bA,Nat.min_comm]
  have W:od.size=6257:=by rw[od,AW,iw]
  refine⟨_,_,λty=>run_copy_row (P:= prog) w 65 65 ty 70 b 0 3128 3128 ⟨g,off,none⟩ ws.length cap od 122 ((aX ws).take 3128) underlying65 qH G J ?_ ?_ ?_,?_,(ay.refl _ _).setRow (by simp) _⟩
  ·intro j u z
   rw[bU] at z;split at z
   ·have U:j<(aX ws).length:=(List.getElem?_eq_some_iff.1 z).1
    rw[bA] at U;rw[add_plain,V j U,z]
   ·cases z
  ·rw[J,W];omega
  ·exact λu z=>fk ws u (bL z)
  ·have e:(od.toList.take 0++(aX ws).take 3128++od.toList.drop (0+((aX ws).take 3128).length)).toArray=gW (kN ws) (kN []) (.slice none 0 0):=by
    rw[od,xB,eW,bN,bp,List.drop_append_of_le_length (by rw[J,bA,iw];omega),<-aV,<-PW];rfl
   rw[e];exact j4 G
def yJ (w:World) (B:List Int) (e:Ending) (w':World):Prop:=
 ∃b,e=(b:Nat)/\w.heap.size<=b/\eN w' b b B []/\ay [] w w'
theorem A0 (h:Reads w v g (aX ws)):
  Calls prog 32 #[v] w (yJ w (kN ws)):=by
 have z:bc (w.alloc (.cells od 122)) w.heap.size od 122 :=bc.new w _ _;have cM:ay [] w (w.alloc (.cells od 122)):=(ay.refl _ _).alloc _;obtain⟨n,w1,U,G,W⟩:=KH z (h.keep cM);have Cj:=KG G (iw ws);obtain⟨w2,J,V,aa⟩:=Mv G (iw ws) (iw []) (kN ws) (iw ws);have HM:Hid (yJ w (kN ws) (.returned w.heap.size) w2):=by
  refine⟨_,rfl,aI _,⟨⟨iw ws,iw ws,_,V,⟨rfl,.inl ⟨rfl,rfl⟩⟩,by intro k hk;cases hk⟩,aa7 _⟩,?_⟩;exact(cM.trans W).trans aa
 obtain⟨ac,ae,zn⟩:=hh3 U J Cj;obtain⟨a,cap,rfl,-,-,-⟩:=h;clear z cM U G W Cj J V aa;generalize (aX (kN ws)).toArray=Y at *;have af:=PV;generalize od=Z at *;go_in;go_wp2_with(first|((with_reducible show wpList _ _ _ (⟨some 11,_,_,_,_,_⟩::_) _ _);refine jm rfl (.tmp 9) (.tmp 10) 65 65 rfl _ _ rfl rfl (ac.out _) ?_)|(with_reducible refine gL 119 zn.out ?_)|(with_reducible refine gS 119 ae.out ?_));go_ret;exact HM.out
theorem Tryz.info_put:(prog.info? 152).map (λi=>(i.zero,i.size,i.bytes))=some (some (.agg #[(0:Int),.int .u64 0]),2,16):=by kernel_rfl
def jN (w:World) (b z:Nat) (B:List Int) (ps:List (Int×Int)) (e:Ending) (w':World):Prop:=
 e= .returned (.tuple #[])/\∃h,(h=z\/(w.heap.size<=h/\h<w'.heap.size))/\eN w' b h B ps/\ay [b,z] w w'
def z6 (ps:List (Int×Int)) (i x:Int):List (Int×Int):=if Sc i=true then ps++[(i,x)] else ps
theorem Xm{h j:Nat}{aa:Int}{V:Value}{o:Obj}(hb:bc w b (gW B (az B ps) V) 122)
  (hg:∀k,V.ownBlock=some k->k=gp) (lb:B.length=3128) (lx:(az B ps).length=3128) (hj:j<3128)
  (he:kO B (ps++[((j:Int),x)])=kO B ps++[((j:Int),aa)]) (ae:az B (ps++[((j:Int),x)])=(az B ps).set j x) (aj:Mn (ps++[((j:Int),x)]) 3128)
  (hl:(kO B (ps++[((j:Int),x)])).length=z+1)
  (J:W.ownsRow (b+1) 152 2 (.slice U (z+1) h) (z+1) (je (kO B ps)++[.int .i64 (j:Int),.int .u64 aa]))
  (G:(w.alloc o).drew.grownBy W V.ownBlock) (ag:V.ownBlock=some U\/U=w.heap.size+1) (ai:V.ownBlock≠some b):
  jN w b gp B (ps++[((j:Int),x)]) (.returned (.tuple #[])) ((W.setCell ⟨b,6256,none⟩ (.slice U (z+1) h)).setCell ⟨b,3128+j,none⟩ (.int .u64 x)):=by
 have af:ay [gp] w W:=((ay.refl [gp] w).alloc o).drew.trans (ay.of_grown (l:=[gp]) G (by intro k hk;rw[hg k hk];simp));have ak:bc W b (gW B (az B ps) V) 122 :=by
  have h1:bc (w.alloc o).drew b (gW B (az B ps) V) 122 :=hb.alloc o;have ah:=h1.lt;unfold bc at h1 ⊢;rw[<-h1];exact G.block b ah (λe=>ai e.symm)
 have ar:b≠U:=by have :=dO J U rfl;omega
 have ac:∀(u v:Value),ay [b] W ((W.setCell ⟨b,6256,none⟩ u).setCell ⟨b,3128+j,none⟩ v):=λu v=>((ay.refl [b] _).setCell (by simp) _).setCell (by simp) _
 refine⟨rfl,U,?_,⟨⟨lb,?_,.slice U (z+1) h,?_,?_,?_⟩,aj⟩,?_⟩
 ·rcases ag with e|e
  ·exact .inl (hg _ e)
  ·refine .inr ⟨by omega,?_⟩
   have :=(J.lt U rfl).2;simpa[World.setCell] using this
 ·rw[ae,dg];exact lx
 ·have :=(ak.set 6256 (.slice U (z+1) h)).set (3128+j) (.int .u64 x)
  rw[AY _ lb lx,AX _ lb (by omega)] at this;rw[ae];exact this
 ·rw[hl,he,uz]
  exact ey J (ac _ _) (by intro k hk;cases hk;simpa using cV ar)
 ·intro k hk;cases hk;rfl
 ·exact(af.mono).trans (ac _ _)
theorem o7 (h:eN w b gp B ps)(hn:ps.length<=1000000)(i x:Int):
  Calls prog 47 #[b,i,.int .u64 x] w (jN w b gp B (z6 ps i x)):=by
 have HI:=ar (AZ i w);unfold z6;cases V:Sc i
 ·rw[V] at HI
  rw[aA (by simp)];have HM:Hid (jN w b gp B ps (.returned (.tuple #[])) w):=⟨rfl,gp,.inl rfl,h,ay.refl _ _⟩;clear V h;go_in;go_wp2_with(go_at_call 100;refine C' HI.out ?_);go_end0;exact HM.out
 ·rw[V] at HI
  rw[aB rfl];obtain⟨h0,h1⟩:=ub.1 V;clear V;obtain⟨j,rfl⟩:=cz h0;obtain⟨⟨lb,lx,vp,J,hr,hg⟩,inp⟩:=h;obtain⟨i0,V,ah,ae,ag⟩:=df Tryz.info_put;have hj:j<3128:=by omega
  have c1:w.cell? ⟨b,6256,none⟩=some vp:=by rw[J.cell,uL _ lb lx]
  have c2:w.cell? ⟨b,3128+j,none⟩=some (.int .u64 ((az B ps).getD j 0)):=by rw[J.cell,Ci _ lb (by omega)]
  have f1:w.frozen? ⟨b,6256,none⟩=false:=J.frozen _;have f2:w.frozen? ⟨b,3128+j,none⟩=false:=J.frozen _;have F1:∀o,(w.alloc o).drew.frozen? ⟨b,6256,none⟩=false:=λo=>(J.alloc o).frozen _
  have F2:∀o,(w.alloc o).drew.frozen? ⟨b,3128+j,none⟩=false:=λo=>(J.alloc o).frozen _
  have ax:=J.lt;have E2:∀o,(w.alloc o).drew.cell? ⟨b,3128+j,none⟩=some (.int .u64 ((az B ps).getD j 0)):=λo=>by rw[<-c2];exact aO (w:=w) (jF _ _ _ J.lt)
  have n1:¬3128+j=6256:=by omega
  have E1:∀o,(w.alloc o).drew.cell? ⟨b,6256,none⟩=some vp:=λo=>by rw[<-c1];exact aO (w:=w) (jF _ _ _ J.lt)
  have U:vp.ownBlock≠some b:=λe=>by have :=dO hr b e;omega
  obtain⟨a,cap,hv,q1,q2⟩:=iT hr;rw[sK] at hr hv q1;have HE:=ar (Mt B ps (j:Int) x);have Xn:Hid (az B (ps++[((j:Int),x)])=(az B ps).set j x):=by show az B _=_;rw[br];rfl
  have EP:Hid (Mn (ps++[((j:Int),x)]) 3128):=PS inp (aa8 h0 h1);have HL:Hid ((kO B (ps++[((j:Int),x)])).length=ps.length+1):=by show List.length _=_;rw[sK];simp
  rw[aF] at HE;subst hv;obtain⟨HB,HR,HG,LB,LX⟩:=hh5 J hr hg lb lx;clear J hr hg lb lx inp;generalize (az B ps).getD j 0=ac,aa:ps.length=n at *;have zB:=ar aa;clear aa;unfold maxLen at q2;go_in;go_wp2_with fail;refine C' HI.out ?_;go_wp2_with fail
  go_region_law ((refine step_append_lies _ (by rfl) _ _ _ (by rfl) (b+1) 152 i0 _ 2 16 underlying120 V ah ae ag rfl (by omega) (.slice a n cap) n _ (by rfl) ((HR.out.alloc _).drew) ⟨w.heap.size,0,none⟩ 1 1 [.int .i64 (j:Int),.int .u64 ac] (by rfl) (by rfl) (lu w [_,_] _ _ rfl) (by simp[Value.oneCell']) (by omega) (by unfold maxLen;omega) (by omega) (by simp;omega) (w.heap.size+1) (by simp) ?_;intro Fz aj w1 G z W af;have ai:=(z.cell_far ⟨b,6256,none⟩ (by simp;omega) (cV U)).trans (E1 _);have au:=(z.frozen_far ⟨b,6256,none⟩ (by simp;omega) (cV U)).trans (F1 _);have av:=(z.cell_far ⟨b,3128+j,none⟩ (by simp;omega) (cV U)).trans (E2 _);have ak:=(z.frozen_far ⟨b,3128+j,none⟩ (by simp;omega) (cV U)).trans (F2 _)))
  all_goals
   have HM:=ar (Xm HB.out HG.out LB.out LX.out hj HE.out Xn.out EP.out HL.out G z W U);clear G z W af ai;go_wp2;go_end0;exact HM.out
theorem kP.setW{G:List (Int×Int)}(h:kP w b z B X G)(i:Nat)(hi:i<3128)(x:Int):kP (w.setCell ⟨b,3128+i,none⟩ (.int .u64 x)) b z B (X.set i x) G:=by
 obtain⟨lb,lx,W,U,J,h3⟩:=h;refine⟨lb,by rw[dg];exact lx,W,?_,?_,h3⟩
 ·have :=U.set (3128+i) (.int .u64 x)
  rwa[AX _ lb (by omega)] at this
 ·refine ey J (l:=[b]) ((ay.refl [b] _).setCell (by simp) _) λk V=> ?_
  have :=dO J k V;simp;omega
theorem kP.drew{z:List (Int×Int)}(h:kP w b G B X z):kP w.drew b G B X z:=h.keep ((ay.refl [] w).drew)
theorem kP.note{z:List (Int×Int)}(h:kP w b G B X z){k:Nat}(U:k<z.length):
  ∃cap,w.cell? ⟨b,6256,none⟩=some (.slice G z.length cap)/\z.length<=cap/\cap<=maxLen/\w.cell? ⟨G,k*2,none⟩=some (.int .i64 (jo z k))/\w.cell? ⟨G,k*2+1,none⟩=some (.int .u64 (rA z k)):=by
 obtain⟨lb,lx,vp,V,h2,h3⟩:=h;obtain⟨g,ho,W⟩:=fw.of_row h2;obtain⟨aa,⟨cap,hv,q1,q2⟩,J,-⟩:=ho.cell (by omega);obtain rfl:g=G:=h3 g (W (by omega)).2;subst hv;refine⟨cap,by rw[V.cell,uL _ lb lx],q1,q2,?_,?_⟩
 ·rw[J _ (by omega)];exact(p9 z k U).1
 ·rw[J _ (by omega)];exact(p9 z k U).2
theorem kP.slice{J:Nat}{z:List (Int×Int)}(h:kP w b J B X z):
  ∃a cap,w.cell? ⟨b,6256,none⟩=some (.slice a z.length cap)/\w.frozen? ⟨b,6256,none⟩=false/\z.length<=cap/\cap<=maxLen:=by
 obtain⟨lb,lx,V,G,U,W⟩:=h;obtain⟨a,cap,rfl,q1,q2⟩:=iT U;exact⟨a,cap,by rw[G.cell,uL _ lb lx],G.frozen _,q1,q2⟩
theorem Mw (z:List (Int×Int))(m:Nat)(h:m<=z.length):(je z).take (m*2)=je (z.take m):=by
 have e:je z=je (z.take m)++je (z.drop m):=by rw[<-uz,dx]
 rw[e,List.take_left' (by rw[sJ,aJ,cZ h])]
theorem kP.cut{G:List (Int×Int)}(h:kP w b gp B X G)(m:Nat)(U:m<=G.length){a:Option Addr}{n cap:Nat}(hc:w.cell? ⟨b,6256,none⟩=some (.slice a n cap)):
  kP (w.setCell ⟨b,6256,none⟩ (.slice a m cap)) b gp B X (G.take m):=by
 obtain⟨lb,lx,vp,h1,h2,h3⟩:=h;rw[h1.cell,uL _ lb lx] at hc;cases hc;refine⟨lb,lx,.slice a m cap,?_,?_,?_⟩
 ·have :=h1.set 6256 (.slice a m cap)
  rwa[AY _ lb lx] at this
 ·have z:ay [b] w (w.setCell ⟨b,6256,none⟩ (.slice a m cap)):=(ay.refl [b] _).setCell (by simp) _
  obtain⟨h4,h5⟩:=h2;rw[aJ,cZ U];refine⟨by rw[sJ,aJ,cZ U],?_⟩;rcases h5 with ⟨e,e'⟩|⟨g,V,J,e,hg,W,q2,q3,q4,q5⟩
  ·cases e
   obtain rfl:m=0:=by omega
   exact .inl ⟨rfl,rfl⟩
  ·cases e
   refine .inr ⟨g,cap,J,rfl,hg,?_,by omega,q3,q4,?_⟩
   ·rw[<-W]
    exact z.block g (Array.getElem?_eq_some_iff.1 W).1 (by simp;omega)
   ·rw[<-Mw _ _ U,<-q5,List.take_take,cZ (by omega)]
 ·intro k z
  cases a with
  |none=>cases z
  |some ad=>exact h3 k z
def Mx (w:World) (b h:Nat) (B:List Int) (ps:List (Int×Int)) (e:Ending) (w':World):Prop:=
 e= .returned (.tuple #[])/\eN w' b h B ps/\ay [b] w w'
theorem TL (h:eN w b gp B ps)(m:Int):
  Calls prog 104 #[b,m] w (Mx w b gp B (ps.take (Fx m ps.length))):=by
 have EP:=ar h.inp;have ae:Hid (kP w b gp B (az B (ps.take ps.length)) (kO B ps)):=by rw[aW (aI _)];exact h.raw
 obtain⟨a,cap,G,f0,q1,q2⟩:=h.raw.slice;have hm:=Xl m ps.length;have ak:=Jm m ps.length;clear h;rw[sK] at *;unfold maxLen at q2;generalize Fx m ps.length=q at *;generalize ah:ps.length=n at *;have W:=ar ah;clear ah;have V:Hid ((kO B ps).length=n):=by rw[<-W.out];exact sK B ps
 have ai:(m<0/\q=0)\/(0<=m/\m<=(n:Int)/\m=(q:Int))\/((n:Int)<m/\0<=m/\q=n):=by omega
 clear ak;rcases ai with ⟨k1,rfl⟩|⟨k1,k2,rfl⟩|⟨k1,k2,rfl⟩
 ·go_in
  go_wp2_with fail;clear G f0;go_loopg [5] (n-0) (λgh s5 wx=>∃k:Nat,k=0+gh/\k<=n/\s5= .int .i64 ((k:Int)-1)/\Hid (kP wx b gp B (az B (ps.take k)) (kO B ps)/\ay [b] w wx))
  case atStart=>exact⟨n,by omega,by omega,rfl,ae.out,ay.refl _ _⟩
  case round=>
   obtain⟨k,hk,ag,rfl,U⟩:=hrel;cases gk with
   |zero=>
    obtain rfl:k=0:=by omega
    have aa:¬((0:Int)<=((0:Nat):Int)-1):=by omega
    obtain⟨z,J⟩:=U.out;obtain⟨a,cap,G,f0,q1,q2⟩:=z.slice;have HC:=ar (z.cut 0 (by rw[V.out];omega) G);rw[V.out] at G q1;unfold maxLen at q2;rw[xA _ _ _ (by rw[W.out];omega)] at HC;obtain⟨HT,jD⟩:=hh2 (Fv EP.out 0) J;have b1:(0:Int)<=(n:Int):=by omega
    have b2:(0:Int)<=(cap:Int):=by omega
    clear z J U hk;go_wp2;go_end0;exact⟨rfl,⟨HC.out,HT.out⟩,jD.out.setCell (by simp) _⟩
   |succ g=>
    obtain⟨k,rfl⟩:∃k',k=k'+1:=⟨k-1,by omega⟩;have ek:((k+1:Nat):Int)-1=(k:Int):=by omega
    rw[ek];clear ek;have aa:(0:Int)<=(k:Int):=by omega
    have cM:(0:Int)<=(k:Int):=by omega
    have aj:(k:Int)<(n:Int):=by omega
    obtain⟨z,J⟩:=U.out;obtain⟨af,G,q1,q2,c1,c2⟩:=z.note (k:=k) (by rw[V.out];omega);obtain⟨e1,e2⟩:=Fw B ps k (by rw[W.out];omega);obtain⟨x0,x1⟩:=yI EP.out (k:=k) (by rw[W.out];omega);have HU:=ar (Mu B ps k (by rw[W.out];omega));rw[e1] at c1;rw[e2] at c2;clear e1 e2;rw[V.out] at G q1;unfold maxLen at q2;generalize jo ps k=x at *;generalize (az B (ps.take k)).getD x.toNat 0=ac at *;obtain⟨j,rfl⟩:=cz x0;rw[aF] at HU;have x2:(j:Int)<3128:=x1;have hj:j<3128:=by omega
    have d1:=z.cell1 hj;have d2:wr.frozen? ⟨b,3128+j,none⟩=false:=by obtain⟨lb,lx,vp,h1,h2,h3⟩:=z;exact h1.frozen _
    obtain⟨HS,jD⟩:=hh2 (z.drew.setW j hj ac) J;generalize (az B (ps.take (k+1))).getD j 0=au at *;clear z J U x1;go_wp2_with fail
    go_still_tail 20,(by kernel_rfl)
    go_wp2;go_roundg g;case measure=>omega
    case rel=>
     refine⟨k,by omega,by omega,by first|rfl|go_num,?_,jD.out.drew.setCell (by simp) _⟩;have :=HS.out;rw[HU.out] at this;exact this
 ·go_in
  go_wp2_with fail;clear G f0;go_loopg [5] (n-q) (λgh s5 wx=>∃k:Nat,k=q+gh/\k<=n/\s5= .int .i64 ((k:Int)-1)/\Hid (kP wx b gp B (az B (ps.take k)) (kO B ps)/\ay [b] w wx))
  case atStart=>exact⟨n,by omega,by omega,rfl,ae.out,ay.refl _ _⟩
  case round=>
   obtain⟨k,hk,ag,rfl,U⟩:=hrel;cases gk with
   |zero=>
    obtain rfl:q=k:=by omega
    have aa:¬((q:Int)<=(q:Int)-1):=by omega
    obtain⟨z,J⟩:=U.out;obtain⟨a,cap,G,f0,q1,q2⟩:=z.slice;have HC:=ar (z.cut q (by rw[V.out];omega) G);rw[V.out] at G q1;unfold maxLen at q2;rw[xA _ _ _ (by rw[W.out];omega)] at HC;obtain⟨HT,jD⟩:=hh2 (Fv EP.out q) J;have b1:(q:Int)<=(n:Int):=by omega
    have b2:(q:Int)<=(cap:Int):=by omega
    clear z J U hk;go_wp2;go_end0;exact⟨rfl,⟨HC.out,HT.out⟩,jD.out.setCell (by simp) _⟩
   |succ g=>
    obtain⟨k,rfl⟩:∃k',k=k'+1:=⟨k-1,by omega⟩;have ek:((k+1:Nat):Int)-1=(k:Int):=by omega
    rw[ek];clear ek;have aa:(q:Int)<=(k:Int):=by omega
    have cM:(0:Int)<=(k:Int):=by omega
    have aj:(k:Int)<(n:Int):=by omega
    obtain⟨z,J⟩:=U.out;obtain⟨af,G,q1,q2,c1,c2⟩:=z.note (k:=k) (by rw[V.out];omega);obtain⟨e1,e2⟩:=Fw B ps k (by rw[W.out];omega);obtain⟨x0,x1⟩:=yI EP.out (k:=k) (by rw[W.out];omega);have HU:=ar (Mu B ps k (by rw[W.out];omega));rw[e1] at c1;rw[e2] at c2;clear e1 e2;rw[V.out] at G q1;unfold maxLen at q2;generalize jo ps k=x at *;generalize (az B (ps.take k)).getD x.toNat 0=ac at *;obtain⟨j,rfl⟩:=cz x0;rw[aF] at HU;have x2:(j:Int)<3128:=x1;have hj:j<3128:=by omega
    have d1:=z.cell1 hj;have d2:wr.frozen? ⟨b,3128+j,none⟩=false:=by obtain⟨lb,lx,vp,h1,h2,h3⟩:=z;exact h1.frozen _
    obtain⟨HS,jD⟩:=hh2 (z.drew.setW j hj ac) J;generalize (az B (ps.take (k+1))).getD j 0=au at *;clear z J U x1;go_wp2_with fail
    go_still_tail 20,(by kernel_rfl)
    go_wp2;go_roundg g;case measure=>omega
    case rel=>
     refine⟨k,by omega,by omega,by first|rfl|go_num,?_,jD.out.drew.setCell (by simp) _⟩;have :=HS.out;rw[HU.out] at this;exact this
 ·go_in
  go_wp2_with fail;clear G f0;go_loopg [5] (q-q) (λgh s5 wx=>∃k:Nat,k=q+gh/\k<=q/\s5= .int .i64 ((k:Int)-1)/\Hid (kP wx b gp B (az B (ps.take k)) (kO B ps)/\ay [b] w wx))
  case atStart=>exact⟨q,by omega,by omega,rfl,ae.out,ay.refl _ _⟩
  case round=>
   obtain⟨k,hk,ag,rfl,U⟩:=hrel;cases gk with
   |zero=>
    obtain rfl:q=k:=by omega
    have aa:¬((q:Int)<=(q:Int)-1):=by omega
    obtain⟨z,J⟩:=U.out;obtain⟨a,cap,G,f0,q1,q2⟩:=z.slice;have HC:=ar (z.cut q (by rw[V.out];omega) G);rw[V.out] at G q1;unfold maxLen at q2;rw[xA _ _ _ (by rw[W.out];omega)] at HC;obtain⟨HT,jD⟩:=hh2 (Fv EP.out q) J;have b1:(q:Int)<=(q:Int):=by omega
    have b2:(q:Int)<=(cap:Int):=by omega
    clear z J U hk;go_wp2;go_end0;exact⟨rfl,⟨HC.out,HT.out⟩,jD.out.setCell (by simp) _⟩
   |succ g=>omega
theorem PX{z:List (Int×Int)}(h:kP w b V B X z):
  Calls prog 102 #[b] w λe w'=>e=(z.length:Int)/\w=w':=by
 obtain⟨lb,lx,U,G,J,W⟩:=h;have hc:w.cell? ⟨b,6256,none⟩=some U:=by rw[G.cell,uL _ lb lx]
 obtain⟨a,cap,rfl,q1,q2⟩:=iT J;clear G J W lb lx;generalize z.length=n at *;go_in;go_wp2;go_ret;exact⟨rfl,rfl⟩
theorem TM (h:eN w b z B ps):
  Calls prog 102 #[b] w λe w'=>e=(ps.length:Int)/\w=w':=by
 have :=PX h.raw;rw[sK] at this;exact this
end
end Go.Proofs.YtimcfdnbpkiniaaGreatDoor
