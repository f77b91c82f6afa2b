/- Lemmas. -/
import Derived.Test.YtimcfdnbpkiniaaGreatDoorM16
import Derived.Lib.Bytealg
set_option maxHeartbeats 4000000
set_option maxRecDepth 100000
namespace Go.Proofs.YtimcfdnbpkiniaaGreatDoor
open Go.Proofs.Tryz
open Go.RowKit
section
variable{T:List (bS×Value)}{d i:Int}{R:List Int}{cap g k n:Nat}{a b nm:ByteArray}{A B E M:List (ByteArray×Int)}{w:World}{v:Value}
def oO (T:List (bS×Value)) (a:Int):List Int:=if 0<=a/\a<32 then (nT T a.toNat).E.map (·.2) else []
inductive Reach (T:List (bS×Value)) (d:Int):Int->Prop
 |here:Reach T d d
 |step {a b:Int}:Reach T d a->b∈oO T a->Reach T d b
def aeK (T:List (bS×Value)):Prop:=∀i,(nT T i).F=0->(nT T i).E=[]
def Q0 (T:List (bS×Value)):Prop:=∀a,∀b∈oO T a,0<=b/\b<32
theorem ahj (U:aeK T)(hR:ahi T)(hF:∀i:Nat,i<32->0<=(nT T i).F):Q0 T:=λa b h=>by
 unfold oO at h;split at h
 ·next ha=>
  have h1:=hF a.toNat (by omega);by_cases V:(nT T a.toNat).F=0
  ·rw[U _ V] at h;simp at h
  ·obtain⟨k,z,J⟩:=b9 h
   rw[b7] at z;rw[iN] at J;rcases (hR a.toNat (by omega) (by omega)).2.2 with ⟨-,G⟩|⟨-,G⟩
   ·have :=G.2.1;omega
   ·have W:=(G.2.2.2 k z).2.1
    have e:jq (nT T a.toNat).E k=b:=by
     rw[<-J];simp[jq,z]
    rw[e] at W;omega
 ·simp at h
theorem Reach.rng(z:Q0 T){d x:Int}(h:Reach T d x):x=d\/(0<=x/\x<32):=by
 cases h with
 |here=>exact .inl rfl
 |step _ hb=>exact .inr (z _ _ hb)
theorem Reach.closed{P:Int->Prop}(G:P d)(z:∀a,P a->∀b∈oO T a,P b){x:Int}(h:Reach T d x):P x:=by
 induction h with
 |here=>exact G
 |step _ hb ih=>exact z _ ih _ hb
theorem JW:∀(l m:List Int),l.Nodup->(∀x∈l,x∈m)->l.length<=m.length
 | [],_,_,_=>fD _
 |a::l,m,hn,h=>by
  have J:=List.nodup_cons.1 hn;have G:=h a (by simp);have V:=JW l (m.erase a) J.2 λx U=>by
   have z:x≠a:=λe=>J.1 (e▸U)
   exact(List.mem_erase_of_ne z).2 (h x (by simp[U]))
  rw[List.length_erase_of_mem G] at V;have :m.length≠0:=λe=>by rw[bg e] at G;simp at G
  rw[cA];omega
structure rS (T:List (bS×Value)) (d i:Int) (R:List Int) (k:Nat):Prop where
 nodup:R.Nodup
 reach:∀x∈R,Reach T d x
 first:d∈R
 le:k<=R.length
 done:∀j,j<k->∀x,R[j]? =some x->x≠i/\∀b∈oO T x,b∈R
theorem rS.start(T:List (bS×Value))(d i:Int):rS T d i [d] 0:=
 ⟨List.nodup_cons.2 ⟨by simp,List.nodup_nil⟩,λx h=>by rw[au] at h;subst h;exact .here,by simp,fD _,λj z=>by omega⟩
theorem rS.len(J:Q0 T){d i:Int}{R:List Int}{k:Nat}(h:rS T d i R k):R.length<=33:=by
 have z:=JW R (d::(List.range 32).map λn:Nat=>(n:Int)) h.nodup λx G=>by
  rcases (h.reach x G).rng J with e|⟨z,U⟩
  ·rw[e];simp
  ·refine List.mem_cons_of_mem _ (bH.2 ⟨x.toNat,cu.2 (by omega),by omega⟩)
 rw[cA,b7,fK] at z;exact z
theorem rS.found(h:rS T d i R k){x:Int}(z:R[k]? =some x)(e:x=i):Reach T d i:=by
 rw[<-e];exact h.reach x (List.mem_of_getElem? z)
theorem rS.ended(h:rS T d i R k)(U:k=R.length):¬Reach T d i:=λV=>by
 subst U;have hm:∀x,Reach T d x->x∈R:=λx G=>Reach.closed (P:=λx=>x∈R) h.first (λa W b J=>by
  obtain⟨j,z,e⟩:=b9 W;exact(h.done j z a (by rw[aD z,e])).2 b J) G
 obtain⟨j,z,e⟩:=b9 (hm i V);exact(h.done j z i (by rw[aD z,e])).1 rfl
theorem rS.more(h:rS T d i R k){x b:Int}(J:R[k]? =some x)(U:b∈oO T x)(hn:b∉R):rS T d i (R++[b]) k/\(R++[b])[k]? =some x:=by
 have hk:k<R.length:=(List.getElem?_eq_some_iff.1 J).1;refine⟨⟨?_,λy G=> ?_,by simp[h.first],by rw[aC];have :=h.le;omega,λj hj y G=> ?_⟩,by rw[bh hk,J]⟩
 ·rw[List.nodup_append]
  refine⟨h.nodup,List.nodup_cons.2 ⟨by simp,List.nodup_nil⟩,λy G z V e=> ?_⟩;rw[au] at V;rw[V] at e;exact hn (e▸G)
 ·rcases aR.1 G with G|G
  ·exact h.reach y G
  ·rw[au] at G
   subst G;exact .step (h.reach x (List.mem_of_getElem? J)) U
 ·rw[bh (by omega)] at G
  obtain⟨W,h2⟩:=h.done j hj y G;exact⟨W,λb U=>by simp[h2 b U]⟩
theorem rS.next(h:rS T d i R k){x:Int}(U:R[k]? =some x)(G:x≠i)(z:∀b∈oO T x,b∈R):rS T d i R (k+1):=by
 have V:k<R.length:=(List.getElem?_eq_some_iff.1 U).1;refine⟨h.nodup,h.reach,h.first,by omega,λj W y J=> ?_⟩;by_cases e:j=k
 ·subst e
  rw[U] at J;cases J;exact⟨G,z⟩
 ·exact h.done j (by omega) y J
def mk (S:List Bool) (x:Int):Bool:=S.getD x.toNat false
end
section
variable{T:List (bS×Value)}{d i:Int}{R:List Int}{cap g k n:Nat}{a b nm:ByteArray}{A B E M:List (ByteArray×Int)}{w:World}{v:Value}
def JX (a b:ByteArray):Prop:=Op.bytesLess a.toList b.toList=true
def wJ (a b:ByteArray):Int:=Lib.compareBytes a.data.toList b.data.toList
theorem JY (h:a.toList=b.toList):a=b:=by
 rw[jw,jw] at h;exact ByteArray.ext (Array.toList_inj.1 h)
theorem uF:∀a b:List UInt8,(Lib.compareBytes a b<0↔Op.bytesLess a b=true)/\(Lib.compareBytes a b=0↔a=b)
 | [],[]=>by simp[Lib.compareBytes,Op.bytesLess]
 | [],_::_=>by simp[Lib.compareBytes,Op.bytesLess]
 |_::_,[]=>by simp[Lib.compareBytes,Op.bytesLess]
 |x::a,y::b=>by
  have U:=uF a b;unfold Lib.compareBytes;by_cases z:x<y
  ·have h:x≠y:=λe=>by rw[e,gZ] at z;omega
   simp[z,h,Op.bytesLess]
  ·by_cases G:y<x
   ·have h:x≠y:=λe=>z (by rw[e] at G;exact absurd G (by rw[gZ];omega))
    simp[z,G,h,Op.bytesLess]
   ·have J:x=y:=by
     rw[gZ] at z G;exact UInt8.toNat_inj.1 (by omega)
    subst J;simp only[z,if_false,Op.bytesLess,BEq.rfl,Bool.true_and,decide_false,Bool.false_or,List.cons.injEq,true_and];exact U
theorem Y0 (a b:ByteArray):wJ a b<0↔JX a b:=by
 unfold wJ JX;rw[jw,jw];exact(uF _ _).1
theorem Vn (a b:ByteArray):wJ a b=0↔a=b:=by
 unfold wJ;rw[(uF _ _).2];exact⟨λh=>ByteArray.ext (Array.toList_inj.1 h),λh=>by rw[h]⟩
theorem mo (a:ByteArray):¬JX a a:=λh=>by
 unfold JX at h;rw[oM] at h;cases h
theorem vz{c:ByteArray}(h:JX a b)(k:JX b c):JX a c:=ot _ _ _ h k
theorem tz (h:JX a b):a≠b:=λe=>mo b (by rw[e] at h;exact h)
theorem Vo (a b:ByteArray):JX a b\/a=b\/JX b a:=by
 by_cases h:JX a b
 ·exact .inl h
 ·by_cases e:a=b
  ·exact .inr (.inl e)
  ·refine .inr (.inr (sY _ _ ?_ λz=>e (JY z)))
   unfold JX at h;simpa using h
def yc (E:List (ByteArray×Int)):Prop:=E.Pairwise λp q=>JX p.1 q.1
structure iH (E A M B:List (ByteArray×Int)) (nm:ByteArray):Prop where
 eq:E=A++(M++B)
 ahead:∀p∈A,JX p.1 nm
 behind:∀p∈B,JX nm p.1
 one:M=[]\/∃i,M=[(nm,i)]
theorem lA:∀{E:List (ByteArray×Int)},yc E->∀nm,∃A M B,iH E A M B nm
 | [],_,nm=>⟨[],[],[],rfl,by simp,by simp,.inl rfl⟩
 |p::E,h,nm=>by
  have J:=List.pairwise_cons.1 h;obtain⟨A,M,B,G⟩:=lA J.2 nm;rcases Vo p.1 nm with W|U|V
  ·refine⟨p::A,M,B,by rw[G.eq];rfl,?_,G.behind,G.one⟩
   intro q z;rcases aM.1 z with rfl|z
   ·exact W
   ·exact G.ahead q z
  ·refine⟨[],[p],E,rfl,by simp,λq z=> ?_,.inr ⟨p.2,by rw[<-U]⟩⟩
   rw[<-U];exact J.1 q z
  ·refine⟨[],[],p::E,rfl,by simp,λq z=> ?_,.inl rfl⟩
   rcases aM.1 z with rfl|z
   ·exact V
   ·exact vz V (J.1 q z)
theorem JZ{n:bS}(h:oW n):yc n.E:=by
 unfold yc;rw[dh];intro i j U J G;have :=Gu (λk z V=>(h.2.2.2 k z).2.2 V) j i G J;have e:∀k (z:k<n.E.length),n.E[k]=(eY n.E k,jq n.E k):=λk z=>by simp[eY,jq,z]
 rw[e i U,e j J];exact this
theorem iH.rises(h:iH E A M B nm)(U:yc E)(M':List (ByteArray×Int))(V:M'=[]\/∃i,M'=[(nm,i)]):yc (A++(M'++B)):=by
 unfold yc at U ⊢;rw[h.eq,List.pairwise_append,List.pairwise_append] at U;rw[List.pairwise_append,List.pairwise_append];obtain⟨r1,⟨-,W,-⟩,r5⟩:=U;have G:∀q∈M',q.1=nm:=λq z=>by
  rcases V with rfl|⟨i,rfl⟩
  ·simp at z
  ·rw[au] at z;rw[z]
 refine⟨r1,⟨?_,W,λp J q z=>by rw[G p J];exact h.behind q z⟩,λp J q z=> ?_⟩
 ·rcases V with rfl|⟨i,rfl⟩
  ·exact List.Pairwise.nil
  ·exact List.pairwise_singleton _ _
 ·rcases aR.1 z with z|z
  ·rw[G q z];exact h.ahead p J
  ·exact vz (h.ahead p J) (h.behind q z)
theorem iH.at(h:iH E A M B nm)(k:Nat)(hk:k<E.length):(JX (eY E k) nm↔k<A.length)/\(eY E k=nm↔k=A.length/\M≠[]):=by
 have hE:E.length=A.length+(M.length+B.length):=by rw[h.eq,aC,aC]
 have hM:M.length<=1:=by rcases h.one with e|⟨i,e⟩<;>rw[e]<;>simp
 have J:(eY E k,jq E k)=E[k]:=by simp[eY,jq,hk]
 have h1:eY E k=E[k].1:=by rw[<-J]
 by_cases V:k<A.length
 ·have e:E[k]=A[k]:=by simp only[h.eq];rw[List.getElem_append_left V]
  have z:=h.ahead _ (bM V);rw[<-e,<-h1] at z;exact⟨⟨λ_=>V,λ_=>z⟩,⟨λe=>absurd e (tz z),λe=>by omega⟩⟩
 ·by_cases hm:k<A.length+M.length
  ·have cM:k=A.length:=by omega
   have G:M≠[]:=λe=>by rw[e] at hm;simp at hm;omega
   have e:eY E k=nm:=by
    obtain⟨i,e⟩:=h.one.resolve_left G;have :E[k]? =some (nm,i):=by
     rw[h.eq,e,cM,aT (by omega)];simp
    rw[aD hk,Option.some_inj] at this;rw[h1,this]
   exact⟨⟨λz=>absurd e (tz z),λh=>absurd h V⟩,⟨λ_=>⟨cM,G⟩,λ_=>e⟩⟩
  ·have U:k-A.length-M.length<B.length:=by omega
   have e:E[k]? =some B[k-A.length-M.length]:=by
    rw[h.eq,aT (by omega),aT (by omega),aD U]
   rw[aD hk,Option.some_inj] at e;have z:=h.behind _ (bM U);rw[<-e,<-h1] at z;refine⟨⟨λW=>absurd (vz W z) (mo _),λW=>absurd W V⟩,⟨λe2=>absurd e2.symm (tz z),λ⟨W,h3⟩=> ?_⟩⟩;have :M.length≠0:=λe=>h3 (bg e)
   omega
def ba:List (ByteArray×Int)->ByteArray->Int
 | [],_=> -1
 |p::E,nm=>if p.1=nm then p.2 else ba E nm
theorem CX:∀(A E:List (ByteArray×Int)) (nm:ByteArray),(∀p∈A,p.1≠nm)->ba (A++E) nm=ba E nm
 | [],_,_,_=>rfl
 |p::A,E,nm,h=>by
  show(if p.1=nm then p.2 else ba (A++E) nm)=_;rw[aA (h p (by simp))];exact CX A E nm λq z=>h q (by simp[z])
theorem Aq (E:List (ByteArray×Int))(nm:ByteArray)(h:∀p∈E,p.1≠nm):ba E nm= -1:=by
 have :=CX E [] nm h;rw[bz] at this;exact this
theorem NT (a b:ByteArray)(w:World):Calls prog 233 #[.string a,.string b] w λe w'=>e=(wJ a b:Int)/\w=w':=by
 go_in;go_wp2;rw[run_callFunc_extern func239 (by kernel_rfl) (by kernel_rfl) (by kernel_rfl) (e:=Extern.BytealgCompare.compare) (by kernel_rfl),Lib.run_compareString];simp only[Result.andThen];rw[Oper.upon_value];go_wp2;go_ret;exact⟨rfl,rfl⟩
theorem Bw (a b:ByteArray)(w:World):Calls prog 219 #[.string a,.string b] w λe w'=>e=(wJ a b:Int)/\w=w':=by
 have h:=λz=>NT a b z
 generalize wJ a b=r at h ⊢;go_in;go_wp2_with fail;refine C' (h _) ?_;go_wp2;go_ret;exact⟨rfl,rfl⟩
theorem NU (a nm:ByteArray)(x:Int)(w:World):Calls prog 218 #[.agg #[.string a,x],.string nm] w λe w'=>e=(wJ a nm:Int)/\ay [] w w':=by
 have h:=λz=>Bw a nm z
 generalize wJ a nm=r at h ⊢;have G:Hid (ay [] w (w.alloc (.cells #[.string a,x] 99))):=(ay.refl [] w).alloc _;go_in;go_wp2_with fail;refine C' (h _) ?_;go_wp2;go_ret;exact⟨rfl,G.out⟩
def lK (w:World) (A M:List (ByteArray×Int)) (e:Ending) (w':World):Prop:=e= .returned (.tuple #[(A.length:Int),(!M.isEmpty:Bool)])/\ay [] w w'
theorem Vp (hE:bD w v g E)(hs:iH E A M B nm)(Y1:E.length<=1000):
  Calls prog 217 #[v,.string nm,.func (.func 218) #[] #[]] w (lK w A M):=by
 have J0:Hid (∀w',ay [] w w'->lK w A M (.returned (.tuple #[(A.length:Int),(!M.isEmpty:Bool)])) w'):=λw' h=>⟨rfl,h⟩
 have aa:=ar (hs.at);have ai:A.length<=E.length:=by rw[hs.eq,aC];omega
 obtain⟨a,cap,rfl,aj,af,zr⟩:=hE.open;have UR:Hid (∀(x:ByteArray) (y:Int) (wx:World),Calls prog 218 #[.agg #[.string x,(y:Int)],.string nm] wx λe w'=>e=(wJ x nm:Int)/\ay [] wx w'):=λx y wx=>NU x nm y wx
 have W7:Hid (∀k,k<E.length->(wJ (eY E k) nm<0↔k<A.length)/\(wJ (eY E k) nm=0↔k=A.length/\M≠[])):=λk hk=>⟨(Y0 _ _).trans (aa.out k hk).1,(Vn _ _).trans (aa.out k hk).2⟩
 have V:Hid (M≠[]->A.length<E.length):=λh=>by
  have :M.length≠0:=λe=>h (bg e)
  have e:=cP List.length hs.eq;rw[aC,aC] at e;omega
 unfold maxLen at af;have Y2:Hid ((M.isEmpty=true/\M=[])\/(M.isEmpty=false/\M≠[])):=by
  show _\/_;cases M with
  |nil=>exact .inl ⟨rfl,rfl⟩
  |cons a b=>exact .inr ⟨rfl,by simp⟩
 clear hs hE aa;generalize hm:E.length=m,hk:A.length=k at *;clear hm hk;go_in;go_wp2_with fail;go_loopg [9,10] m (λgh s9 XA wx=>∃G z:Nat,s9= .int .i64 (G:Int)/\XA= .int .i64 (z:Int)/\G<=k/\k<=z/\z<=m/\z-G<=gh/\Hid (ay [] w wx))
 case atStart=>exact⟨0,m,rfl,rfl,fD _,ai,aI _,by omega,ay.refl _ _⟩
 case round=>
  obtain⟨G,z,rfl,rfl,h1,h2,h3,h4,W⟩:=hrel;by_cases ak:G<z
  ·have ah:(G+z)/2<m:=by omega
   obtain⟨U,off,rfl,d1,d2⟩:=zr.out _ ah;have c0:wr.cell? ⟨g,off+(G+z)/2*2,none⟩=some (.string (eY E ((G+z)/2))):=(aO (w:=w) (a:=⟨g,off+(G+z)/2*2,none⟩) (W.out.block g U (by simp))).trans d1;have c1:wr.cell? ⟨g,off+(G+z)/2*2+1,none⟩=some (.int .i64 (jq E ((G+z)/2))):=(aO (w:=w) (a:=⟨g,off+(G+z)/2*2+1,none⟩) (W.out.block g U (by simp))).trans d2;have hN:=W7.out _ ah;have HC:=ar (UR.out (eY E ((G+z)/2)) (jq E ((G+z)/2)));clear d1 d2;by_cases ag:(G+z)/2<k
   ·have ae:=hN.1.2 ag
    clear hN;generalize wJ (eY E ((G+z)/2)) nm=cv at *;generalize eY E ((G+z)/2)=nk,jq E ((G+z)/2)=ik at *;go_wp2_with fail;refine Rr (HC.out _) λw2 J=> ?_;have fC:=ar (W.out.trans' J);clear J;go_wp2;go_roundg (z-((G+z)/2+1));case measure=>omega
    case rel=>exact⟨(G+z)/2+1,z,by rw[show((G:Int)+(z:Int))/2+1=(((G+z)/2+1:Nat):Int) by omega],rfl,by omega,h2,h3,aI _,fC.out⟩
   ·have ae:¬wJ (eY E ((G+z)/2)) nm<0:=λh=>ag (hN.1.1 h)
    clear hN;generalize wJ (eY E ((G+z)/2)) nm=cv at *;generalize eY E ((G+z)/2)=nk,jq E ((G+z)/2)=ik at *;go_wp2_with fail;refine Rr (HC.out _) λw2 J=> ?_;have fC:=ar (W.out.trans' J);clear J;go_wp2;go_roundg ((G+z)/2-G);case measure=>omega
    case rel=>exact⟨G,(G+z)/2,rfl,by rw[show((G:Int)+(z:Int))/2=(((G+z)/2:Nat):Int) by omega],h1,by omega,by omega,aI _,fC.out⟩
  ·obtain rfl:G=k:=by omega
   obtain rfl:z=G:=by omega
   rcases dF z m with ac|ac
   ·obtain⟨U,off,rfl,d1,d2⟩:=zr.out _ ac
    have c0:wr.cell? ⟨g,off+z*2,none⟩=some (.string (eY E z)):=(aO (w:=w) (a:=⟨g,off+z*2,none⟩) (W.out.block g U (by simp))).trans d1;have c1:wr.cell? ⟨g,off+z*2+1,none⟩=some (.int .i64 (jq E z)):=(aO (w:=w) (a:=⟨g,off+z*2+1,none⟩) (W.out.block g U (by simp))).trans d2;have hN:=W7.out _ ac;have HC:=ar (UR.out (eY E z) (jq E z));clear d1 d2;rcases Y2.out with ⟨e1,e2⟩|⟨e1,e2⟩
    ·have hz:(wJ (eY E z) nm==0)=false:=by
      rw[cg];exact λh=>(hN.2.1 h).2 e2
     have mP:Hid (∀w',ay [] w w'->lK w A M (.returned (.tuple #[(z:Int),false])) w'):=λw' h=>by have :=J0.out w' h;rwa[e1] at this
     clear hN Y2 e1 e2 W7 UR J0 V zr;generalize wJ (eY E z) nm=cv at *;generalize eY E z=nk,jq E z=ik at *;go_wp2_with fail;refine Rr (HC.out _) λw2 J=> ?_;have fC:=ar (W.out.trans' J);clear J;go_wp2;go_ret2;exact mP.out _ fC.out
    ·have hz:(wJ (eY E z) nm==0)=true:=by
      rw[beq_iff_eq];exact hN.2.2 ⟨rfl,e2⟩
     have mP:Hid (∀w',ay [] w w'->lK w A M (.returned (.tuple #[(z:Int),true])) w'):=λw' h=>by have :=J0.out w' h;rwa[e1] at this
     clear hN Y2 e1 e2 W7 UR J0 V zr;generalize wJ (eY E z) nm=cv at *;generalize eY E z=nk,jq E z=ik at *;go_wp2_with fail;refine Rr (HC.out _) λw2 J=> ?_;have fC:=ar (W.out.trans' J);clear J;go_wp2;go_ret2;exact mP.out _ fC.out
   ·have mP:Hid (∀w',ay [] w w'->lK w A M (.returned (.tuple #[(z:Int),false])) w'):=λw' h=>by
     have :=J0.out w' h;rcases Y2.out with ⟨e1,e2⟩|⟨e1,e2⟩
     ·rwa[e1] at this
     ·have :=V.out e2;omega
    have au:¬(z:Int)<(m:Int):=by omega
    clear Y2 W7 UR J0 V zr;go_wp2;go_ret2;exact mP.out _ W.out
theorem J1 (J:bD w v g E)(U:iH E A M B nm)(V:E.length<=1000):
  Calls prog 197 #[v,.string nm] w (lK w A M):=by
 have z:=Vp J U V;unfold lK at z;have HB:=ar z;have W:Hid (∀w',ay [] w w'->lK w A M (.returned (.tuple #[(A.length:Int),(!M.isEmpty:Bool)])) w'):=λw' h=>⟨rfl,h⟩
 clear J U V z;generalize (A.length:Int)=k,(!M.isEmpty)=b at *;go_in;go_wp2_with fail;refine Rr HB.out λw' G=> ?_;have HK:=ar G;clear G;go_wp2;go_ret2;exact W.out _ HK.out
def NV:List (ByteArray×Int)->Int
 | []=>0
 |p::_=>p.2
def Bx (w:World) (M:List (ByteArray×Int)) (e:Ending) (w':World):Prop:=e= .returned (.tuple #[(NV M:Int),(!M.isEmpty:Bool)])/\ay [] w w'
theorem iH.mid(h:iH E A M B nm)(z:M≠[]):A.length<E.length/\jq E A.length=NV M:=by
 obtain⟨i,rfl⟩:=h.one.resolve_left z;have G:A.length<E.length:=by rw[h.eq,aC,aC];simp;omega
 refine⟨G,?_⟩;rw[jq,h.eq,aj,aT (aI _)];simp[NV]
theorem SZ (n:bS){v:Value}{g:Nat}{A M B:List (ByteArray×Int)}{nm:ByteArray}(hB:n.B.length=13)(hE:bD w v g n.E)(hs:iH n.E A M B nm)(Y1:n.E.length<=1000):
  Calls prog 162 #[aL n v,.string nm] w (Bx w M):=by
 have cM:ay [] w (w.alloc (.cells (aL n v) 75)):=(ay.refl [] w).alloc _;have U:=J1 (hE.keep cM) hs Y1;unfold lK at U;have J:=ar hs.mid;have Y2:Hid ((M.isEmpty=true/\M=[])\/(M.isEmpty=false/\M≠[])):=by
  show _\/_;cases M with
  |nil=>exact .inl ⟨rfl,rfl⟩
  |cons a b=>exact .inr ⟨rfl,by simp⟩
 have HP:Hid (∀w',ay [] w w'->Bx w M (.returned (.tuple #[(NV M:Int),(!M.isEmpty:Bool)])) w'):=λw' h=>⟨rfl,h⟩
 obtain⟨a,cap,rfl,aj,ae,zr⟩:=hE.open;have ac:=fT (.slice a n.E.length cap) hB;have aa:=bc.new w (aL n (.slice a n.E.length cap)) 75;generalize aL n (.slice a n.E.length cap)=Z at *;have W:Z[17]? =some (.slice a n.E.length cap):=ac.f5;have af:(w.alloc (.cells Z 75)).cell? ⟨w.heap.size,17,none⟩=some (.slice a n.E.length cap):=by rw[aa.cell];exact W
 obtain⟨PC,pO,fG,ai⟩:=hh4 U aa cM W;unfold maxLen at ae;clear ac aa cM U W hB hE hs;generalize hm:n.E.length=m,ag:A.length=k at *;clear hm ag;go_in;go_wp2_with fail;refine Rr PC.out λw2 z=> ?_;have fC:=ar z;have ak:w2.cell? ⟨w.heap.size,17,none⟩=some (.slice a m cap):=by rw[(pO.out.keep z).cell];exact ai.out
 have CK:=ar (fG.out.trans' z);clear z af;rcases Y2.out with ⟨V,e2⟩|⟨V,e2⟩
 ·have mP:Hid (∀w',ay [] w w'->Bx w M (.returned (.tuple #[(0:Int),false])) w'):=λw' h=>by
   have :=HP.out w' h;rw[V,show NV M=0 by rw[e2];rfl] at this;exact this
  rw[V];clear V e2 Y2 HP J zr;go_wp2;go_ret2;exact mP.out _ CK.out
 ·obtain⟨FW,G⟩:=J.out e2
  have mP:Hid (∀w',ay [] w w'->Bx w M (.returned (.tuple #[(NV M:Int),true])) w'):=λw' h=>by
   have :=HP.out w' h;rw[V] at this;exact this
  obtain⟨ah,off,rfl,-,d1⟩:=zr.out k FW;rw[G] at d1;have c1:w2.cell? ⟨g,off+k*2+1,none⟩=some (.int .i64 (NV M)):=(aO (w:=w) (a:=⟨g,off+k*2+1,none⟩) (CK.out.block g ah (by simp))).trans d1;rw[V];have xa:(k:Int)<(m:Int):=by omega
  clear V e2 Y2 HP J zr d1 G;generalize NV M=im at *;go_wp2;go_ret2;exact mP.out _ CK.out
theorem NW{a:Option Addr}(h:bD w (.slice a n cap) g E)(k:Nat)(hk:k<=E.length):
  ∃J V,(∀z,(Instr.sliceAt 30 (.slice a n cap) none (some (.int .i64 (k:Int))) none).run prog z= .ok (.slice J k V) z)/\bD w (.slice J k V) g (E.take k):=by
 have W: prog.underlying 30 =some (.slice (prog.elem 30)):=by kernel_rfl
 have he: prog.elem 30 = 99 :=by kernel_rfl
 have hs:∀z:World,(sizeOf 99).run prog z= .ok 2 z:=λz=>by kernel_rfl
 obtain⟨a0,aa,hv,h1,h2,h3⟩:=h;cases hv;have G:(E.take k).length=k:=by rw[aJ];omega
 refine⟨if cap=0 then a else a.map (·.add (0*2)),cap-0,λz=> ?_,_,_,by rw[G],by omega,by omega,λh0=> ?_⟩
 ·rw[run_sliceAt_slice _ _ _ _ _ _ W,run_slice_h _ _ _ _ _ W .i64 (k:Int) (by omega) (by omega),he,hs]
  simp only[cN,sliced,aF,Nat.sub_zero]
 ·rw[G] at h0
  obtain⟨hg,off,rfl,hc⟩:=h3 (by omega);refine⟨hg,off,by rw[aA];simp[add_plain],λj U=> ?_⟩;rw[G] at U;obtain⟨c0,c1⟩:=hc j (by omega);have e:(E.take k).getD j (ByteArray.empty,0)=E.getD j (ByteArray.empty,0):=by simp[U]
  rw[eY,jq,e];exact⟨c0,c1⟩
theorem Lr{a:Option Addr}(h:bD w (.slice a n cap) g E)(k:Nat)(hk:k<=E.length):
  ∃J U,(∀z,(Instr.sliceAt 30 (.slice a n cap) (some (.int .i64 (k:Int))) none none).run prog z= .ok (.slice J (n-k) U) z)/\bD w (.slice J (n-k) U) g (E.drop k):=by
 have V: prog.underlying 30 =some (.slice (prog.elem 30)):=by kernel_rfl
 have W: prog.elem 30 = 99 :=by kernel_rfl
 have hs:∀z:World,(sizeOf 99).run prog z= .ok 2 z:=λz=>by kernel_rfl
 obtain⟨a0,aa,hv,h1,h2,h3⟩:=h;cases hv;have G:(E.drop k).length=E.length-k:=by rw[bV]
 refine⟨if cap=k then a else a.map (·.add (k*2)),cap-k,λz=> ?_,_,_,by rw[G],by omega,by omega,λh0=> ?_⟩
 ·rw[run_sliceAt_slice _ _ _ _ _ _ V,run_slice_l _ _ _ _ _ V .i64 (k:Int) (by omega) (by omega),W,hs]
  simp only[cN,sliced,aF]
 ·rw[G] at h0
  obtain⟨hg,off,rfl,hc⟩:=h3 (by omega);refine⟨hg,off+k*2,by rw[aA];simp[add_plain],λj hj=> ?_⟩;rw[G] at hj;obtain⟨c0,c1⟩:=hc (k+j) (by omega);have e:(E.drop k).getD j (ByteArray.empty,0)=E.getD (k+j) (ByteArray.empty,0):=by simp
  rw[show off+k*2+j*2=off+(k+j)*2 by omega,eY,jq,e];exact⟨c0,c1⟩
def GV (w:World) (g:Nat) (A B:List (ByteArray×Int)) (e:Ending) (w':World):Prop:=
 ∃x y,e= .returned (.tuple #[x,y])/\bD w x g A/\bD w y g B/\ay [] w w'
theorem iH.takes(h:iH E A M B nm):E.take A.length=A/\E.drop (A.length+M.length)=B/\E.length=A.length+M.length+B.length/\(M.isEmpty=true->M.length=0)/\(M.isEmpty=false->M.length=1):=by
 refine⟨by rw[h.eq,List.take_left],by rw[h.eq,<-aV,<-aC,List.drop_left],by rw[h.eq,aC,aC];omega,λe=>by rw[List.isEmpty_iff.1 e];rfl,λe=> ?_⟩;rcases h.one with rfl|⟨i,rfl⟩
 ·cases e
 ·rfl
theorem J2 (hE:bD w v g E)(hs:iH E A M B nm)(Y1:E.length<=1000):
  Calls prog 199 #[v,.string nm] w (GV w g A B):=by
 have W:=J1 hE hs Y1;unfold lK at W;obtain⟨t1,t2,t3,t4,t5⟩:=hs.takes;obtain⟨a,cap,hv,-,-,-⟩:=hE.open;subst hv;obtain⟨a1,c1,J,aa⟩:=NW hE A.length (by omega);obtain⟨a2,c2,G,ac⟩:=Lr hE (A.length+M.length) (by omega);rw[t1] at aa;rw[t2] at ac;have HP:Hid (∀w',ay [] w w'->GV w g A B (.returned (.tuple #[.slice a1 A.length c1,.slice a2 (E.length-(A.length+M.length)) c2])) w'):=λw' h=>⟨_,_,rfl,aa,ac,h⟩
 obtain⟨PC,T4,T5,T3,af,ae⟩:=hh6 W t4 t5 t3 J G;clear W aa ac hE hs t1 t2 t4 t5 J G;generalize hm:E.length=m,hk:A.length=k,JP:M.length=q at *;clear hm hk JP;have FW:k+q<=m:=by have :=T3.out;omega
 clear t3;cases hME:M.isEmpty
 ·obtain rfl:=T5.out hME
  rw[hME] at PC;have J:=af.out;have G:=ae.out;rw[show((k+1:Nat):Int)=(k:Int)+1 by omega] at G;clear T4 T5 hME;have aj:IntKind.i64.wrap ((k:Int)+1)=(k:Int)+1:=fR _ (by omega);go_in;go_wp2_with fail;refine Rr PC.out λw2 V=> ?_;have fC:=ar V;clear V;go_wp2_with fail;refine iW (S:=λU=>ay [] w U) (fC.out.drew) ?_;repeat (
   (first
   |(refine aS.cons (.slice a1 k c1) (bG.val rfl ?h) ?_;(case h=>(intro U z;clear z;go_simp;(try rw[J]);done)))
   |(refine aS.cons (.slice a2 (m-(k+1)) c2) (bG.val rfl ?h) ?_;(case h=>(intro U z;clear z;go_simp;(try rw[G]);done)))
   |(refine aS.cons ?_ (bG.val rfl ?h) ?_;(case h=>(intro U z;clear z;go_simp;rfl))));simp only[Act.put,ag,ah,ai])
  refine aS.done λU z=> ?_
  have tT:=ar z;clear z;go_wp2;go_ret2;exact HP.out _ tT.out
 ·obtain rfl:=T4.out hME
  rw[hME] at PC;have J:=af.out;have G:=ae.out;rw[dE] at G;clear T4 T5 hME;go_in;go_wp2_with fail;refine Rr PC.out λw2 V=> ?_;have fC:=ar V;clear V;go_wp2_with fail;refine iW (S:=λU=>ay [] w U) (fC.out.drew) ?_;repeat (
   (first
   |(refine aS.cons (.slice a1 k c1) (bG.val rfl ?h) ?_;(case h=>(intro U z;clear z;go_simp;(try rw[J]);done)))
   |(refine aS.cons (.slice a2 (m-k) c2) (bG.val rfl ?h) ?_;(case h=>(intro U z;clear z;go_simp;(try rw[G]);done)))
   |(refine aS.cons ?_ (bG.val rfl ?h) ?_;(case h=>(intro U z;clear z;go_simp;rfl))));simp only[Act.put,ag,ah,ai])
  refine aS.done λU z=> ?_
  have tT:=ar z;clear z;go_wp2;go_ret2;exact HP.out _ tT.out
theorem Ar{P:Program}(w:World)(t tn e:TypeId)(i:TypeInfo)(z:Value)(kq kn:IntKind)(size:Nat)(ht:P.underlying t=some (.slice e))(W:P.underlying tn=some (.int kn))(hi:P.info? e=some i)(hz:i.zero=some z)(ae:i.size=size)(ac:0<size)(YG:z.cells.size=size)
  (k:Nat) (h0:0<k) (hk:k<=1000) (U:i.bytes<=64):
  ∃c w',(∀ty,(Builtin.append_ #[t,tn] ty #[(),.int kq k]).run P w= .ok (.slice w.heap.size k c) w')/\k<=c/\w'.ownsRow w.heap.size e size (.slice w.heap.size 0 c) 0 []/\ay [] w w':=by
 have aa:(Builtin.firstCells i.size 0 (.slice none 0 0)).run P w.drew= .ok ([]:List Value).toArray w.drew:=by simp[Builtin.firstCells]
 have V:Builtin.nextslicecap (0+k) 0<=4*1000+64:=by
  unfold Builtin.nextslicecap;split<;>omega
 have h1:k*i.bytes<=281474976710656:=cL (Nat.mul_le_mul hk U) (by omega);have h2:Builtin.nextslicecap (0+k) 0*i.bytes<=281474976710656:=cL (Nat.mul_le_mul V U) (by omega);have h:=λty=>Lib.run_append_grow_zeros w t tn ty e i z kq kn ht W hi hz none 0 0 [] aa k h0 (by omega) (by omega) (by omega) h1 h2
 have G:=grownCap_ge w (0+k) 0 e;have J:=grownCap_le_maxLen w (0+k) 0 e (by unfold maxLen;omega);rw[bp] at G J;simp only[bp] at h;refine⟨_,_,h,G,⟨by simp,.inr ⟨w.heap.size,grownCap w k 0 e,_,rfl,aI _,bc.new w.drew _ _,fD _,J,?_,by simp⟩⟩,((ay.refl [] w).drew).alloc _⟩;simp[oa,YG];rw[<-Nat.add_mul]
 congr 1
 omega
theorem Tryz.info_ent9:(prog.info? 99).map (λi=>(i.zero,i.size,i.bytes))=some (some (.agg #[.string ⟨#[]⟩,(0:Int)]),2,24):=by kernel_rfl
theorem Y3 (k:Nat)(hk:k<=1000)(z:Int)(W:z=(k:Int))(w:World):Calls prog 220 #[(),z] w λe w'=>
  ∃v,e=(v:Value)/\w'.ownsRow w.heap.size 99 2 v 0 []/\ay [] w w':=by
 rcases eo k with rfl|h0
 ·obtain rfl:z=0:=by omega
  clear W hk;go_in;go_wp2;go_ret;exact⟨_,rfl,⟨rfl,.inl ⟨rfl,rfl⟩⟩,ay.refl _ _⟩
 ·obtain⟨i0,hi,V,J,U⟩:=df Tryz.info_ent9
  obtain⟨c,w',hr,hc,h,G⟩:=Ar (P:= prog) w 30 3 99 i0 _ .i64 .i64 2 underlying30 underlying3 hi V J (by omega) rfl k h0 hk (by rw[U];omega);have h1:¬z<0:=by omega
  have h2:0<z:=by omega
  have h3:wrap64 z=z:=by unfold wrap64;omega
  simp only[<-W] at hr;obtain⟨HO,HK⟩:=hh2 h G;have aa:c≠0:=by omega
  have ac:(0:Int)<=(c:Int):=by omega
  clear h G W hi V J U hc;go_in;go_wp2_with(at_builtin;refine wpList_append_run rfl (.tmp 20) (.tmp 21) 30 3 ?_ (.slice none 0 0) (.int .i64 z) ?_ ?_ (hr _) ?_;all_goals first|rfl|skip);go_ret;exact⟨_,rfl,HO.out,HK.out⟩
theorem Lt{a:Option Addr}{m c:Nat}(h:bD w (.slice a m c) g E)(hm:m≠0):∃G,a=some G/\∀j u,(fc E)[j]? =some u->w.cell? (G.add j)=some u:=by
 obtain⟨a',c',J,h2,h3,W⟩:=h;cases J;obtain⟨-,off,rfl,V⟩:=W hm;refine⟨_,rfl,λj u z=> ?_⟩;have hj:j<(fc E).length:=(List.getElem?_eq_some_iff.1 z).1;rw[lI] at hj;obtain⟨d0,U⟩:=V (j/2) (by omega);obtain⟨e0,e1⟩:=qc E (j/2) (by omega);rw[add_plain];rcases Nat.mod_two_eq_zero_or_one j with h|h
 ·rw[show off+j=off+j/2*2 by omega,d0,<-e0,show j/2*2=j by omega,z]
 ·rw[show off+j=off+j/2*2+1 by omega,U,<-e1,show j/2*2+1=j by omega,z]
def pF (Ls:List (List (ByteArray×Int))) (j:Nat):Nat:=(Ls.take j).flatten.length
theorem J3 (Ls:List (List (ByteArray×Int)))(j:Nat)(h:j<Ls.length):(Ls.take (j+1)).flatten=(Ls.take j).flatten++Ls.getD j []:=by
 rw[bR h,List.flatten_append];simp[h]
theorem Q4 (Ls:List (List (ByteArray×Int)))(j:Nat)(h:j<Ls.length):pF Ls (j+1)=pF Ls j+(Ls.getD j []).length:=by
 unfold pF;rw[J3 Ls j h,aC]
theorem Y4 (Ls:List (List (ByteArray×Int)))(j:Nat):pF Ls j<=Ls.flatten.length:=by
 unfold pF;have :=cP List.flatten (dx j Ls);rw[List.flatten_append] at this;rw[<-this,aC];omega
theorem Vq (Ls:List (List (ByteArray×Int))):pF Ls Ls.length=Ls.flatten.length:=by
 unfold pF;rw[gi]
def J4 (w:World) (E:List (ByteArray×Int)) (e:Ending) (w':World):Prop:=∃v g,e=(v:Value)/\bD w' v g E/\w.heap.size<=g/\ay [] w w'
theorem GW{gs T:Nat}{xs:List Value}{Ls:List (List (ByteArray×Int))}(hb:bc w gs xs.toArray T)(hl:xs.length=Ls.length)(hm:xs.length<=10)
  (hr:∀j,j<xs.length->∃g,bD w (xs.getD j (.slice none 0 0)) g (Ls.getD j [])) (hn:Ls.flatten.length<=1000):
  Calls prog 201 #[.slice gs xs.length xs.length] w (J4 w Ls.flatten):=by
 obtain⟨i0,hi,az,au,av⟩:=df Tryz.info_ent9;have HR:Hid (∀j,j<xs.length->∃a c g,xs.getD j (.slice none 0 0)= .slice a (Ls.getD j []).length c/\bD w (.slice a (Ls.getD j []).length c) g (Ls.getD j [])/\(Ls.getD j []).length<=c/\∀J,ay [] w J->J.cell? ⟨gs,j,none⟩=some (.slice a (Ls.getD j []).length c)):=λj hj=>by
  obtain⟨g,hE⟩:=hr j hj;obtain⟨a,c,hv,h1,h2,-⟩:=hE.open;refine⟨a,c,g,hv,by rw[hv] at hE;exact hE,h1,λJ hk=> ?_⟩;rw[(hb.keep hk).cell,aG,<-hv,aj,aD hj];rfl
 have JC:Hid (∀j,j<xs.length->pF Ls (j+1)=pF Ls j+(Ls.getD j []).length/\(Ls.take (j+1)).flatten=(Ls.take j).flatten++Ls.getD j []):=λj hj=>⟨Q4 Ls j (by omega),J3 Ls j (by omega)⟩
 have W:Hid (∀j,pF Ls j<=1000):=λj=>cL (Y4 Ls j) hn
 have ac:Hid (pF Ls xs.length=Ls.flatten.length/\(Ls.take xs.length).flatten=Ls.flatten):=by
  show _/\_;rw[hl];exact⟨Vq Ls,by rw[gi]⟩
 clear hr hb hl hn;generalize ax:xs.length=m at *;clear ax;have ah:=λ(k:Nat) (hk:k<=1000) (ki:Int) (xa:ki=(k:Int)) J=>Y3 k hk ki xa J
 have HG:=ar ah;clear ah;go_in;go_wp2_with fail;go_loopg [3,11] m (λgh s3 Qh J=>∃j:Nat,j+gh=m/\Qh= .int .i64 (j:Int)/\s3= .int .i64 ((pF Ls j:Nat):Int)/\w=J)
 case atStart=>exact⟨0,by omega,rfl,rfl,rfl⟩
 case round=>
  obtain⟨j,hj,rfl,rfl,rfl⟩:=hrel;cases gk with
  |succ gg=>
   have ag:j<m:=by omega
   have ES:(j:Int)<(m:Int):=by omega
   have Co:(0:Int)<=(j:Int):=by omega
   obtain⟨a,c,g,-,-,aa,G⟩:=HR.out j ag;have c0:=G w (ay.refl _ _);obtain⟨z,-⟩:=JC.out j ag;have V:=W.out (j+1);have HQ:Hid (((pF Ls (j+1):Nat):Int)=((pF Ls j:Nat):Int)+(((Ls.getD j []).length:Nat):Int)):=by show _=_;omega
   rw[z] at V;clear z G aa;generalize pF Ls j=q,(Ls.getD j []).length=l at *;have aC:¬(q:Int)+(l:Int)<0:=by omega
   go_wp2;go_roundg gg;case measure=>omega
   case rel=>exact⟨j+1,by omega,by go_num,by rw[HQ.out],rfl⟩
  |zero=>
   obtain rfl:j=m:=by omega
   have V:=W.out j;have ai:=HG.out (pF Ls j) V _ rfl w;clear HG;go_wp2_with fail;refine ai.mono ?_;rintro e w1 ⟨v0,rfl,h,ae⟩;obtain⟨HO,HK⟩:=hh2 h ae;clear h ae ai;go_wp2_with fail;go_loopg [6,27] j (λgh s6 s27 J=>∃i:Nat,i+gh=j/\s27= .int .i64 (i:Int)/\Hid (J.ownsRow w.heap.size 99 2 s6 (pF Ls i) (fc (Ls.take i).flatten)/\ay [] w J))
   case atStart=>exact⟨0,by omega,rfl,HO.out,HK.out⟩
   case round=>
    clear HO HK;obtain⟨i,aB,rfl,HP⟩:=hrel;obtain⟨h,U⟩:=HP.out;cases gk with
    |zero=>
     obtain rfl:i=j:=by omega
     have HM:Hid (J4 w Ls.flatten (.returned u6) wr):=by
      obtain⟨g,ho,hg⟩:=fw.of_row h;rw[ac.out.1,ac.out.2] at ho;by_cases h0:Ls.flatten.length=0
      ·exact⟨u6,w.heap.size,rfl,(ho.anyG h0 w.heap.size).ereads rfl,aI _,U⟩
      ·exact⟨u6,g,rfl,ho.ereads rfl,(hg (by rw[ac.out.1];exact h0)).1,U⟩
     clear h U HP;go_wp2;go_ret;exact HM.out
    |succ gg=>
     have af:i<j:=by omega
     have aF:(i:Int)<(j:Int):=by omega
     have aH:(0:Int)<=(i:Int):=by omega
     obtain⟨a,c,g,-,hE,aa,G⟩:=HR.out i af;have e0:=G _ U;obtain⟨z,ak⟩:=JC.out i af;have aA:=W.out (i+1);rw[z] at aA;obtain⟨v',w',hr,ho,hg⟩:=lV (P:= prog) 30 99 30 i0 _ 2 24 underlying30 hi az au av rfl (by omega) w.heap.size (pF Ls i) _ _ h a (Ls.getD i []).length c (fc (Ls.getD i [])) (lI _) (Lt (hE.keep U)) (z7 _) (by unfold maxLen;omega) (by omega) U.size;have HN:Hid (w'.ownsRow w.heap.size 99 2 v' (pF Ls (i+1)) (fc (Ls.take (i+1)).flatten)/\ay [] w w'):=by
      refine⟨?_,U.grown hg (dO h)⟩;rw[z,ak,qA];exact ho
     clear h U HP ho hg G z ak hE aa;generalize (Ls.getD i []).length=l at *;go_wp2_with(at_builtin;refine wpList_append_run rfl (.tmp 31) (.tmp 32) 30 30 ?_ u6 (.slice a l c) ?_ ?_ hr ?_;all_goals first|rfl|skip);go_roundg gg;case measure=>omega
     case rel=>exact⟨i+1,by omega,by go_num,HN.out⟩
end
end Go.Proofs.YtimcfdnbpkiniaaGreatDoor
