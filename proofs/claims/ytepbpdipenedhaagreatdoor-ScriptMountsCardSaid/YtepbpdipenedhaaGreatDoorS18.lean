/- Lemmas. -/
import Derived.Test.YtepbpdipenedhaaGreatDoorS17
import Derived.Lib.Bytealg
set_option maxHeartbeats 4000000
set_option maxRecDepth 100000
namespace Go.Proofs.YtepbpdipenedhaaGreatDoor
open Go.Proofs.Tryz
open Go.RowKit
variable{T:List (bN×Value)}{d i:Int}{R:List Int}{cap g k:Nat}{a b nm:ByteArray}{n:bN}{A B E M:List (ByteArray×Int)}{w:World}{v:Value}
def mW (T:List (bN×Value)) (a:Int):List Int:=if 0<=a/\a<32 then (nT T a.toNat).E.map (·.2) else []
inductive Reach (T:List (bN×Value)) (d:Int):Int->Prop
 |here:Reach T d d
 |step {a b:Int}:Reach T d a->b∈mW T a->Reach T d b
def ZY (T:List (bN×Value)):Prop:=∀i,(nT T i).F=0->(nT T i).E=[]
def Ph (T:List (bN×Value)):Prop:=∀a,∀b∈mW T a,0<=b/\b<32
theorem acb (U:ZY T)(W:aca T)(hF:∀i:Nat,i<32->0<=(nT T i).F):Ph T:=λa b h=>by
 unfold mW at h;split at h
 ·next ha=>
  have Z:=hF a.toNat (by omega);by_cases V:(nT T a.toNat).F=0
  ·rw[U _ V] at h;simp at h
  ·obtain⟨k,z,G⟩:=bU h
   rw[bG] at z;rw[fQ] at G;rcases (W a.toNat (by omega) (by omega)).2.2 with ⟨-,y⟩|⟨-,y⟩
   ·have :=y.2.1;omega
   ·have J:=(y.2.2.2 k z).2.1
    have e:iC (nT T a.toNat).E k=b:=by
     rw[<-G];simp[iC,z]
    rw[e] at J;omega
 ·simp at h
theorem Reach.rng(y:Ph T){d x:Int}(h:Reach T d x):x=d\/(0<=x/\x<32):=by
 cases h with
 |here=>exact .inl rfl
 |step _ hb=>exact .inr (y _ _ hb)
theorem Reach.closed{P:Int->Prop}(y:P d)(z:∀a,P a->∀b∈mW T a,P b){x:Int}(h:Reach T d x):P x:=by
 induction h with
 |here=>exact y
 |step _ hb ih=>exact z _ ih _ hb
theorem EU:∀(l m:List Int),l.Nodup->(∀x∈l,x∈m)->l.length<=m.length
 | [],_,_,_=>eD _
 |a::l,m,hn,h=>by
  have J:=List.nodup_cons.1 hn;have z:=h a (by simp);have U:=EU l (m.erase a) J.2 λx G=>by
   have y:x≠a:=λe=>J.1 (e▸G)
   exact(List.mem_erase_of_ne y).2 (h x (by simp[G]))
  rw[List.length_erase_of_mem z] at U;have :m.length≠0:=λe=>by rw[bc e] at z;simp at z
  rw[bF];omega
structure oH (T:List (bN×Value)) (d i:Int) (R:List Int) (k:Nat):Prop where
 nodup:R.Nodup
 reach:∀x∈R,Reach T d x
 first:d∈R
 le:k<=R.length
 done:∀j,j<k->∀x,R[j]? =some x->x≠i/\∀b∈mW T x,b∈R
theorem oH.start(T:List (bN×Value))(d i:Int):oH T d i [d] 0:=
 ⟨List.nodup_cons.2 ⟨by simp,List.nodup_nil⟩,λx h=>by rw[au] at h;subst h;exact .here,by simp,eD _,λj y=>by omega⟩
theorem oH.len(G:Ph T){d i:Int}{R:List Int}{k:Nat}(h:oH T d i R k):R.length<=33:=by
 have y:=EU R (d::(List.range 32).map λn:Nat=>(n:Int)) h.nodup λx z=>by
  rcases (h.reach x z).rng G with e|⟨y,J⟩
  ·rw[e];simp
  ·refine iq _ (bL.2 ⟨x.toNat,bP.2 (by omega),by omega⟩)
 rw[bF,bG,eX] at y;exact y
theorem oH.found(h:oH T d i R k){x:Int}(y:R[k]? =some x)(e:x=i):Reach T d i:=by
 rw[<-e];exact h.reach x (List.mem_of_getElem? y)
theorem oH.ended(h:oH T d i R k)(U:k=R.length):¬Reach T d i:=λV=>by
 subst U;have J:∀x,Reach T d x->x∈R:=λx z=>Reach.closed (P:=λx=>x∈R) h.first (λa W b G=>by
  obtain⟨j,y,e⟩:=bU W;exact(h.done j y a (by rw[aF y,e])).2 b G) z
 obtain⟨j,y,e⟩:=bU (J i V);exact(h.done j y i (by rw[aF y,e])).1 rfl
theorem oH.more(h:oH T d i R k){x b:Int}(J:R[k]? =some x)(U:b∈mW T x)(hn:b∉R):oH T d i (R++[b]) k/\(R++[b])[k]? =some x:=by
 have hk:k<R.length:=(List.getElem?_eq_some_iff.1 J).1;refine⟨⟨?_,λy G=> ?_,by simp[h.first],by rw[aD];have :=h.le;omega,λj Z y G=> ?_⟩,by rw[bg hk,J]⟩
 ·rw[List.nodup_append]
  refine⟨h.nodup,List.nodup_cons.2 ⟨by simp,List.nodup_nil⟩,λy G z V e=> ?_⟩;rw[au] at V;rw[V] at e;exact hn (e▸G)
 ·rcases aR.1 G with G|G
  ·exact h.reach y G
  ·rw[au] at G
   subst G;exact .step (h.reach x (List.mem_of_getElem? J)) U
 ·rw[bg (by omega)] at G
  obtain⟨h1,W⟩:=h.done j Z y G;exact⟨h1,λb U=>by simp[W b U]⟩
theorem oH.next(h:oH T d i R k){x:Int}(U:R[k]? =some x)(G:x≠i)(z:∀b∈mW T x,b∈R):oH T d i R (k+1):=by
 have W:k<R.length:=(List.getElem?_eq_some_iff.1 U).1;refine⟨h.nodup,h.reach,h.first,by omega,λj V y J=> ?_⟩;by_cases e:j=k
 ·subst e
  rw[U] at J;cases J;exact⟨G,z⟩
 ·exact h.done j (by omega) y J
def mk (S:List Bool) (x:Int):Bool:=S.getD x.toNat false
end Go.Proofs.YtepbpdipenedhaaGreatDoor
namespace Go.Proofs.YtepbpdipenedhaaGreatDoor
open Go.Proofs.Tryz
open Go.RowKit
variable{T:List (bN×Value)}{d i:Int}{R:List Int}{cap g k:Nat}{a b nm:ByteArray}{n:bN}{A B E M:List (ByteArray×Int)}{w:World}{v:Value}
end Go.Proofs.YtepbpdipenedhaaGreatDoor
namespace Go.Proofs.YtepbpdipenedhaaGreatDoor
open Go.Proofs.Tryz
open Go.RowKit
variable{T:List (bN×Value)}{d i:Int}{R:List Int}{cap g k:Nat}{a b nm:ByteArray}{n:bN}{A B E M:List (ByteArray×Int)}{w:World}{v:Value}
def EW (a b:ByteArray):Prop:=Op.bytesLess a.toList b.toList=true
def rS (a b:ByteArray):Int:=Lib.compareBytes a.data.toList b.data.toList
theorem EX (h:a.toList=b.toList):a=b:=by
 rw[iF,iF] at h;exact ByteArray.ext (Array.toList_inj.1 h)
theorem ql:∀a b:List UInt8,(Lib.compareBytes a b<0↔Op.bytesLess a b=true)/\(Lib.compareBytes a b=0↔a=b)
 | [],[]=>by simp[Lib.compareBytes,Op.bytesLess]
 | [],_::_=>by simp[Lib.compareBytes,Op.bytesLess]
 |_::_,[]=>by simp[Lib.compareBytes,Op.bytesLess]
 |x::a,y::b=>by
  have J:=ql a b;unfold Lib.compareBytes;by_cases z:x<y
  ·have h:x≠y:=λe=>by rw[e,fI] at z;omega
   simp[z,h,Op.bytesLess]
  ·by_cases G:y<x
   ·have h:x≠y:=λe=>z (by rw[e] at G;exact absurd G (by rw[fI];omega))
    simp[z,G,h,Op.bytesLess]
   ·have U:x=y:=by
     rw[fI] at z G;exact UInt8.toNat_inj.1 (by omega)
    subst U;simp only[z,if_false,Op.bytesLess,BEq.rfl,Bool.true_and,decide_false,Bool.false_or,iV,true_and];exact J
theorem S6 (a b:ByteArray):rS a b<0↔EW a b:=by
 unfold rS EW;rw[iF,iF];exact(ql _ _).1
theorem Pj (a b:ByteArray):rS a b=0↔a=b:=by
 unfold rS;rw[(ql _ _).2];exact⟨λh=>ByteArray.ext (Array.toList_inj.1 h),λh=>by rw[h]⟩
theorem kp (a:ByteArray):¬EW a a:=λh=>by
 unfold EW at h;rw[mo] at h;cases h
theorem qU{c:ByteArray}(h:EW a b)(k:EW b c):EW a c:=lZ _ _ _ h k
theorem rT (h:EW a b):a≠b:=λe=>kp b (by rw[e] at h;exact h)
theorem Pk (a b:ByteArray):EW a b\/a=b\/EW b a:=by
 by_cases h:EW a b
 ·exact .inl h
 ·by_cases e:a=b
  ·exact .inr (.inl e)
  ·refine .inr (.inr (pD _ _ ?_ λy=>e (EX y)))
   unfold EW at h;simpa using h
def tU (E:List (ByteArray×Int)):Prop:=E.Pairwise λp q=>EW p.1 q.1
structure ia (E A M B:List (ByteArray×Int)) (nm:ByteArray):Prop where
 eq:E=A++(M++B)
 ahead:∀p∈A,EW p.1 nm
 behind:∀p∈B,EW nm p.1
 one:M=[]\/∃i,M=[(nm,i)]
theorem kv:∀{E:List (ByteArray×Int)},tU E->∀nm,∃A M B,ia E A M B nm
 | [],_,nm=>⟨[],[],[],rfl,by simp,by simp,.inl rfl⟩
 |p::E,h,nm=>by
  have G:=List.pairwise_cons.1 h;obtain⟨A,M,B,z⟩:=kv G.2 nm;rcases Pk p.1 nm with V|J|U
  ·refine⟨p::A,M,B,by rw[z.eq];rfl,?_,z.behind,z.one⟩
   intro q y;rcases aQ.1 y with rfl|y
   ·exact V
   ·exact z.ahead q y
  ·refine⟨[],[p],E,rfl,by simp,λq y=> ?_,.inr ⟨p.2,by rw[<-J]⟩⟩
   rw[<-J];exact G.1 q y
  ·refine⟨[],[],p::E,rfl,by simp,λq y=> ?_,.inl rfl⟩
   rcases aQ.1 y with rfl|y
   ·exact U
   ·exact qU U (G.1 q y)
theorem EY (h:mz n):tU n.E:=by
 unfold tU;rw[cU];intro i j J G z;have :=Co (λk y U=>(h.2.2.2 k y).2.2 U) j i z G;have e:∀k (y:k<n.E.length),n.E[k]=(dZ n.E k,iC n.E k):=λk y=>by simp[dZ,iC,y]
 rw[e i J,e j G];exact this
theorem ia.rises(h:ia E A M B nm)(J:tU E)(M':List (ByteArray×Int))(U:M'=[]\/∃i,M'=[(nm,i)]):tU (A++(M'++B)):=by
 unfold tU at J ⊢;rw[h.eq,List.pairwise_append,List.pairwise_append] at J;rw[List.pairwise_append,List.pairwise_append];obtain⟨V,⟨-,W,-⟩,Z⟩:=J;have z:∀q∈M',q.1=nm:=λq y=>by
  rcases U with rfl|⟨i,rfl⟩
  ·simp at y
  ·rw[au] at y;rw[y]
 refine⟨V,⟨?_,W,λp G q y=>by rw[z p G];exact h.behind q y⟩,λp G q y=> ?_⟩
 ·rcases U with rfl|⟨i,rfl⟩
  ·exact List.Pairwise.nil
  ·exact List.pairwise_singleton _ _
 ·rcases aR.1 y with y|y
  ·rw[z q y];exact h.ahead p G
  ·exact qU (h.ahead p G) (h.behind q y)
theorem ia.at(h:ia E A M B nm)(k:Nat)(W:k<E.length):(EW (dZ E k) nm↔k<A.length)/\(dZ E k=nm↔k=A.length/\M≠[]):=by
 have hE:E.length=A.length+(M.length+B.length):=by rw[h.eq,aD,aD]
 have hM:M.length<=1:=by rcases h.one with e|⟨i,e⟩<;>rw[e]<;>simp
 have z:(dZ E k,iC E k)=E[k]:=by simp[dZ,iC,W]
 have Z:dZ E k=E[k].1:=by rw[<-z]
 by_cases U:k<A.length
 ·have e:E[k]=A[k]:=by simp only[h.eq];rw[List.getElem_append_left U]
  have y:=h.ahead _ (bA U);rw[<-e,<-Z] at y;exact⟨⟨λ_=>U,λ_=>y⟩,⟨λe=>absurd e (rT y),λe=>by omega⟩⟩
 ·by_cases hm:k<A.length+M.length
  ·have eo:k=A.length:=by omega
   have G:M≠[]:=λe=>by rw[e] at hm;simp at hm;omega
   have e:dZ E k=nm:=by
    obtain⟨i,e⟩:=h.one.resolve_left G;have :E[k]? =some (nm,i):=by
     rw[h.eq,e,eo,aT (by omega)];simp
    rw[aF W,Option.some_inj] at this;rw[Z,this]
   exact⟨⟨λy=>absurd e (rT y),λh=>absurd h U⟩,⟨λ_=>⟨eo,G⟩,λ_=>e⟩⟩
  ·have J:k-A.length-M.length<B.length:=by omega
   have e:E[k]? =some B[k-A.length-M.length]:=by
    rw[h.eq,aT (by omega),aT (by omega),aF J]
   rw[aF W,Option.some_inj] at e;have y:=h.behind _ (bA J);rw[<-e,<-Z] at y;refine⟨⟨λV=>absurd (qU V y) (kp _),λV=>absurd V U⟩,⟨λe2=>absurd e2.symm (rT y),λ⟨V,h3⟩=> ?_⟩⟩;have :M.length≠0:=λe=>h3 (bc e)
   omega
def bS:List (ByteArray×Int)->ByteArray->Int
 | [],_=> -1
 |p::E,nm=>if p.1=nm then p.2 else bS E nm
theorem zb:∀(A E:List (ByteArray×Int)) (nm:ByteArray),(∀p∈A,p.1≠nm)->bS (A++E) nm=bS E nm
 | [],_,_,_=>rfl
 |p::A,E,nm,h=>by
  show(if p.1=nm then p.2 else bS (A++E) nm)=_;rw[aA (h p (by simp))];exact zb A E nm λq y=>h q (by simp[y])
theorem wC (E:List (ByteArray×Int))(nm:ByteArray)(h:∀p∈E,p.1≠nm):bS E nm= -1:=by
 have :=zb E [] nm h;rw[bq] at this;exact this
theorem Ji (a b:ByteArray)(w:World):Calls prog 219 #[.string a,.string b] w λe w'=>e= .returned (.int .i64 (rS a b))/\w=w':=by
 go_enter func219,ntmps219;go_wp2;rw[run_callFunc_extern func232 (by kernel_rfl) (by kernel_rfl) (by kernel_rfl) (e:=Extern.BytealgCompare.compare) (by kernel_rfl),Lib.run_compareString];simp only[Result.andThen];rw[Oper.upon_value];go_wp2;go_ret;exact⟨rfl,rfl⟩
theorem xL (a b:ByteArray)(w:World):Calls prog 207 #[.string a,.string b] w λe w'=>e= .returned (.int .i64 (rS a b))/\w=w':=by
 have h:=λy=>Ji a b y
 generalize rS a b=r at h ⊢;go_enter func207,ntmps207;go_wp2_with fail;refine(h _).mono ?_;rintro e w' ⟨rfl,rfl⟩;go_wp2_with fail;go_ret;exact⟨rfl,rfl⟩
theorem Jj (a nm:ByteArray)(x:Int)(w:World):Calls prog 206 #[.agg #[.string a,.int .i64 x],.string nm] w λe w'=>e= .returned (.int .i64 (rS a nm))/\ay [] w w':=by
 have h:=λy=>xL a nm y
 generalize rS a nm=r at h ⊢;have z:Hid (ay [] w (w.alloc (.cells #[.string a,.int .i64 x] 87))):=(ay.refl [] w).alloc _;go_enter func206,ntmps206;go_wp2_with fail;refine(h _).mono ?_;rintro e w' ⟨rfl,rfl⟩;go_wp2_with fail;go_ret;exact⟨rfl,z.out⟩
def jJ (w:World) (A M:List (ByteArray×Int)) (e:Ending) (w':World):Prop:=e= .returned (.tuple #[.int .i64 (A.length:Int),.bool (!M.isEmpty)])/\ay [] w w'
theorem Pm (hE:br w v g E)(hs:ia E A M B nm)(Wf:E.length<=1000):
  Calls prog 205 #[v,.string nm,.func (.func 206) #[] #[]] w (jJ w A M):=by
 have EZ:Hid (∀w',ay [] w w'->jJ w A M (.returned (.tuple #[.int .i64 (A.length:Int),.bool (!M.isEmpty)])) w'):=λw' h=>⟨rfl,h⟩
 have aa:=ar (hs.at);have ai:A.length<=E.length:=by rw[hs.eq,aD];omega
 obtain⟨a,cap,rfl,aj,ag,uL⟩:=hE.open;have Sm:Hid (∀(x:ByteArray) (y:Int) (wx:World),Calls prog 206 #[.agg #[.string x,.int .i64 y],.string nm] wx λe w'=>e= .returned (.int .i64 (rS x nm))/\ay [] wx w'):=λx y wx=>Jj x nm y wx
 have QL:Hid (∀k,k<E.length->(rS (dZ E k) nm<0↔k<A.length)/\(rS (dZ E k) nm=0↔k=A.length/\M≠[])):=λk hk=>⟨(S6 _ _).trans (aa.out k hk).1,(Pj _ _).trans (aa.out k hk).2⟩
 have W:Hid (M≠[]->A.length<E.length):=λh=>by
  have :M.length≠0:=λe=>h (bc e)
  have e:=b8 List.length hs.eq;rw[aD,aD] at e;omega
 unfold maxLen at ag;have Wh:Hid ((M.isEmpty=true/\M=[])\/(M.isEmpty=false/\M≠[])):=by
  show _\/_;cases M with
  |nil=>exact .inl ⟨rfl,rfl⟩
  |cons a b=>exact .inr ⟨rfl,by simp⟩
 clear hs hE aa;generalize hm:E.length=m at *;generalize hk:A.length=k at *;clear hm hk;go_enter func205,ntmps205;go_wp2_with fail;go_loopg [9,10] m (λgh s9 UT wx=>∃G z:Nat,s9= .int .i64 (G:Int)/\UT= .int .i64 (z:Int)/\G<=k/\k<=z/\z<=m/\z-G<=gh/\Hid (ay [] w wx))
 case atStart=>exact⟨0,m,rfl,rfl,eD _,ai,aG _,by omega,ay.refl _ _⟩
 case round=>
  obtain⟨G,z,rfl,rfl,h1,h2,h3,h4,Z⟩:=hrel;by_cases au:G<z
  ·have ae:(G+z)/2<m:=by omega
   obtain⟨U,off,rfl,d1,d2⟩:=uL.out _ ae;have c0:wr.cell? ⟨g,off+(G+z)/2*2,none⟩=some (.string (dZ E ((G+z)/2))):=(aK (w:=w) (a:=⟨g,off+(G+z)/2*2,none⟩) (Z.out.block g U (by simp))).trans d1;have c1:wr.cell? ⟨g,off+(G+z)/2*2+1,none⟩=some (.int .i64 (iC E ((G+z)/2))):=(aK (w:=w) (a:=⟨g,off+(G+z)/2*2+1,none⟩) (Z.out.block g U (by simp))).trans d2;have V:=QL.out _ ae;have HC:=ar (Sm.out (dZ E ((G+z)/2)) (iC E ((G+z)/2)));clear d1 d2;by_cases af:(G+z)/2<k
   ·have ah:=V.1.2 af
    clear V;generalize rS (dZ E ((G+z)/2)) nm=cv at *;generalize dZ E ((G+z)/2)=nk at *;generalize iC E ((G+z)/2)=ik at *;go_wp2_with fail;refine(HC.out _).mono ?_;rintro e w2 ⟨rfl,J⟩;have fF:=ar (Z.out.trans' J);clear J;go_wp2_with fail;go_roundg (z-((G+z)/2+1));case measure=>omega
    case rel=>exact⟨(G+z)/2+1,z,by rw[show((G:Int)+(z:Int))/2+1=(((G+z)/2+1:Nat):Int) by omega],rfl,by omega,h2,h3,aG _,fF.out⟩
   ·have ah:¬rS (dZ E ((G+z)/2)) nm<0:=λh=>af (V.1.1 h)
    clear V;generalize rS (dZ E ((G+z)/2)) nm=cv at *;generalize dZ E ((G+z)/2)=nk at *;generalize iC E ((G+z)/2)=ik at *;go_wp2_with fail;refine(HC.out _).mono ?_;rintro e w2 ⟨rfl,J⟩;have fF:=ar (Z.out.trans' J);clear J;go_wp2_with fail;go_roundg ((G+z)/2-G);case measure=>omega
    case rel=>exact⟨G,(G+z)/2,rfl,by rw[show((G:Int)+(z:Int))/2=(((G+z)/2:Nat):Int) by omega],h1,by omega,by omega,aG _,fF.out⟩
  ·obtain rfl:G=k:=by omega
   obtain rfl:z=G:=by omega
   rcases dg z m with ac|ac
   ·obtain⟨U,off,rfl,d1,d2⟩:=uL.out _ ac
    have c0:wr.cell? ⟨g,off+z*2,none⟩=some (.string (dZ E z)):=(aK (w:=w) (a:=⟨g,off+z*2,none⟩) (Z.out.block g U (by simp))).trans d1;have c1:wr.cell? ⟨g,off+z*2+1,none⟩=some (.int .i64 (iC E z)):=(aK (w:=w) (a:=⟨g,off+z*2+1,none⟩) (Z.out.block g U (by simp))).trans d2;have V:=QL.out _ ac;have HC:=ar (Sm.out (dZ E z) (iC E z));clear d1 d2;rcases Wh.out with ⟨e1,e2⟩|⟨e1,e2⟩
    ·have hz:(rS (dZ E z) nm==0)=false:=by
      rw[cj];exact λh=>(V.2.1 h).2 e2
     have oM:Hid (∀w',ay [] w w'->jJ w A M (.returned (.tuple #[.int .i64 (z:Int),.bool false])) w'):=λw' h=>by have :=EZ.out w' h;rwa[e1] at this
     clear V Wh e1 e2 QL Sm EZ W uL;generalize rS (dZ E z) nm=cv at *;generalize dZ E z=nk at *;generalize iC E z=ik at *;go_wp2_with fail;refine(HC.out _).mono ?_;rintro e w2 ⟨rfl,J⟩;have fF:=ar (Z.out.trans' J);clear J;go_wp2_with fail;go_ret2;exact oM.out _ fF.out
    ·have hz:(rS (dZ E z) nm==0)=true:=by
      rw[beq_iff_eq];exact V.2.2 ⟨rfl,e2⟩
     have oM:Hid (∀w',ay [] w w'->jJ w A M (.returned (.tuple #[.int .i64 (z:Int),.bool true])) w'):=λw' h=>by have :=EZ.out w' h;rwa[e1] at this
     clear V Wh e1 e2 QL Sm EZ W uL;generalize rS (dZ E z) nm=cv at *;generalize dZ E z=nk at *;generalize iC E z=ik at *;go_wp2_with fail;refine(HC.out _).mono ?_;rintro e w2 ⟨rfl,J⟩;have fF:=ar (Z.out.trans' J);clear J;go_wp2_with fail;go_ret2;exact oM.out _ fF.out
   ·have oM:Hid (∀w',ay [] w w'->jJ w A M (.returned (.tuple #[.int .i64 (z:Int),.bool false])) w'):=λw' h=>by
     have :=EZ.out w' h;rcases Wh.out with ⟨e1,e2⟩|⟨e1,e2⟩
     ·rwa[e1] at this
     ·have :=W.out e2;omega
    have ak:¬(z:Int)<(m:Int):=by omega
    clear Wh QL Sm EZ W uL;go_wp2_with fail;go_ret2;exact oM.out _ Z.out
theorem E0 (z:br w v g E)(U:ia E A M B nm)(G:E.length<=1000):
  Calls prog 183 #[v,.string nm] w (jJ w A M):=by
 have y:=Pm z U G;unfold jJ at y;have Z:=ar y;have V:Hid (∀w',ay [] w w'->jJ w A M (.returned (.tuple #[.int .i64 (A.length:Int),.bool (!M.isEmpty)])) w'):=λw' h=>⟨rfl,h⟩
 clear z U G y;generalize (A.length:Int)=k at *;generalize (!M.isEmpty)=b at *;go_enter func183,ntmps183;go_wp2_with fail;refine Z.out.mono ?_;rintro e w' ⟨rfl,J⟩;have W:=ar J;clear J;go_wp2_with fail;go_ret2;exact V.out _ W.out
def Jk:List (ByteArray×Int)->Int
 | []=>0
 |p::_=>p.2
def xM (w:World) (M:List (ByteArray×Int)) (e:Ending) (w':World):Prop:=e= .returned (.tuple #[.int .i64 (Jk M),.bool (!M.isEmpty)])/\ay [] w w'
theorem ia.mid(h:ia E A M B nm)(y:M≠[]):A.length<E.length/\iC E A.length=Jk M:=by
 obtain⟨i,rfl⟩:=h.one.resolve_left y;have z:A.length<E.length:=by rw[h.eq,aD,aD];simp;omega
 refine⟨z,?_⟩;rw[iC,h.eq,aj,aT (aG _)];simp[Jk]
theorem M4 (n:bN){v:Value}{g:Nat}{A M B:List (ByteArray×Int)}{nm:ByteArray}(hB:n.B.length=13)(hE:br w v g n.E)(hs:ia n.E A M B nm)(Wf:n.E.length<=1000):
  Calls prog 156 #[.agg (aU n v),.string nm] w (xM w M):=by
 have eo:ay [] w (w.alloc (.cells (aU n v) 111)):=(ay.refl [] w).alloc _;have Ut:=E0 (hE.keep eo (by simp)) hs Wf;unfold jJ at Ut;have Z2:=ar hs.mid;have Wh:Hid ((M.isEmpty=true/\M=[])\/(M.isEmpty=false/\M≠[])):=by
  show _\/_;cases M with
  |nil=>exact .inl ⟨rfl,rfl⟩
  |cons a b=>exact .inr ⟨rfl,by simp⟩
 have HP:Hid (∀w',ay [] w w'->xM w M (.returned (.tuple #[.int .i64 (Jk M),.bool (!M.isEmpty)])) w'):=λw' h=>⟨rfl,h⟩
 obtain⟨a,cap,rfl,ag,W,uL⟩:=hE.open;have U:=jL (.slice a n.E.length cap) hB;have J:=bf.new w (aU n (.slice a n.E.length cap)) 111;generalize aU n (.slice a n.E.length cap)=Z at *;have Yk:Z[17]? =some (.slice a n.E.length cap):=U.f5;have af:(w.alloc (.cells Z 111)).cell? ⟨w.heap.size,17,none⟩=some (.slice a n.E.length cap):=by rw[J.cell];exact Yk
 have Kf:=ar Ut;have nW:=ar J;have gH:=ar eo;have ac:=ar Yk;unfold maxLen at W;clear U J eo Ut Yk hB hE hs;generalize hm:n.E.length=m at *;generalize aa:A.length=k at *;clear hm aa;go_enter func156,ntmps156;go_wp2_with fail;refine Kf.out.mono ?_;rintro e w2 ⟨rfl,y⟩;have fF:=ar y;have ah:w2.cell? ⟨w.heap.size,17,none⟩=some (.slice a m cap):=by rw[(nW.out.keep y (by simp)).cell];exact ac.out
 have rL:=ar (gH.out.trans' y);clear y af;rcases Wh.out with ⟨G,V⟩|⟨G,V⟩
 ·have oM:Hid (∀w',ay [] w w'->xM w M (.returned (.tuple #[.int .i64 0,.bool false])) w'):=λw' h=>by
   have :=HP.out w' h;rw[G,show Jk M=0 by rw[V];rfl] at this;exact this
  rw[G];clear G V Wh HP Z2 uL;go_wp2_with fail;go_ret2;exact oM.out _ rL.out
 ·obtain⟨EA,z⟩:=Z2.out V
  have oM:Hid (∀w',ay [] w w'->xM w M (.returned (.tuple #[.int .i64 (Jk M),.bool true])) w'):=λw' h=>by
   have :=HP.out w' h;rw[G] at this;exact this
  obtain⟨ae,off,rfl,-,d1⟩:=uL.out k EA;rw[z] at d1;have c1:w2.cell? ⟨g,off+k*2+1,none⟩=some (.int .i64 (Jk M)):=(aK (w:=w) (a:=⟨g,off+k*2+1,none⟩) (rL.out.block g ae (by simp))).trans d1;rw[G];have ya:(k:Int)<(m:Int):=by omega
  clear G V Wh HP Z2 uL d1 z;generalize Jk M=im at *;go_wp2_with fail;go_ret2;exact oM.out _ rL.out
theorem Jl{a:Option Addr}{n:Nat}(h:br w (.slice a n cap) g E)(k:Nat)(hk:k<=E.length):
  ∃U G,(∀y,(Instr.sliceAt 32 (.slice a n cap) none (some (.int .i64 (k:Int))) none).run prog y= .ok (.slice U k G) y)/\br w (.slice U k G) g (E.take k):=by
 have V: prog.underlying 32 =some (.slice (prog.elem 32)):=by kernel_rfl
 have he: prog.elem 32 = 87 :=by kernel_rfl
 have hs:∀y:World,(sizeOf 87).run prog y= .ok 2 y:=λy=>by kernel_rfl
 obtain⟨a0,W,Z,h1,h2,h3⟩:=h;cases Z;have z:(E.take k).length=k:=by rw[aI];omega
 refine⟨if cap=0 then a else a.map (·.add (0*2)),cap-0,λy=> ?_,_,_,by rw[z],by omega,by omega,λh0=> ?_⟩
 ·rw[run_sliceAt_slice _ _ _ _ _ _ V,run_slice_h _ _ _ _ _ V .i64 (k:Int) (by omega) (by omega),he,hs]
  simp only[bX,sliced,aJ,Nat.sub_zero]
 ·rw[z] at h0
  obtain⟨hg,off,rfl,hc⟩:=h3 (by omega);refine⟨hg,off,by rw[aA (by omega)];simp[add_plain],λj J=> ?_⟩;rw[z] at J;obtain⟨c0,c1⟩:=hc j (by omega);have e:(E.take k).getD j (ByteArray.empty,0)=E.getD j (ByteArray.empty,0):=by simp[J]
  rw[dZ,iC,e];exact⟨c0,c1⟩
theorem Gw{a:Option Addr}{n:Nat}(h:br w (.slice a n cap) g E)(k:Nat)(hk:k<=E.length):
  ∃J G,(∀y,(Instr.sliceAt 32 (.slice a n cap) (some (.int .i64 (k:Int))) none none).run prog y= .ok (.slice J (n-k) G) y)/\br w (.slice J (n-k) G) g (E.drop k):=by
 have U: prog.underlying 32 =some (.slice (prog.elem 32)):=by kernel_rfl
 have he: prog.elem 32 = 87 :=by kernel_rfl
 have hs:∀y:World,(sizeOf 87).run prog y= .ok 2 y:=λy=>by kernel_rfl
 obtain⟨a0,V,W,h1,h2,h3⟩:=h;cases W;have z:(E.drop k).length=E.length-k:=by rw[bu]
 refine⟨if cap=k then a else a.map (·.add (k*2)),cap-k,λy=> ?_,_,_,by rw[z],by omega,by omega,λZ=> ?_⟩
 ·rw[run_sliceAt_slice _ _ _ _ _ _ U,run_slice_l _ _ _ _ _ U .i64 (k:Int) (by omega) (by omega),he,hs]
  simp only[bX,sliced,aJ]
 ·rw[z] at Z
  obtain⟨hg,off,rfl,hc⟩:=h3 (by omega);refine⟨hg,off+k*2,by rw[aA (by omega)];simp[add_plain],λj hj=> ?_⟩;rw[z] at hj;obtain⟨c0,c1⟩:=hc (k+j) (by omega);have e:(E.drop k).getD j (ByteArray.empty,0)=E.getD (k+j) (ByteArray.empty,0):=by simp
  rw[show off+k*2+j*2=off+(k+j)*2 by omega,dZ,iC,e];exact⟨c0,c1⟩
def CL (w:World) (g:Nat) (A B:List (ByteArray×Int)) (e:Ending) (w':World):Prop:=
 ∃x y,e= .returned (.tuple #[x,y])/\br w x g A/\br w y g B/\ay [] w w'
theorem ia.takes(h:ia E A M B nm):E.take A.length=A/\E.drop (A.length+M.length)=B/\E.length=A.length+M.length+B.length/\(M.isEmpty=true->M.length=0)/\(M.isEmpty=false->M.length=1):=by
 refine⟨by rw[h.eq,List.take_left],by rw[h.eq,<-ba,<-aD,List.drop_left],by rw[h.eq,aD,aD];omega,λe=>by rw[List.isEmpty_iff.1 e];rfl,λe=> ?_⟩;rcases h.one with rfl|⟨i,rfl⟩
 ·cases e
 ·rfl
theorem Pn (Z:br w v g E)(hs:ia E A M B nm)(Wf:E.length<=1000):
  Calls prog 185 #[v,.string nm] w (CL w g A B):=by
 have Ut:=E0 Z hs Wf;unfold jJ at Ut;obtain⟨t1,t2,t3,t4,t5⟩:=hs.takes;obtain⟨a,cap,hv,-,-,-⟩:=Z.open;subst hv;obtain⟨a1,c1,G,W⟩:=Jl Z A.length (by omega);obtain⟨a2,c2,z,V⟩:=Gw Z (A.length+M.length) (by omega);rw[t1] at W;rw[t2] at V;have HP:Hid (∀w',ay [] w w'->CL w g A B (.returned (.tuple #[.slice a1 A.length c1,.slice a2 (E.length-(A.length+M.length)) c2])) w'):=λw' h=>⟨_,_,rfl,W,V,h⟩
 have Kf:=ar Ut;have T4:=ar t4;have T5:=ar t5;have T3:=ar t3;have Ud:=ar G;have Ue:=ar z;clear Ut W V Z hs t1 t2 t4 t5 G z;generalize hm:E.length=m at *;generalize hk:A.length=k at *;generalize MS:M.length=q at *;clear hm hk MS;have EA:k+q<=m:=by have :=T3.out;omega
 clear t3;cases hME:M.isEmpty
 ·obtain rfl:=T5.out hME
  rw[hME] at Kf;have G:=Ud.out;have z:=Ue.out;rw[show((k+1:Nat):Int)=(k:Int)+1 by omega] at z;clear T4 T5 hME;have aa:IntKind.i64.wrap ((k:Int)+1)=(k:Int)+1:=dV _ (by omega);go_enter func185,ntmps185;go_wp2_with fail;refine Kf.out.mono ?_;rintro e w2 ⟨rfl,U⟩;have fF:=ar U;clear U;go_wp2_with fail;refine dt (S:=λJ=>ay [] w J) (by kernel_rfl) (by kernel_rfl) (λd _ _ _ _ h=>by cases d<;>exact h) (fF.out.drew) (by kernel_rfl) ?_;repeat (first
   |(refine aH.cons (.slice a1 k c1) (aX.val rfl ?h) ?_;(case h=>(intro J y;clear y;go_simp;(try rw[G]);done));simp only[Act.put,ag,ah,ai])
   |(refine aH.cons (.slice a2 (m-(k+1)) c2) (aX.val rfl ?h) ?_;(case h=>(intro J y;clear y;go_simp;(try rw[z]);done));simp only[Act.put,ag,ah,ai])
   |(refine aH.cons ?_ (aX.val rfl ?h) ?_;(case h=>(intro J y;clear y;go_simp;rfl));simp only[Act.put,ag,ah,ai]))
  refine aH.done λJ y=> ?_
  have oF:=ar y;clear y;go_wp2_with fail;go_ret2;exact HP.out _ oF.out
 ·obtain rfl:=T4.out hME
  rw[hME] at Kf;have G:=Ud.out;have z:=Ue.out;rw[dP] at z;clear T4 T5 hME;go_enter func185,ntmps185;go_wp2_with fail;refine Kf.out.mono ?_;rintro e w2 ⟨rfl,U⟩;have fF:=ar U;clear U;go_wp2_with fail;refine dt (S:=λJ=>ay [] w J) (by kernel_rfl) (by kernel_rfl) (λd _ _ _ _ h=>by cases d<;>exact h) (fF.out.drew) (by kernel_rfl) ?_;repeat (first
   |(refine aH.cons (.slice a1 k c1) (aX.val rfl ?h) ?_;(case h=>(intro J y;clear y;go_simp;(try rw[G]);done));simp only[Act.put,ag,ah,ai])
   |(refine aH.cons (.slice a2 (m-k) c2) (aX.val rfl ?h) ?_;(case h=>(intro J y;clear y;go_simp;(try rw[z]);done));simp only[Act.put,ag,ah,ai])
   |(refine aH.cons ?_ (aX.val rfl ?h) ?_;(case h=>(intro J y;clear y;go_simp;rfl));simp only[Act.put,ag,ah,ai]))
  refine aH.done λJ y=> ?_
  have oF:=ar y;clear y;go_wp2_with fail;go_ret2;exact HP.out _ oF.out
theorem wD{P:Program}(w:World)(t Z e:TypeId)(i:TypeInfo)(z:Value)(kq kn:IntKind)(size:Nat)(ht:P.underlying t=some (.slice e))(V:P.underlying Z=some (.int kn))(hi:P.info? e=some i)(hz:i.zero=some z)(ac:i.size=size)(aa:0<size)(VS:z.cells.size=size)
  (k:Nat) (h0:0<k) (hk:k<=1000) (y:i.bytes<=64):
  ∃c w',(∀ty,(Builtin.append_ #[t,Z] ty #[.slice none 0 0,.int kq k]).run P w= .ok (.slice (some ⟨w.heap.size,0,none⟩) k c) w')/\k<=c/\w'.ownsRow w.heap.size e size (.slice (some ⟨w.heap.size,0,none⟩) 0 c) 0 []/\ay [] w w':=by
 have W:(Builtin.firstCells i.size 0 (.slice none 0 0)).run P w.drew= .ok ([]:List Value).toArray w.drew:=by simp[Builtin.firstCells]
 have U:Builtin.nextslicecap (0+k) 0<=4*1000+64:=by
  unfold Builtin.nextslicecap;split<;>omega
 have h1:k*i.bytes<=281474976710656:=cJ (Nat.mul_le_mul hk y) (by omega);have h2:Builtin.nextslicecap (0+k) 0*i.bytes<=281474976710656:=cJ (Nat.mul_le_mul U y) (by omega);have h:=λty=>Lib.run_append_grow_zeros w t Z ty e i z kq kn ht V hi hz none 0 0 [] W k h0 (by omega) (by omega) (by omega) h1 h2
 have J:=grownCap_ge w (0+k) 0 e;have G:=grownCap_le_maxLen w (0+k) 0 e (by unfold maxLen;omega);rw[aV] at J G;simp only[aV] at h;refine⟨_,_,h,J,⟨by simp,.inr ⟨w.heap.size,grownCap w k 0 e,_,rfl,aG _,bf.new w.drew _ _,eD _,G,?_,by simp⟩⟩,((ay.refl [] w).drew).alloc _⟩;simp[lT,VS];rw[<-Nat.add_mul]
 congr 1
 omega
theorem Tryz.info_ent9:(prog.info? 87).map (λi=>(i.zero,i.size,i.bytes))=some (some (.agg #[.string ⟨#[]⟩,.int .i64 0]),2,24):=by kernel_rfl
theorem S7 (k:Nat)(hk:k<=1000)(y:Int)(V:y=(k:Int))(w:World):Calls prog 208 #[.slice none 0 0,.int .i64 y] w λe w'=>
  ∃v,e= .returned v/\w'.ownsRow w.heap.size 87 2 v 0 []/\ay [] w w':=by
 rcases eK k with rfl|h0
 ·obtain rfl:y=0:=by omega
  clear V hk;go_enter func208,ntmps208;go_wp2_with fail;go_ret;exact⟨_,rfl,⟨rfl,.inl ⟨rfl,rfl⟩⟩,ay.refl _ _⟩
 ·obtain⟨i0,W,G,U,J⟩:=cr Tryz.info_ent9
  obtain⟨c,w',Z,hc,h,z⟩:=wD (P:= prog) w 32 3 87 i0 _ .i64 .i64 2 underlying32 underlying3 W G U (by omega) rfl k h0 hk (by rw[J];omega);have h1:¬y<0:=by omega
  have h2:0<y:=by omega
  have h3:wrap64 y=y:=by unfold wrap64;omega
  simp only[<-V] at Z;have HO:=ar h;have HK:=ar z;have aa:c≠0:=by omega
  have ac:(0:Int)<=(c:Int):=by omega
  clear h z V W G U J hc;go_enter func208,ntmps208;go_wp2_with(at_builtin;refine wpList_append_run rfl (.tmp 20) (.tmp 21) 32 3 ?_ (.slice none 0 0) (.int .i64 y) ?_ ?_ (Z _) ?_;all_goals first|rfl|skip);go_ret;exact⟨_,rfl,HO.out,HK.out⟩
theorem Gx{a:Option Addr}{m c:Nat}(h:br w (.slice a m c) g E)(V:m≠0):∃z,a=some z/\∀j u,(dH E)[j]? =some u->w.cell? (z.add j)=some u:=by
 obtain⟨a',c',h1,h2,h3,h4⟩:=h;cases h1;obtain⟨-,off,rfl,W⟩:=h4 V;refine⟨_,rfl,λj u y=> ?_⟩;have U:j<(dH E).length:=(List.getElem?_eq_some_iff.1 y).1;rw[jb] at U;obtain⟨G,J⟩:=W (j/2) (by omega);obtain⟨Z,e1⟩:=na E (j/2) (by omega);rw[add_plain];rcases Nat.mod_two_eq_zero_or_one j with h|h
 ·rw[show off+j=off+j/2*2 by omega,G,<-Z,show j/2*2=j by omega,y]
 ·rw[show off+j=off+j/2*2+1 by omega,J,<-e1,show j/2*2+1=j by omega,y]
def mS (Ls:List (List (ByteArray×Int))) (j:Nat):Nat:=(Ls.take j).flatten.length
theorem E9 (Ls:List (List (ByteArray×Int)))(j:Nat)(h:j<Ls.length):(Ls.take (j+1)).flatten=(Ls.take j).flatten++Ls.getD j []:=by
 rw[bz h,List.flatten_append];simp[h]
theorem LH (Ls:List (List (ByteArray×Int)))(j:Nat)(h:j<Ls.length):mS Ls (j+1)=mS Ls j+(Ls.getD j []).length:=by
 unfold mS;rw[E9 Ls j h,aD]
theorem S8 (Ls:List (List (ByteArray×Int)))(j:Nat):mS Ls j<=Ls.flatten.length:=by
 unfold mS;have :=b8 List.flatten (ey j Ls);rw[List.flatten_append] at this;rw[<-this,aD];omega
theorem Po (Ls:List (List (ByteArray×Int))):mS Ls Ls.length=Ls.flatten.length:=by
 unfold mS;rw[gY]
def Fa (w:World) (E:List (ByteArray×Int)) (e:Ending) (w':World):Prop:=∃v g,e= .returned v/\br w' v g E/\w.heap.size<=g/\ay [] w w'
theorem LI{gs T:Nat}{xs:List Value}{Ls:List (List (ByteArray×Int))}(hb:bf w gs xs.toArray T)(hl:xs.length=Ls.length)(hm:xs.length<=10)
  (hr:∀j,j<xs.length->∃g,br w (xs.getD j (.slice none 0 0)) g (Ls.getD j [])) (hn:Ls.flatten.length<=1000):
  Calls prog 187 #[.slice (some ⟨gs,0,none⟩) xs.length xs.length] w (Fa w Ls.flatten):=by
 obtain⟨i0,hi,ak,av,au⟩:=cr Tryz.info_ent9;have HR:Hid (∀j,j<xs.length->∃a c g,xs.getD j (.slice none 0 0)= .slice a (Ls.getD j []).length c/\br w (.slice a (Ls.getD j []).length c) g (Ls.getD j [])/\(Ls.getD j []).length<=c/\∀G,ay [] w G->G.cell? ⟨gs,j,none⟩=some (.slice a (Ls.getD j []).length c)):=λj hj=>by
  obtain⟨g,W⟩:=hr j hj;obtain⟨a,c,hv,h1,h2,-⟩:=W.open;refine⟨a,c,g,hv,by rw[hv] at W;exact W,h1,λG hk=> ?_⟩;rw[(hb.keep hk (by simp)).cell,aC,<-hv,aj,aF hj];rfl
 have Xa:Hid (∀j,j<xs.length->mS Ls (j+1)=mS Ls j+(Ls.getD j []).length/\(Ls.take (j+1)).flatten=(Ls.take j).flatten++Ls.getD j []):=λj hj=>⟨LH Ls j (by omega),E9 Ls j (by omega)⟩
 have Qx:Hid (∀j,mS Ls j<=1000):=λj=>cJ (S8 Ls j) hn
 have Vy:Hid (mS Ls xs.length=Ls.flatten.length/\(Ls.take xs.length).flatten=Ls.flatten):=by
  show _/\_;rw[hl];exact⟨Po Ls,by rw[gY]⟩
 clear hr hb hl hn;generalize ai:xs.length=m at *;clear ai;have ae:=λ(k:Nat) (hk:k<=1000) (ki:Int) (ya:ki=(k:Int)) G=>S7 k hk ki ya G
 have HG:=ar ae;clear ae;go_enter func187,ntmps187;go_wp2_with fail;go_loopg [3,11] m (λgh s3 NZ G=>∃j:Nat,j+gh=m/\NZ= .int .i64 (j:Int)/\s3= .int .i64 ((mS Ls j:Nat):Int)/\w=G)
 case atStart=>exact⟨0,by omega,rfl,rfl,rfl⟩
 case round=>
  obtain⟨j,hj,rfl,rfl,rfl⟩:=hrel;cases gk with
  |succ gg=>
   have ah:j<m:=by omega
   have KJ:(j:Int)<(m:Int):=by omega
   have zz:(0:Int)<=(j:Int):=by omega
   obtain⟨a,c,g,-,-,U,z⟩:=HR.out j ah;have c0:=z w (ay.refl _ _);obtain⟨y,-⟩:=Xa.out j ah;have V:=Qx.out (j+1);have HQ:Hid (((mS Ls (j+1):Nat):Int)=((mS Ls j:Nat):Int)+(((Ls.getD j []).length:Nat):Int)):=by show _=_;omega
   rw[y] at V;clear y z U;generalize mS Ls j=q at *;generalize (Ls.getD j []).length=l at *;have az:¬(q:Int)+(l:Int)<0:=by omega
   go_wp2_with fail;go_roundg gg;case measure=>omega
   case rel=>exact⟨j+1,by omega,by go_num,by rw[HQ.out],rfl⟩
  |zero=>
   obtain rfl:j=m:=by omega
   have V:=Qx.out j;have af:=HG.out (mS Ls j) V _ rfl w;clear HG;go_wp2_with fail;refine af.mono ?_;rintro e w1 ⟨v0,rfl,h,ag⟩;have HO:=ar h;have HK:=ar ag;clear h ag af;go_wp2_with fail;go_loopg [6,27] j (λgh s6 s27 G=>∃i:Nat,i+gh=j/\s27= .int .i64 (i:Int)/\Hid (G.ownsRow w.heap.size 87 2 s6 (mS Ls i) (dH (Ls.take i).flatten)/\ay [] w G))
   case atStart=>exact⟨0,by omega,rfl,HO.out,HK.out⟩
   case round=>
    clear HO HK;obtain⟨i,aA,rfl,HP⟩:=hrel;obtain⟨h,J⟩:=HP.out;cases gk with
    |zero=>
     obtain rfl:i=j:=by omega
     have HM:Hid (Fa w Ls.flatten (.returned u6) wr):=by
      obtain⟨g,Z,hg⟩:=eQ.of_row h;rw[Vy.out.1,Vy.out.2] at Z;by_cases h0:Ls.flatten.length=0
      ·exact⟨u6,w.heap.size,rfl,(Z.anyG h0 w.heap.size).ereads rfl,aG _,J⟩
      ·exact⟨u6,g,rfl,Z.ereads rfl,(hg (by rw[Vy.out.1];exact h0)).1,J⟩
     clear h J HP;go_wp2_with fail;go_ret;exact HM.out
    |succ gg=>
     have aa:i<j:=by omega
     have ax:(i:Int)<(j:Int):=by omega
     have aB:(0:Int)<=(i:Int):=by omega
     obtain⟨a,c,g,-,W,U,z⟩:=HR.out i aa;have e0:=z _ J;obtain⟨y,ac⟩:=Xa.out i aa;have UR:=Qx.out (i+1);rw[y] at UR;obtain⟨v',w',hr,Z,hg⟩:=jV (P:= prog) 32 87 32 i0 _ 2 24 underlying32 hi ak av au rfl (by omega) w.heap.size (mS Ls i) _ _ h a (Ls.getD i []).length c (dH (Ls.getD i [])) (jb _) (Gx (W.keep J (by simp))) (rA _) (by unfold maxLen;omega) (by omega) J.size;have HN:Hid (w'.ownsRow w.heap.size 87 2 v' (mS Ls (i+1)) (dH (Ls.take (i+1)).flatten)/\ay [] w w'):=by
      refine⟨?_,J.grown hg (cz h)⟩;rw[y,ac,lN];exact Z
     clear h J HP Z hg z y ac W U;generalize (Ls.getD i []).length=l at *;go_wp2_with(at_builtin;refine wpList_append_run rfl (.tmp 31) (.tmp 32) 32 32 ?_ u6 (.slice a l c) ?_ ?_ hr ?_;all_goals first|rfl|skip);go_roundg gg;case measure=>omega
     case rel=>exact⟨i+1,by omega,by go_num,HN.out⟩
def lK (n:bN) (E:List (ByteArray×Int)):bN:={ n with S:=(E.length:Int),E:=E }
theorem LJ (n:bN)(v u:Value)(E:List (ByteArray×Int))(h:n.B.length=13)(m:Int)(y:m=(E.length:Int)):((aU n v).setIfInBounds 17 u).setIfInBounds 3 (.int .i64 m)=aU (lK n E) u:=by
 subst y;have G:aU n v=(([.int .i64 n.F,.int .i64 n.K,.int .i64 n.L,.int .i64 n.S]:List Value)++(zs n.B++[v])).toArray:=rfl;have z:(([.int .i64 n.F,.int .i64 n.K,.int .i64 n.L,.int .i64 n.S]:List Value)++(zs n.B++[v])).set 17 u=([.int .i64 n.F,.int .i64 n.K,.int .i64 n.L,.int .i64 n.S]:List Value)++(zs n.B++[u]):=by
  rw[cQ _ _ (by simp),cQ _ _ (by rw[dG,h];simp),dG,h];rfl
 rw[G,ag,ag,z];rfl
theorem Pp (n:bN)(v:Value)(W:n.B.length=13){a:Option Addr}{c:Nat}(E:List (ByteArray×Int))(m:Nat)(hm:m=E.length):
  Calls prog 186 #[.agg (aU n v),.slice a m c] w λe w'=>e= .returned (.agg (aU (lK n E) (.slice a m c)))/\ay [] w w':=by
 have hl:(aU n v).size=18:=by rw[aU,bH,fT,W]
 have G:(aU cX (.slice none 0 0)).size=18:=rfl;have aa:=jL v W;have Ut:=LJ n v (.slice a m c) E W (m:Int) (by omega);have y:∀u∈mr (lK n E) (.slice a m c),u.oneCell'=true:=jD rfl;have af:=fu;have ac:aU (lK n E) (.slice a m c)=(mr (lK n E) (.slice a m c)).toArray:=rfl;have h:(mr (lK n E) (.slice a m c)).length=18:=by rw[fT];show n.B.length+5=18;omega
 generalize aU cX (.slice none 0 0)=z at *;generalize aU n v=Z at *;generalize aU (lK n E) (.slice a m c)=Z1 at *;generalize mr (lK n E) (.slice a m c)=V at *;subst ac;have U:=(bf.new w ((Z.setIfInBounds 17 (.slice a m c)).setIfInBounds 3 (.int .i64 (m:Int))) 111).alloc (.cells z 111);have qg:=bf.new (w.alloc (.cells ((Z.setIfInBounds 17 (.slice a m c)).setIfInBounds 3 (.int .i64 (m:Int))) 111)) z 111;rw[show(w.alloc (.cells ((Z.setIfInBounds 17 (.slice a m c)).setIfInBounds 3 (.int .i64 (m:Int))) 111)).heap.size=w.heap.size+1 by simp] at qg;have J:ay [] w ((w.alloc (.cells ((Z.setIfInBounds 17 (.slice a m c)).setIfInBounds 3 (.int .i64 (m:Int))) 111)).alloc (.cells z 111)):=((ay.refl [] w).alloc _).alloc _;have nC:Hid ((loadVar 111 ⟨w.heap.size,0,none⟩).run prog ((w.alloc (.cells ((Z.setIfInBounds 17 (.slice a m c)).setIfInBounds 3 (.int .i64 (m:Int))) 111)).alloc (.cells z 111))= .ok (.agg V.toArray) ((w.alloc (.cells ((Z.setIfInBounds 17 (.slice a m c)).setIfInBounds 3 (.int .i64 (m:Int))) 111)).alloc (.cells z 111))):=
  bE _ 0 V underlying111 rfl (by rw[h];exact iH) λj _=>by rw[U.cell,Ut,aV,aC]
 obtain⟨w5,q1,q2,q3⟩:=bo (P:= prog) (ty:= 111) (cs:=V) (by rw[h];exact iH) qg (by rw[h];exact G) y;have HS:=ar q1;have EG:Hid ((loadVar 111 ⟨w.heap.size+1,0,none⟩).run prog w5= .ok (.agg V.toArray) w5):=
  bE _ 0 V underlying111 rfl (by rw[h];exact iH) λj _=>by rw[q2.cell,aV,aC]
 have iA:Hid (ay [] w w5):=J.trans q3 (by intro x hx;rw[au] at hx;omega);have O4:17<Z.size:=by omega
 have ae:3<Z.size:=by omega
 clear U qg J aa Ut y hl G q1 q2 q3 hm W h;go_enter func186,ntmps186;go_wp2_with(first|(with_reducible refine gL 111 nC.out ?_)|(with_reducible refine gS 111 HS.out ?_));exact aL (dJ results186 rfl EG.out) rfl ⟨rfl,iA.out⟩
def CM (w:World) (n:bN) (L:List (ByteArray×Int)) (e:Ending) (w':World):Prop:=∃u g,e= .returned (.agg (aU (lK n L) u))/\br w' u g L/\w.heap.size<=g/\ay [] w w'
theorem adV (w:World)(x:ByteArray)(i:Int)(g T:Nat)(h:bf w g #[.string x,.int .i64 i] T):br w (.slice (some ⟨g,0,none⟩) 1 1) g [(x,i)]:=
 ⟨_,1,rfl,aG _,by unfold maxLen;omega,λ_=>⟨h.lt,0,rfl,λj y=>by
  obtain rfl:j=0:=by simpa using y
  exact⟨by rw[h.cell];rfl,by rw[h.cell];rfl⟩⟩⟩
theorem acd{P:Nat->Prop}(y:P 0)(z:P 1)(h:P 2):∀j,j<3->P j:=λj G=>by
 rcases (show j=0\/j=1\/j=2 by omega) with rfl|rfl|rfl
 ·exact y
 ·exact z
 ·exact h
theorem ia.newLen(h:ia E A M B nm)(i:Int):(A++([(nm,i)]++B)).length<=E.length+1/\(A++B).length<=E.length:=by
 rw[h.eq];simp only[aD,bF,b9];omega
theorem S9 (n:bN){v:Value}{g:Nat}{A M B:List (ByteArray×Int)}{nm:ByteArray}(i:Int)(hB:n.B.length=13)(hE:br w v g n.E)(hs:ia n.E A M B nm)(Wf:n.E.length<=500):
  Calls prog 158 #[.agg (aU n v),.agg #[.string nm,.int .i64 i]] w (CM w n (A++([(nm,i)]++B))):=by
 have aG:=hs.newLen i;obtain⟨L,hL⟩:∃L,A++([(nm,i)]++B)=L:=⟨_,rfl⟩;rw[hL] at aG ⊢;have HL:=ar hL;have aB:(aU cX (.slice none 0 0)).size=18:=rfl;have ba:=fu;have af:=((bf.new w (aU n v) 111).alloc (.cells #[.string nm,.int .i64 i] 87)).alloc (.cells (aU cX (.slice none 0 0)) 111);have ae:=(bf.new (w.alloc (.cells (aU n v) 111)) #[.string nm,.int .i64 i] 87).alloc (.cells (aU cX (.slice none 0 0)) 111);have aj:=bf.new ((w.alloc (.cells (aU n v) 111)).alloc (.cells #[.string nm,.int .i64 i] 87)) (aU cX (.slice none 0 0)) 111;rw[show(w.alloc (.cells (aU n v) 111)).heap.size=w.heap.size+1 by simp] at ae;rw[show((w.alloc (.cells (aU n v) 111)).alloc (.cells #[.string nm,.int .i64 i] 87)).heap.size=w.heap.size+2 by simp] at aj;have ak:ay [] w (((w.alloc (.cells (aU n v) 111)).alloc (.cells #[.string nm,.int .i64 i] 87)).alloc (.cells (aU cX (.slice none 0 0)) 111)):=(((ay.refl [] w).alloc _).alloc _).alloc _;have aM:=Pn (hE.keep ak (by simp)) hs (by omega);have AV:Hid (L.length<=1000):=by show _<=_;omega
 have aA:=jL v hB;have aa:∀u:Value,u.oneCell'=true->∀x∈mr (lK n L) u,x.oneCell'=true:=λu hu=>jD hu
 have aO:=ar aa;have aF:Hid (∀U a c,Calls prog 186 #[.agg (aU n v),.slice a L.length c] U λe w'=>e= .returned (.agg (aU (lK n L) (.slice a L.length c)))/\ay [] U w'):=λU a c=>Pp n v hB L _ rfl
 have az:∀u,(mr (lK n L) u).length=18:=λu=>by rw[fT];show n.B.length+5=18;omega
 have Er:=ar az;obtain⟨a,cap,rfl,aK,aP,-⟩:=hE.open;have Yk:=aA.f5;have aX:Hid (∀U,bf U w.heap.size (aU n (.slice a n.E.length cap)) 111->(loadVar 111 ⟨w.heap.size,0,none⟩).run prog U= .ok (.agg (aU n (.slice a n.E.length cap))) U):=λU hb=>cC hb hB
 generalize aU cX (.slice none 0 0)=Z0 at *;generalize aU n (.slice a n.E.length cap)=Z at *;have aZ:(((w.alloc (.cells Z 111)).alloc (.cells #[.string nm,.int .i64 i] 87)).alloc (.cells Z0 111)).cell? ⟨w.heap.size,17,none⟩=some (.slice a n.E.length cap):=by rw[af.cell];exact Yk
 have aD:=ar aM;have nW:=ar af;have qD:=ar ae;have oL:=ar aj;have fF:=ar ak;have H0:=ar aB;clear aM af ae aj ak aA aa az aB hE hs aG Wf Yk hB aK aP hL;go_enter func158,ntmps158;go_wp2_with fail;refine aD.out.mono ?_;rintro e G ⟨x,y,rfl,V,hy,J⟩;obtain⟨a1,c1,aT,-,-,-⟩:=V.open;obtain⟨a2,c2,aS,-,-,-⟩:=hy.open;subst aT aS;have aQ:w.heap.size+3<=G.heap.size:=by have :=J.size;simp at this;omega
 have ax:=ar aQ;have nW:=ar (nW.out.keep J (by simp));have qD:=ar (qD.out.keep J (by simp));have oL:=ar (oL.out.keep J (by simp));have lV:=ar (fF.out.trans' J);have HX:=ar (V.keep J (by simp));have HY:=ar (hy.keep J (by simp));clear V hy J aD aQ aZ;go_wp2_with fail;refine Aq (S:=λU=>ay [w.heap.size+2] G U) [0,1,2,4] [3,5,6,7,8] (l:=[_,_,_,_]) (tl:=[_,_,_,_,_]) (by kernel_rfl) (by kernel_rfl) (by kernel_rfl) (by kernel_rfl) rfl rfl rfl rfl rfl (λd _ _ _ _ h=>by cases d<;>exact h) (ay.refl _ _).drew ?_;refine eA.cons _ (YieldsIf.load rfl 111 (.tmp 2) rfl _ rfl λU V=>aX.out U (nW.out.keep V (by simp))) ?_;simp only[Act.put,ag];refine eA.cons ?_ (YieldsIf.val rfl ?h) ?_;(case h=>(intro U V;clear V;go_simp;rfl));simp only[Act.put];refine eA.cons _ (YieldsIf.load rfl 87 (.tmp 3) rfl _ rfl λU V=>wu (by rw[(qD.out.keep V (by simp)).cell];rfl) (by rw[(qD.out.keep V (by simp)).cell];rfl)) ?_;simp only[Act.put];refine eA.cons ?_ (YieldsIf.val rfl ?h) ?_;(case h=>(intro U V;clear V;go_simp;rfl));simp only[Act.put];refine eA.done ?_;unfold jU;go_wp2_with fail;refine⟨((ay.refl _ _).drew).alloc _,?_⟩;unfold jU;go_wp2_with fail;refine⟨(((ay.refl _ _).drew).alloc _).alloc _,?_⟩;unfold jU;have kr:ay [] G (((G.alloc (.cells #[.string nm,.int .i64 i] 87)).alloc (.cells #[.slice a1 A.length c1,.slice (some ⟨G.heap.size,0,none⟩) 1 1,.slice a2 B.length c2] 32)).drew):=(((ay.refl _ _).alloc _).alloc _).drew;have qg:bf (((G.alloc (.cells #[.string nm,.int .i64 i] 87)).alloc (.cells #[.slice a1 A.length c1,.slice (some ⟨G.heap.size,0,none⟩) 1 1,.slice a2 B.length c2] 32)).drew) G.heap.size #[.string nm,.int .i64 i] 87 :=((bf.new G _ _).alloc _).drew;have AP:bf (((G.alloc (.cells #[.string nm,.int .i64 i] 87)).alloc (.cells #[.slice a1 A.length c1,.slice (some ⟨G.heap.size,0,none⟩) 1 1,.slice a2 B.length c2] 32)).drew) (G.heap.size+1) ([.slice a1 A.length c1,.slice (some ⟨G.heap.size,0,none⟩) 1 1,.slice a2 B.length c2]:List Value).toArray 32 :=by
  have :=(bf.new (G.alloc (.cells #[.string nm,.int .i64 i] 87)) #[.slice a1 A.length c1,.slice (some ⟨G.heap.size,0,none⟩) 1 1,.slice a2 B.length c2] 32).drew;rwa[show(G.alloc (.cells #[.string nm,.int .i64 i] 87)).heap.size=G.heap.size+1 by simp] at this
 have ac:[A,[(nm,i)],B].flatten=L:=by rw[<-HL.out];simp
 have aI:=HX.out.keep kr (by simp);have aN:=HY.out.keep kr (by simp);have aJ:=adV _ nm i _ _ qg;have W:=LI (Ls:=[A,[(nm,i)],B]) AP rfl (by simp)
  (acd (P:=λj=>∃g,br (((G.alloc (.cells #[.string nm,.int .i64 i] 87)).alloc (.cells #[.slice a1 A.length c1,.slice (some ⟨G.heap.size,0,none⟩) 1 1,.slice a2 B.length c2] 32)).drew) (([.slice a1 A.length c1,.slice (some ⟨G.heap.size,0,none⟩) 1 1,.slice a2 B.length c2]:List Value).getD j (.slice none 0 0)) g ([A,[(nm,i)],B].getD j [])) ⟨g,aI⟩ ⟨_,aJ⟩ ⟨g,aN⟩)
  (by rw[ac];exact AV.out)
 rw[ac] at W;have SH:=ar W;have pk:=ar kr;clear W kr qg AP ac aI aN aJ;go_wp2_with fail;refine SH.out.mono ?_;rintro e w6 ⟨u,gu,rfl,hu,aH,jZ⟩;obtain⟨a6,c6,aY,-,-,-⟩:=hu.open;subst aY;have nM:=ar (pk.out.trans' jZ);have HU:=ar hu;have av:Hid (G.heap.size<=gu):=cJ pk.out.size aH;clear hu aH jZ SH pk;have HV:=ar (aF.out w6 a6 c6);have aW:=ar (aO.out (.slice a6 L.length c6) rfl);have Z3:=ar (Er.out (.slice a6 L.length c6));have Rx:Hid (aU (lK n L) (.slice a6 L.length c6)=(mr (lK n L) (.slice a6 L.length c6)).toArray):=rfl;have MI:Hid (∀w',br w' (.slice a6 L.length c6) gu L->ay [] w w'->CM w n L (.returned (.agg (aU (lK n L) (.slice a6 L.length c6)))) w'):=λw' h1 h2=>⟨_,gu,rfl,h1,by have :=av.out;have :=ax.out;omega,h2⟩
 clear aO Er aF;generalize aU (lK n L) (.slice a6 L.length c6)=Z6 at *;generalize mr (lK n L) (.slice a6 L.length c6)=ZL at *;generalize L.length=m at *;go_wp2_with fail;refine⟨nM.out.mono (by simp),?_⟩;unfold jU;go_wp2_with fail;refine HV.out.mono ?_;rintro e w7 ⟨rfl,Df⟩;have Ha:=ar (nM.out.trans' Df);have aR:=ar (HU.out.keep Df (by simp));obtain⟨w8,q1,q2,q3⟩:=bo (P:= prog) (ty:= 111) (cs:=ZL) (by rw[Z3.out];exact iH) (oL.out.keep Ha.out (by simp)) (by rw[Z3.out];exact H0.out) aW.out;rw[<-Rx.out] at q1;have HS:=ar q1;have Um:Hid ((loadVar 111 ⟨w.heap.size+2,0,none⟩).run prog w8= .ok (.agg Z6) w8):=by
  rw[Rx.out];exact bE _ 0 ZL underlying111 rfl (by rw[Z3.out];exact iH) λj _=>by rw[q2.cell,aV,aC]
 have QG:=ar ((Ha.out.mono (l':=[w.heap.size+2]) (by simp)).trans' q3);have HF:=ar (MI.out w8 (aR.out.keep q3 (by have :=av.out;have :=ax.out;intro _ h;rw[au] at h;omega)) (lV.out.trans QG.out (by intro z hz;rw[au] at hz;omega)));clear q1 q2 q3 Df HV MI;go_wp2_with fail;refine⟨Ha.out.mono (by simp),?_⟩;unfold jU;refine qw rfl 111 (.tmp 4) (.tmp 22) rfl ⟨w.heap.size+2,0,none⟩ rfl (.agg Z6) rfl w8 HS.out ?_;go_wp2_with fail;refine⟨QG.out,?_⟩;unfold jU;go_wp2_with fail;exact aL (dJ results158 rfl Um.out) rfl HF.out
theorem fW{T:Nat}{h:Array Value}(z:bf w g h T)(G:h.size=18)(y:n.B.length=13)(J:v.oneCell'=true):
  ∃w',(storeVar 111 ⟨g,0,none⟩ (.agg (aU n v))).run prog w= .ok () w'/\bf w' g (aU n v) T/\ay [g] w w':=
 bo (P:= prog) (ty:= 111) (cs:=mr n v) (by rw[fT,y];exact iH) z (by rw[G,fT,y]) (jD J)
theorem br.one(h:br w v g E):v.oneCell'=true:=by
 obtain⟨a,cap,rfl,-⟩:=h;rfl
end Go.Proofs.YtepbpdipenedhaaGreatDoor
