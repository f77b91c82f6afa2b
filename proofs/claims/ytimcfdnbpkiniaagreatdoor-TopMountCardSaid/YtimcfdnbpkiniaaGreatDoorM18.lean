/- Lemmas. -/
import Derived.Test.YtimcfdnbpkiniaaGreatDoorM17
import Derived.Lib.Bytealg
set_option maxHeartbeats 4000000
set_option maxRecDepth 100000
namespace Go.Proofs.YtimcfdnbpkiniaaGreatDoor
open Go.Proofs.Tryz
open Go.RowKit
section
variable{T:List (bT×Value)}{d i:Int}{R:List Int}{cap g k:Nat}{a b nm:ByteArray}{n:bT}{A B E M:List (ByteArray×Int)}{w:World}{v:Value}{P:Nat->Prop}
def o7 (T:List (bT×Value)) (a:Int):List Int:=if 0<=a/\a<32 then (nT T a.toNat).E.map (·.2) else []
inductive Reach (T:List (bT×Value)) (d:Int):Int->Prop
 |here:Reach T d d
 |step {a b:Int}:Reach T d a->b∈o7 T a->Reach T d b
def aey (T:List (bT×Value)):Prop:=∀i,(nT T i).F=0->(nT T i).E=[]
def Q5 (T:List (bT×Value)):Prop:=∀a,∀b∈o7 T a,0<=b/\b<32
theorem ag5 (U:aey T)(hR:ag4 T)(hF:∀i:Nat,i<32->0<=(nT T i).F):Q5 T:=λa b h=>by
 unfold o7 at h;split at h
 ·next ha=>
  have h1:=hF a.toNat (by omega);by_cases V:(nT T a.toNat).F=0
  ·rw[U _ V] at h;simp at h
  ·obtain⟨k,z,J⟩:=bW h
   rw[bY] at z;rw[ic] at J;rcases (hR a.toNat (by omega) (by omega)).2.2 with ⟨-,G⟩|⟨-,G⟩
   ·have :=G.2.1;omega
   ·have W:=(G.2.2.2 k z).2.1
    have e:jm (nT T a.toNat).E k=b:=by
     rw[<-J];simp[jm,z]
    rw[e] at W;omega
 ·simp at h
theorem Reach.rng(z:Q5 T){d x:Int}(h:Reach T d x):x=d\/(0<=x/\x<32):=by
 cases h with
 |here=>exact .inl rfl
 |step _ hb=>exact .inr (z _ _ hb)
theorem Reach.closed{P:Int->Prop}(z:P d)(G:∀a,P a->∀b∈o7 T a,P b){x:Int}(h:Reach T d x):P x:=by
 induction h with
 |here=>exact z
 |step _ hb ih=>exact G _ ih _ hb
theorem J1:∀(l m:List Int),l.Nodup->(∀x∈l,x∈m)->l.length<=m.length
 | [],_,_,_=>fD _
 |a::l,m,hn,h=>by
  have J:=List.nodup_cons.1 hn;have z:=h a (by simp);have V:=J1 l (m.erase a) J.2 λx U=>by
   have G:x≠a:=λe=>J.1 (e▸U)
   exact(List.mem_erase_of_ne G).2 (h x (by simp[U]))
  rw[List.length_erase_of_mem z] at V;have :m.length≠0:=λe=>by rw[bo e] at z;simp at z
  rw[cu];omega
structure rV (T:List (bT×Value)) (d i:Int) (R:List Int) (k:Nat):Prop where
 nodup:R.Nodup
 reach:∀x∈R,Reach T d x
 first:d∈R
 le:k<=R.length
 done:∀j,j<k->∀x,R[j]? =some x->x≠i/\∀b∈o7 T x,b∈R
theorem rV.start(T:List (bT×Value))(d i:Int):rV T d i [d] 0:=
 ⟨List.nodup_cons.2 ⟨by simp,List.nodup_nil⟩,λx h=>by rw[au] at h;subst h;exact .here,by simp,fD _,λj z=>by omega⟩
theorem rV.len(G:Q5 T){d i:Int}{R:List Int}{k:Nat}(h:rV T d i R k):R.length<=33:=by
 have z:=J1 R (d::(List.range 32).map λn:Nat=>(n:Int)) h.nodup λx J=>by
  rcases (h.reach x J).rng G with e|⟨z,U⟩
  ·rw[e];simp
  ·refine jc _ (bH.2 ⟨x.toNat,b7.2 (by omega),by omega⟩)
 rw[cu,bY,fL] at z;exact z
theorem rV.found(h:rV T d i R k){x:Int}(z:R[k]? =some x)(e:x=i):Reach T d i:=by
 rw[<-e];exact h.reach x (List.mem_of_getElem? z)
theorem rV.ended(h:rV T d i R k)(G:k=R.length):¬Reach T d i:=λV=>by
 subst G;have U:∀x,Reach T d x->x∈R:=λx W=>Reach.closed (P:=λx=>x∈R) h.first (λa J b hb=>by
  obtain⟨j,z,e⟩:=bW J;exact(h.done j z a (by rw[aD z,e])).2 b hb) W
 obtain⟨j,z,e⟩:=bW (U i V);exact(h.done j z i (by rw[aD z,e])).1 rfl
theorem rV.more(h:rV T d i R k){x b:Int}(J:R[k]? =some x)(U:b∈o7 T x)(hn:b∉R):rV T d i (R++[b]) k/\(R++[b])[k]? =some x:=by
 have W:k<R.length:=(List.getElem?_eq_some_iff.1 J).1;refine⟨⟨?_,λy G=> ?_,by simp[h.first],by rw[aC];have :=h.le;omega,λj hj y G=> ?_⟩,by rw[ba W,J]⟩
 ·rw[List.nodup_append]
  refine⟨h.nodup,List.nodup_cons.2 ⟨by simp,List.nodup_nil⟩,λy G z V e=> ?_⟩;rw[au] at V;rw[V] at e;exact hn (e▸G)
 ·rcases aT.1 G with G|G
  ·exact h.reach y G
  ·rw[au] at G
   subst G;exact .step (h.reach x (List.mem_of_getElem? J)) U
 ·rw[ba (by omega)] at G
  obtain⟨h1,h2⟩:=h.done j hj y G;exact⟨h1,λb U=>by simp[h2 b U]⟩
theorem rV.next(h:rV T d i R k){x:Int}(U:R[k]? =some x)(J:x≠i)(z:∀b∈o7 T x,b∈R):rV T d i R (k+1):=by
 have V:k<R.length:=(List.getElem?_eq_some_iff.1 U).1;refine⟨h.nodup,h.reach,h.first,by omega,λj W y G=> ?_⟩;by_cases e:j=k
 ·subst e
  rw[U] at G;cases G;exact⟨J,z⟩
 ·exact h.done j (by omega) y G
def mk (S:List Bool) (x:Int):Bool:=S.getD x.toNat false
end
section
variable{T:List (bT×Value)}{d i:Int}{R:List Int}{cap g k:Nat}{a b nm:ByteArray}{n:bT}{A B E M:List (ByteArray×Int)}{w:World}{v:Value}{P:Nat->Prop}
end
section
variable{T:List (bT×Value)}{d i:Int}{R:List Int}{cap g k:Nat}{a b nm:ByteArray}{n:bT}{A B E M:List (ByteArray×Int)}{w:World}{v:Value}{P:Nat->Prop}
def J2 (a b:ByteArray):Prop:=Op.bytesLess a.toList b.toList=true
def wM (a b:ByteArray):Int:=Lib.compareBytes a.data.toList b.data.toList
theorem J3 (h:a.toList=b.toList):a=b:=by
 rw[jA,jA] at h;exact ByteArray.ext (Array.toList_inj.1 h)
theorem uG:∀a b:List UInt8,(Lib.compareBytes a b<0↔Op.bytesLess a b=true)/\(Lib.compareBytes a b=0↔a=b)
 | [],[]=>by simp[Lib.compareBytes,Op.bytesLess]
 | [],_::_=>by simp[Lib.compareBytes,Op.bytesLess]
 |_::_,[]=>by simp[Lib.compareBytes,Op.bytesLess]
 |x::a,y::b=>by
  have J:=uG a b;unfold Lib.compareBytes;by_cases z:x<y
  ·have h:x≠y:=λe=>by rw[e,gZ] at z;omega
   simp[z,h,Op.bytesLess]
  ·by_cases G:y<x
   ·have h:x≠y:=λe=>z (by rw[e] at G;exact absurd G (by rw[gZ];omega))
    simp[z,G,h,Op.bytesLess]
   ·have U:x=y:=by
     rw[gZ] at z G;exact UInt8.toNat_inj.1 (by omega)
    subst U;simp only[z,if_false,Op.bytesLess,BEq.rfl,Bool.true_and,decide_false,Bool.false_or,j4,true_and];exact J
theorem YT (a b:ByteArray):wM a b<0↔J2 a b:=by
 unfold wM J2;rw[jA,jA];exact(uG _ _).1
theorem Vo (a b:ByteArray):wM a b=0↔a=b:=by
 unfold wM;rw[(uG _ _).2];exact⟨λh=>ByteArray.ext (Array.toList_inj.1 h),λh=>by rw[h]⟩
theorem mH (a:ByteArray):¬J2 a a:=λh=>by
 unfold J2 at h;rw[o5] at h;cases h
theorem vC{c:ByteArray}(h:J2 a b)(k:J2 b c):J2 a c:=oK _ _ _ h k
theorem tA (h:J2 a b):a≠b:=λe=>mH b (by rw[e] at h;exact h)
theorem Vp (a b:ByteArray):J2 a b\/a=b\/J2 b a:=by
 by_cases h:J2 a b
 ·exact .inl h
 ·by_cases e:a=b
  ·exact .inr (.inl e)
  ·refine .inr (.inr (td _ _ ?_ λz=>e (J3 z)))
   unfold J2 at h;simpa using h
def yq (E:List (ByteArray×Int)):Prop:=E.Pairwise λp q=>J2 p.1 q.1
structure iO (E A M B:List (ByteArray×Int)) (nm:ByteArray):Prop where
 eq:E=A++(M++B)
 ahead:∀p∈A,J2 p.1 nm
 behind:∀p∈B,J2 nm p.1
 one:M=[]\/∃i,M=[(nm,i)]
theorem lJ:∀{E:List (ByteArray×Int)},yq E->∀nm,∃A M B,iO E A M B nm
 | [],_,nm=>⟨[],[],[],rfl,by simp,by simp,.inl rfl⟩
 |p::E,h,nm=>by
  have J:=List.pairwise_cons.1 h;obtain⟨A,M,B,G⟩:=lJ J.2 nm;rcases Vp p.1 nm with W|V|U
  ·refine⟨p::A,M,B,by rw[G.eq];rfl,?_,G.behind,G.one⟩
   intro q z;rcases aL.1 z with rfl|z
   ·exact W
   ·exact G.ahead q z
  ·refine⟨[],[p],E,rfl,by simp,λq z=> ?_,.inr ⟨p.2,by rw[<-V]⟩⟩
   rw[<-V];exact J.1 q z
  ·refine⟨[],[],p::E,rfl,by simp,λq z=> ?_,.inl rfl⟩
   rcases aL.1 z with rfl|z
   ·exact U
   ·exact vC U (J.1 q z)
theorem J4 (h:pk n):yq n.E:=by
 unfold yq;rw[dg];intro i j V J G;have :=GJ (λk z U=>(h.2.2.2 k z).2.2 U) j i G J;have e:∀k (z:k<n.E.length),n.E[k]=(eX n.E k,jm n.E k):=λk z=>by simp[eX,jm,z]
 rw[e i V,e j J];exact this
theorem iO.rises(h:iO E A M B nm)(U:yq E)(M':List (ByteArray×Int))(V:M'=[]\/∃i,M'=[(nm,i)]):yq (A++(M'++B)):=by
 unfold yq at U ⊢;rw[h.eq,List.pairwise_append,List.pairwise_append] at U;rw[List.pairwise_append,List.pairwise_append];obtain⟨W,⟨-,r3,-⟩,r5⟩:=U;have G:∀q∈M',q.1=nm:=λq z=>by
  rcases V with rfl|⟨i,rfl⟩
  ·simp at z
  ·rw[au] at z;rw[z]
 refine⟨W,⟨?_,r3,λp J q z=>by rw[G p J];exact h.behind q z⟩,λp J q z=> ?_⟩
 ·rcases V with rfl|⟨i,rfl⟩
  ·exact List.Pairwise.nil
  ·exact List.pairwise_singleton _ _
 ·rcases aT.1 z with z|z
  ·rw[G q z];exact h.ahead p J
  ·exact vC (h.ahead p J) (h.behind q z)
theorem iO.at(h:iO E A M B nm)(k:Nat)(hk:k<E.length):(J2 (eX E k) nm↔k<A.length)/\(eX E k=nm↔k=A.length/\M≠[]):=by
 have hE:E.length=A.length+(M.length+B.length):=by rw[h.eq,aC,aC]
 have hM:M.length<=1:=by rcases h.one with e|⟨i,e⟩<;>rw[e]<;>simp
 have G:(eX E k,jm E k)=E[k]:=by simp[eX,jm,hk]
 have h1:eX E k=E[k].1:=by rw[<-G]
 by_cases J:k<A.length
 ·have e:E[k]=A[k]:=by simp only[h.eq];rw[List.getElem_append_left J]
  have z:=h.ahead _ (bF J);rw[<-e,<-h1] at z;exact⟨⟨λ_=>J,λ_=>z⟩,⟨λe=>absurd e (tA z),λe=>by omega⟩⟩
 ·by_cases hm:k<A.length+M.length
  ·have cM:k=A.length:=by omega
   have U:M≠[]:=λe=>by rw[e] at hm;simp at hm;omega
   have e:eX E k=nm:=by
    obtain⟨i,e⟩:=h.one.resolve_left U;have :E[k]? =some (nm,i):=by
     rw[h.eq,e,cM,aR (by omega)];simp
    rw[aD hk,Option.some_inj] at this;rw[h1,this]
   exact⟨⟨λz=>absurd e (tA z),λh=>absurd h J⟩,⟨λ_=>⟨cM,U⟩,λ_=>e⟩⟩
  ·have V:k-A.length-M.length<B.length:=by omega
   have e:E[k]? =some B[k-A.length-M.length]:=by
    rw[h.eq,aR (by omega),aR (by omega),aD V]
   rw[aD hk,Option.some_inj] at e;have z:=h.behind _ (bF V);rw[<-e,<-h1] at z;refine⟨⟨λW=>absurd (vC W z) (mH _),λW=>absurd W J⟩,⟨λe2=>absurd e2.symm (tA z),λ⟨W,h3⟩=> ?_⟩⟩;have :M.length≠0:=λe=>h3 (bo e)
   omega
def bg:List (ByteArray×Int)->ByteArray->Int
 | [],_=> -1
 |p::E,nm=>if p.1=nm then p.2 else bg E nm
theorem Dc:∀(A E:List (ByteArray×Int)) (nm:ByteArray),(∀p∈A,p.1≠nm)->bg (A++E) nm=bg E nm
 | [],_,_,_=>rfl
 |p::A,E,nm,h=>by
  show(if p.1=nm then p.2 else bg (A++E) nm)=_;rw[aA (h p (by simp))];exact Dc A E nm λq z=>h q (by simp[z])
theorem AH (E:List (ByteArray×Int))(nm:ByteArray)(h:∀p∈E,p.1≠nm):bg E nm= -1:=by
 have :=Dc E [] nm h;rw[br] at this;exact this
theorem N0 (a b:ByteArray)(w:World):Calls prog 233 #[.string a,.string b] w λe w'=>e=(wM a b:Int)/\w=w':=by
 go_in;go_wp2;rw[run_callFunc_extern func239 (by kernel_rfl) (by kernel_rfl) (by kernel_rfl) (e:=Extern.BytealgCompare.compare) (by kernel_rfl),Lib.run_compareString];simp only[Result.andThen];rw[Oper.upon_value];go_wp2;go_ret;exact⟨rfl,rfl⟩
theorem BJ (a b:ByteArray)(w:World):Calls prog 219 #[.string a,.string b] w λe w'=>e=(wM a b:Int)/\w=w':=by
 have h:=λz=>N0 a b z
 generalize wM a b=r at h ⊢;go_in;go_wp2_with fail;refine C' (h _) ?_;go_wp2_with fail;go_ret;exact⟨rfl,rfl⟩
theorem N1 (a nm:ByteArray)(x:Int)(w:World):Calls prog 218 #[.agg #[.string a,x],.string nm] w λe w'=>e=(wM a nm:Int)/\ay [] w w':=by
 have h:=λz=>BJ a nm z
 generalize wM a nm=r at h ⊢;have G:Hid (ay [] w (w.alloc (.cells #[.string a,x] 99))):=(ay.refl [] w).alloc _;go_in;go_wp2_with fail;refine C' (h _) ?_;go_wp2_with fail;go_ret;exact⟨rfl,G.out⟩
def lV (w:World) (A M:List (ByteArray×Int)) (e:Ending) (w':World):Prop:=e= .returned (.tuple #[(A.length:Int),(!M.isEmpty:Bool)])/\ay [] w w'
theorem Vq (hE:bD w v g E)(hs:iO E A M B nm)(YU:E.length<=1000):
  Calls prog 217 #[v,.string nm,.func (.func 218) #[] #[]] w (lV w A M):=by
 have J5:Hid (∀w',ay [] w w'->lV w A M (.returned (.tuple #[(A.length:Int),(!M.isEmpty:Bool)])) w'):=λw' h=>⟨rfl,h⟩
 have ae:=ar (hs.at);have aj:A.length<=E.length:=by rw[hs.eq,aC];omega
 obtain⟨a,cap,rfl,ak,ai,zB⟩:=hE.open;have UU:Hid (∀(x:ByteArray) (y:Int) (wx:World),Calls prog 218 #[.agg #[.string x,(y:Int)],.string nm] wx λe w'=>e=(wM x nm:Int)/\ay [] wx w'):=λx y wx=>N1 x nm y wx
 have W4:Hid (∀k,k<E.length->(wM (eX E k) nm<0↔k<A.length)/\(wM (eX E k) nm=0↔k=A.length/\M≠[])):=λk hk=>⟨(YT _ _).trans (ae.out k hk).1,(Vo _ _).trans (ae.out k hk).2⟩
 have aa:Hid (M≠[]->A.length<E.length):=λh=>by
  have :M.length≠0:=λe=>h (bo e)
  have e:=cP List.length hs.eq;rw[aC,aC] at e;omega
 unfold maxLen at ai;have YV:Hid ((M.isEmpty=true/\M=[])\/(M.isEmpty=false/\M≠[])):=by
  show _\/_;cases M with
  |nil=>exact .inl ⟨rfl,rfl⟩
  |cons a b=>exact .inr ⟨rfl,by simp⟩
 clear hs hE ae;generalize hm:E.length=m,hk:A.length=k at *;clear hm hk;go_in;go_wp2_with fail;go_loopg [9,10] m (λgh s9 Xw wx=>∃G z:Nat,s9= .int .i64 (G:Int)/\Xw= .int .i64 (z:Int)/\G<=k/\k<=z/\z<=m/\z-G<=gh/\Hid (ay [] w wx))
 case atStart=>exact⟨0,m,rfl,rfl,fD _,aj,aH _,by omega,ay.refl _ _⟩
 case round=>
  obtain⟨G,z,rfl,rfl,h1,h2,h3,h4,V⟩:=hrel;by_cases av:G<z
  ·have ag:(G+z)/2<m:=by omega
   obtain⟨U,off,rfl,d1,d2⟩:=zB.out _ ag;have c0:wr.cell? ⟨g,off+(G+z)/2*2,none⟩=some (.string (eX E ((G+z)/2))):=(aO (w:=w) (a:=⟨g,off+(G+z)/2*2,none⟩) (V.out.block g U (by simp))).trans d1;have c1:wr.cell? ⟨g,off+(G+z)/2*2+1,none⟩=some (.int .i64 (jm E ((G+z)/2))):=(aO (w:=w) (a:=⟨g,off+(G+z)/2*2+1,none⟩) (V.out.block g U (by simp))).trans d2;have W:=W4.out _ ag;have HC:=ar (UU.out (eX E ((G+z)/2)) (jm E ((G+z)/2)));clear d1 d2;by_cases af:(G+z)/2<k
   ·have ah:=W.1.2 af
    clear W;generalize wM (eX E ((G+z)/2)) nm=cv at *;generalize eX E ((G+z)/2)=nk,jm E ((G+z)/2)=ik at *;go_wp2_with fail;refine Rr (HC.out _) λw2 J=> ?_;have fo:=ar (V.out.trans' J);clear J;go_wp2_with fail;go_roundg (z-((G+z)/2+1));case measure=>omega
    case rel=>exact⟨(G+z)/2+1,z,by rw[show((G:Int)+(z:Int))/2+1=(((G+z)/2+1:Nat):Int) by omega],rfl,by omega,h2,h3,aH _,fo.out⟩
   ·have ah:¬wM (eX E ((G+z)/2)) nm<0:=λh=>af (W.1.1 h)
    clear W;generalize wM (eX E ((G+z)/2)) nm=cv at *;generalize eX E ((G+z)/2)=nk,jm E ((G+z)/2)=ik at *;go_wp2_with fail;refine Rr (HC.out _) λw2 J=> ?_;have fo:=ar (V.out.trans' J);clear J;go_wp2_with fail;go_roundg ((G+z)/2-G);case measure=>omega
    case rel=>exact⟨G,(G+z)/2,rfl,by rw[show((G:Int)+(z:Int))/2=(((G+z)/2:Nat):Int) by omega],h1,by omega,by omega,aH _,fo.out⟩
  ·obtain rfl:G=k:=by omega
   obtain rfl:z=G:=by omega
   rcases dE z m with ac|ac
   ·obtain⟨U,off,rfl,d1,d2⟩:=zB.out _ ac
    have c0:wr.cell? ⟨g,off+z*2,none⟩=some (.string (eX E z)):=(aO (w:=w) (a:=⟨g,off+z*2,none⟩) (V.out.block g U (by simp))).trans d1;have c1:wr.cell? ⟨g,off+z*2+1,none⟩=some (.int .i64 (jm E z)):=(aO (w:=w) (a:=⟨g,off+z*2+1,none⟩) (V.out.block g U (by simp))).trans d2;have W:=W4.out _ ac;have HC:=ar (UU.out (eX E z) (jm E z));clear d1 d2;rcases YV.out with ⟨e1,e2⟩|⟨e1,e2⟩
    ·have hz:(wM (eX E z) nm==0)=false:=by
      rw[cL];exact λh=>(W.2.1 h).2 e2
     have mA:Hid (∀w',ay [] w w'->lV w A M (.returned (.tuple #[(z:Int),false])) w'):=λw' h=>by have :=J5.out w' h;rwa[e1] at this
     clear W YV e1 e2 W4 UU J5 aa zB;generalize wM (eX E z) nm=cv at *;generalize eX E z=nk,jm E z=ik at *;go_wp2_with fail;refine Rr (HC.out _) λw2 J=> ?_;have fo:=ar (V.out.trans' J);clear J;go_wp2_with fail;go_ret2;exact mA.out _ fo.out
    ·have hz:(wM (eX E z) nm==0)=true:=by
      rw[beq_iff_eq];exact W.2.2 ⟨rfl,e2⟩
     have mA:Hid (∀w',ay [] w w'->lV w A M (.returned (.tuple #[(z:Int),true])) w'):=λw' h=>by have :=J5.out w' h;rwa[e1] at this
     clear W YV e1 e2 W4 UU J5 aa zB;generalize wM (eX E z) nm=cv at *;generalize eX E z=nk,jm E z=ik at *;go_wp2_with fail;refine Rr (HC.out _) λw2 J=> ?_;have fo:=ar (V.out.trans' J);clear J;go_wp2_with fail;go_ret2;exact mA.out _ fo.out
   ·have mA:Hid (∀w',ay [] w w'->lV w A M (.returned (.tuple #[(z:Int),false])) w'):=λw' h=>by
     have :=J5.out w' h;rcases YV.out with ⟨e1,e2⟩|⟨e1,e2⟩
     ·rwa[e1] at this
     ·have :=aa.out e2;omega
    have au:¬(z:Int)<(m:Int):=by omega
    clear YV W4 UU J5 aa zB;go_wp2_with fail;go_ret2;exact mA.out _ V.out
theorem J6 (V:bD w v g E)(J:iO E A M B nm)(U:E.length<=1000):
  Calls prog 197 #[v,.string nm] w (lV w A M):=by
 have z:=Vq V J U;unfold lV at z;have HB:=ar z;have W:Hid (∀w',ay [] w w'->lV w A M (.returned (.tuple #[(A.length:Int),(!M.isEmpty:Bool)])) w'):=λw' h=>⟨rfl,h⟩
 clear V J U z;generalize (A.length:Int)=k,(!M.isEmpty)=b at *;go_in;go_wp2_with fail;refine Rr HB.out λw' G=> ?_;have HK:=ar G;clear G;go_wp2_with fail;go_ret2;exact W.out _ HK.out
def N2:List (ByteArray×Int)->Int
 | []=>0
 |p::_=>p.2
def BK (w:World) (M:List (ByteArray×Int)) (e:Ending) (w':World):Prop:=e= .returned (.tuple #[(N2 M:Int),(!M.isEmpty:Bool)])/\ay [] w w'
theorem iO.mid(h:iO E A M B nm)(z:M≠[]):A.length<E.length/\jm E A.length=N2 M:=by
 obtain⟨i,rfl⟩:=h.one.resolve_left z;have G:A.length<E.length:=by rw[h.eq,aC,aC];simp;omega
 refine⟨G,?_⟩;rw[jm,h.eq,aj,aR (aH _)];simp[N2]
theorem S4 (n:bT){v:Value}{g:Nat}{A M B:List (ByteArray×Int)}{nm:ByteArray}(hB:n.B.length=13)(hE:bD w v g n.E)(hs:iO n.E A M B nm)(YU:n.E.length<=1000):
  Calls prog 162 #[aM n v,.string nm] w (BK w M):=by
 have cM:ay [] w (w.alloc (.cells (aM n v) 75)):=(ay.refl [] w).alloc _;have aa:=J6 (hE.keep cM (by simp)) hs YU;unfold lV at aa;have W:=ar hs.mid;have YV:Hid ((M.isEmpty=true/\M=[])\/(M.isEmpty=false/\M≠[])):=by
  show _\/_;cases M with
  |nil=>exact .inl ⟨rfl,rfl⟩
  |cons a b=>exact .inr ⟨rfl,by simp⟩
 have HP:Hid (∀w',ay [] w w'->BK w M (.returned (.tuple #[(N2 M:Int),(!M.isEmpty:Bool)])) w'):=λw' h=>⟨rfl,h⟩
 obtain⟨a,cap,rfl,aj,ae,zB⟩:=hE.open;have ac:=gG (.slice a n.E.length cap) hB;have U:=bh.new w (aM n (.slice a n.E.length cap)) 75;generalize aM n (.slice a n.E.length cap)=Z at *;have J:Z[17]? =some (.slice a n.E.length cap):=ac.f5;have ah:(w.alloc (.cells Z 75)).cell? ⟨w.heap.size,17,none⟩=some (.slice a n.E.length cap):=by rw[U.cell];exact J
 obtain⟨PG,p9,fJ,ai⟩:=hh4 aa U cM J;unfold maxLen at ae;clear ac U cM aa J hB hE hs;generalize hm:n.E.length=m,af:A.length=k at *;clear hm af;go_in;go_wp2_with fail;refine Rr PG.out λw2 z=> ?_;have fo:=ar z;have ak:w2.cell? ⟨w.heap.size,17,none⟩=some (.slice a m cap):=by rw[(p9.out.keep z (by simp)).cell];exact ai.out
 have CZ:=ar (fJ.out.trans' z);clear z ah;rcases YV.out with ⟨V,e2⟩|⟨V,e2⟩
 ·have mA:Hid (∀w',ay [] w w'->BK w M (.returned (.tuple #[(0:Int),false])) w'):=λw' h=>by
   have :=HP.out w' h;rw[V,show N2 M=0 by rw[e2];rfl] at this;exact this
  rw[V];clear V e2 YV HP W zB;go_wp2_with fail;go_ret2;exact mA.out _ CZ.out
 ·obtain⟨JK,G⟩:=W.out e2
  have mA:Hid (∀w',ay [] w w'->BK w M (.returned (.tuple #[(N2 M:Int),true])) w'):=λw' h=>by
   have :=HP.out w' h;rw[V] at this;exact this
  obtain⟨ag,off,rfl,-,d1⟩:=zB.out k JK;rw[G] at d1;have c1:w2.cell? ⟨g,off+k*2+1,none⟩=some (.int .i64 (N2 M)):=(aO (w:=w) (a:=⟨g,off+k*2+1,none⟩) (CZ.out.block g ag (by simp))).trans d1;rw[V];have xD:(k:Int)<(m:Int):=by omega
  clear V e2 YV HP W zB d1 G;generalize N2 M=im at *;go_wp2_with fail;go_ret2;exact mA.out _ CZ.out
theorem N3{a:Option Addr}{n:Nat}(h:bD w (.slice a n cap) g E)(k:Nat)(hk:k<=E.length):
  ∃U V,(∀z,(Instr.sliceAt 30 (.slice a n cap) none (some (.int .i64 (k:Int))) none).run prog z= .ok (.slice U k V) z)/\bD w (.slice U k V) g (E.take k):=by
 have J: prog.underlying 30 =some (.slice (prog.elem 30)):=by kernel_rfl
 have he: prog.elem 30 = 99 :=by kernel_rfl
 have hs:∀z:World,(sizeOf 99).run prog z= .ok 2 z:=λz=>by kernel_rfl
 obtain⟨a0,aa,hv,h1,h2,h3⟩:=h;cases hv;have G:(E.take k).length=k:=by rw[aJ];omega
 refine⟨if cap=0 then a else a.map (·.add (0*2)),cap-0,λz=> ?_,_,_,by rw[G],by omega,by omega,λh0=> ?_⟩
 ·rw[run_sliceAt_slice _ _ _ _ _ _ J,run_slice_h _ _ _ _ _ J .i64 (k:Int) (by omega) (by omega),he,hs]
  simp only[cO,sliced,aG,Nat.sub_zero]
 ·rw[G] at h0
  obtain⟨hg,off,rfl,hc⟩:=h3 (by omega);refine⟨hg,off,by rw[aA];simp[add_plain],λj W=> ?_⟩;rw[G] at W;obtain⟨c0,c1⟩:=hc j (by omega);have e:(E.take k).getD j (ByteArray.empty,0)=E.getD j (ByteArray.empty,0):=by simp[W]
  rw[eX,jm,e];exact⟨c0,c1⟩
theorem LG{a:Option Addr}{n:Nat}(h:bD w (.slice a n cap) g E)(k:Nat)(hk:k<=E.length):
  ∃U V,(∀z,(Instr.sliceAt 30 (.slice a n cap) (some (.int .i64 (k:Int))) none none).run prog z= .ok (.slice U (n-k) V) z)/\bD w (.slice U (n-k) V) g (E.drop k):=by
 have J: prog.underlying 30 =some (.slice (prog.elem 30)):=by kernel_rfl
 have W: prog.elem 30 = 99 :=by kernel_rfl
 have hs:∀z:World,(sizeOf 99).run prog z= .ok 2 z:=λz=>by kernel_rfl
 obtain⟨a0,aa,hv,h1,h2,h3⟩:=h;cases hv;have G:(E.drop k).length=E.length-k:=by rw[bM]
 refine⟨if cap=k then a else a.map (·.add (k*2)),cap-k,λz=> ?_,_,_,by rw[G],by omega,by omega,λh0=> ?_⟩
 ·rw[run_sliceAt_slice _ _ _ _ _ _ J,run_slice_l _ _ _ _ _ J .i64 (k:Int) (by omega) (by omega),W,hs]
  simp only[cO,sliced,aG]
 ·rw[G] at h0
  obtain⟨hg,off,rfl,hc⟩:=h3 (by omega);refine⟨hg,off+k*2,by rw[aA];simp[add_plain],λj hj=> ?_⟩;rw[G] at hj;obtain⟨c0,c1⟩:=hc (k+j) (by omega);have e:(E.drop k).getD j (ByteArray.empty,0)=E.getD (k+j) (ByteArray.empty,0):=by simp
  rw[show off+k*2+j*2=off+(k+j)*2 by omega,eX,jm,e];exact⟨c0,c1⟩
def Hc (w:World) (g:Nat) (A B:List (ByteArray×Int)) (e:Ending) (w':World):Prop:=
 ∃x y,e= .returned (.tuple #[x,y])/\bD w x g A/\bD w y g B/\ay [] w w'
theorem iO.takes(h:iO E A M B nm):E.take A.length=A/\E.drop (A.length+M.length)=B/\E.length=A.length+M.length+B.length/\(M.isEmpty=true->M.length=0)/\(M.isEmpty=false->M.length=1):=by
 refine⟨by rw[h.eq,List.take_left],by rw[h.eq,<-aV,<-aC,List.drop_left],by rw[h.eq,aC,aC];omega,λe=>by rw[List.isEmpty_iff.1 e];rfl,λe=> ?_⟩;rcases h.one with rfl|⟨i,rfl⟩
 ·cases e
 ·rfl
theorem J7 (hE:bD w v g E)(hs:iO E A M B nm)(YU:E.length<=1000):
  Calls prog 199 #[v,.string nm] w (Hc w g A B):=by
 have aa:=J6 hE hs YU;unfold lV at aa;obtain⟨t1,t2,t3,t4,t5⟩:=hs.takes;obtain⟨a,cap,hv,-,-,-⟩:=hE.open;subst hv;obtain⟨a1,c1,J,ac⟩:=N3 hE A.length (by omega);obtain⟨a2,c2,G,W⟩:=LG hE (A.length+M.length) (by omega);rw[t1] at ac;rw[t2] at W;have HP:Hid (∀w',ay [] w w'->Hc w g A B (.returned (.tuple #[.slice a1 A.length c1,.slice a2 (E.length-(A.length+M.length)) c2])) w'):=λw' h=>⟨_,_,rfl,ac,W,h⟩
 obtain⟨PG,T4,T5,T3,ae,TM⟩:=hh6 aa t4 t5 t3 J G;clear aa ac W hE hs t1 t2 t4 t5 J G;generalize hm:E.length=m,hk:A.length=k,JU:M.length=q at *;clear hm hk JU;have JK:k+q<=m:=by have :=T3.out;omega
 clear t3;cases hME:M.isEmpty
 ·obtain rfl:=T5.out hME
  rw[hME] at PG;have J:=ae.out;have G:=TM.out;rw[show((k+1:Nat):Int)=(k:Int)+1 by omega] at G;clear T4 T5 hME;have af:IntKind.i64.wrap ((k:Int)+1)=(k:Int)+1:=fS _ (by omega);go_in;go_wp2_with fail;refine Rr PG.out λw2 U=> ?_;have fo:=ar U;clear U;go_wp2_with fail;refine ju (S:=λV=>ay [] w V) (fo.out.drew) ?_;repeat (
   (first
   |(refine aU.cons (.slice a1 k c1) (bR.val rfl ?h) ?_;(case h=>(intro V z;clear z;go_simp;(try rw[J]);done)))
   |(refine aU.cons (.slice a2 (m-(k+1)) c2) (bR.val rfl ?h) ?_;(case h=>(intro V z;clear z;go_simp;(try rw[G]);done)))
   |(refine aU.cons ?_ (bR.val rfl ?h) ?_;(case h=>(intro V z;clear z;go_simp;rfl))));simp only[Act.put,ag,ah,ai])
  refine aU.done λV z=> ?_
  have uf:=ar z;clear z;go_wp2_with fail;go_ret2;exact HP.out _ uf.out
 ·obtain rfl:=T4.out hME
  rw[hME] at PG;have J:=ae.out;have G:=TM.out;rw[dC] at G;clear T4 T5 hME;go_in;go_wp2_with fail;refine Rr PG.out λw2 U=> ?_;have fo:=ar U;clear U;go_wp2_with fail;refine ju (S:=λV=>ay [] w V) (fo.out.drew) ?_;repeat (
   (first
   |(refine aU.cons (.slice a1 k c1) (bR.val rfl ?h) ?_;(case h=>(intro V z;clear z;go_simp;(try rw[J]);done)))
   |(refine aU.cons (.slice a2 (m-k) c2) (bR.val rfl ?h) ?_;(case h=>(intro V z;clear z;go_simp;(try rw[G]);done)))
   |(refine aU.cons ?_ (bR.val rfl ?h) ?_;(case h=>(intro V z;clear z;go_simp;rfl))));simp only[Act.put,ag,ah,ai])
  refine aU.done λV z=> ?_
  have uf:=ar z;clear z;go_wp2_with fail;go_ret2;exact HP.out _ uf.out
theorem AJ{P:Program}(w:World)(t W e:TypeId)(i:TypeInfo)(z:Value)(kq kn:IntKind)(size:Nat)(ht:P.underlying t=some (.slice e))(aa:P.underlying W=some (.int kn))(hi:P.info? e=some i)(hz:i.zero=some z)(af:i.size=size)(ae:0<size)(YA:z.cells.size=size)
  (k:Nat) (h0:0<k) (hk:k<=1000) (J:i.bytes<=64):
  ∃c w',(∀ty,(Builtin.append_ #[t,W] ty #[(),.int kq k]).run P w= .ok (.slice w.heap.size k c) w')/\k<=c/\w'.ownsRow w.heap.size e size (.slice w.heap.size 0 c) 0 []/\ay [] w w':=by
 have V:(Builtin.firstCells i.size 0 (.slice none 0 0)).run P w.drew= .ok ([]:List Value).toArray w.drew:=by simp[Builtin.firstCells]
 have ac:Builtin.nextslicecap (0+k) 0<=4*1000+64:=by
  unfold Builtin.nextslicecap;split<;>omega
 have h1:k*i.bytes<=281474976710656:=cG (Nat.mul_le_mul hk J) (by omega);have h2:Builtin.nextslicecap (0+k) 0*i.bytes<=281474976710656:=cG (Nat.mul_le_mul ac J) (by omega);have h:=λty=>Lib.run_append_grow_zeros w t W ty e i z kq kn ht aa hi hz none 0 0 [] V k h0 (by omega) (by omega) (by omega) h1 h2
 have U:=grownCap_ge w (0+k) 0 e;have G:=grownCap_le_maxLen w (0+k) 0 e (by unfold maxLen;omega);rw[bc] at U G;simp only[bc] at h;refine⟨_,_,h,U,⟨by simp,.inr ⟨w.heap.size,grownCap w k 0 e,_,rfl,aH _,bh.new w.drew _ _,fD _,G,?_,by simp⟩⟩,((ay.refl [] w).drew).alloc _⟩;simp[oG,YA];rw[<-Nat.add_mul]
 congr 1
 omega
theorem Tryz.info_ent9:(prog.info? 99).map (λi=>(i.zero,i.size,i.bytes))=some (some (.agg #[.string ⟨#[]⟩,(0:Int)]),2,24):=by kernel_rfl
theorem YW (k:Nat)(hk:k<=1000)(h:Int)(W:h=(k:Int))(w:World):Calls prog 220 #[(),h] w λe w'=>
  ∃v,e=(v:Value)/\w'.ownsRow w.heap.size 99 2 v 0 []/\ay [] w w':=by
 rcases dZ k with rfl|h0
 ·obtain rfl:h=0:=by omega
  clear W hk;go_in;go_wp2_with fail;go_ret;exact⟨_,rfl,⟨rfl,.inl ⟨rfl,rfl⟩⟩,ay.refl _ _⟩
 ·obtain⟨i0,hi,J,V,U⟩:=df Tryz.info_ent9
  obtain⟨c,w',hr,hc,z,G⟩:=AJ (P:= prog) w 30 3 99 i0 _ .i64 .i64 2 underlying30 underlying3 hi J V (by omega) rfl k h0 hk (by rw[U];omega);have h1:¬h<0:=by omega
  have h2:0<h:=by omega
  have h3:wrap64 h=h:=by unfold wrap64;omega
  simp only[<-W] at hr;obtain⟨HO,HK⟩:=hh2 z G;have aa:c≠0:=by omega
  have ac:(0:Int)<=(c:Int):=by omega
  clear z G W hi J V U hc;go_in;go_wp2_with(at_builtin;refine wpList_append_run rfl (.tmp 20) (.tmp 21) 30 3 ?_ (.slice none 0 0) (.int .i64 h) ?_ ?_ (hr _) ?_;all_goals first|rfl|skip);go_ret;exact⟨_,rfl,HO.out,HK.out⟩
theorem LH{a:Option Addr}{m c:Nat}(h:bD w (.slice a m c) g E)(hm:m≠0):∃G,a=some G/\∀j u,(fe E)[j]? =some u->w.cell? (G.add j)=some u:=by
 obtain⟨a',c',U,h2,h3,V⟩:=h;cases U;obtain⟨-,off,rfl,W⟩:=V hm;refine⟨_,rfl,λj u z=> ?_⟩;have hj:j<(fe E).length:=(List.getElem?_eq_some_iff.1 z).1;rw[lT] at hj;obtain⟨d0,J⟩:=W (j/2) (by omega);obtain⟨e0,e1⟩:=ql E (j/2) (by omega);rw[add_plain];rcases Nat.mod_two_eq_zero_or_one j with h|h
 ·rw[show off+j=off+j/2*2 by omega,d0,<-e0,show j/2*2=j by omega,z]
 ·rw[show off+j=off+j/2*2+1 by omega,J,<-e1,show j/2*2+1=j by omega,z]
def pQ (Ls:List (List (ByteArray×Int))) (j:Nat):Nat:=(Ls.take j).flatten.length
theorem J8 (Ls:List (List (ByteArray×Int)))(j:Nat)(h:j<Ls.length):(Ls.take (j+1)).flatten=(Ls.take j).flatten++Ls.getD j []:=by
 rw[bP h,List.flatten_append];simp[h]
theorem Q6 (Ls:List (List (ByteArray×Int)))(j:Nat)(h:j<Ls.length):pQ Ls (j+1)=pQ Ls j+(Ls.getD j []).length:=by
 unfold pQ;rw[J8 Ls j h,aC]
theorem YX (Ls:List (List (ByteArray×Int)))(j:Nat):pQ Ls j<=Ls.flatten.length:=by
 unfold pQ;have :=cP List.flatten (dt j Ls);rw[List.flatten_append] at this;rw[<-this,aC];omega
theorem Vr (Ls:List (List (ByteArray×Int))):pQ Ls Ls.length=Ls.flatten.length:=by
 unfold pQ;rw[gy]
def J9 (w:World) (E:List (ByteArray×Int)) (e:Ending) (w':World):Prop:=∃v g,e=(v:Value)/\bD w' v g E/\w.heap.size<=g/\ay [] w w'
theorem Hd{gs T:Nat}{xs:List Value}{Ls:List (List (ByteArray×Int))}(hb:bh w gs xs.toArray T)(hl:xs.length=Ls.length)(hm:xs.length<=10)
  (hr:∀j,j<xs.length->∃g,bD w (xs.getD j (.slice none 0 0)) g (Ls.getD j [])) (hn:Ls.flatten.length<=1000):
  Calls prog 201 #[.slice gs xs.length xs.length] w (J9 w Ls.flatten):=by
 obtain⟨i0,hi,ax,aA,az⟩:=df Tryz.info_ent9;have HR:Hid (∀j,j<xs.length->∃a c g,xs.getD j (.slice none 0 0)= .slice a (Ls.getD j []).length c/\bD w (.slice a (Ls.getD j []).length c) g (Ls.getD j [])/\(Ls.getD j []).length<=c/\∀J,ay [] w J->J.cell? ⟨gs,j,none⟩=some (.slice a (Ls.getD j []).length c)):=λj hj=>by
  obtain⟨g,hE⟩:=hr j hj;obtain⟨a,c,hv,h1,h2,-⟩:=hE.open;refine⟨a,c,g,hv,by rw[hv] at hE;exact hE,h1,λJ hk=> ?_⟩;rw[(hb.keep hk (by simp)).cell,aF,<-hv,aj,aD hj];rfl
 have JJ:Hid (∀j,j<xs.length->pQ Ls (j+1)=pQ Ls j+(Ls.getD j []).length/\(Ls.take (j+1)).flatten=(Ls.take j).flatten++Ls.getD j []):=λj hj=>⟨Q6 Ls j (by omega),J8 Ls j (by omega)⟩
 have ac:Hid (∀j,pQ Ls j<=1000):=λj=>cG (YX Ls j) hn
 have aa:Hid (pQ Ls xs.length=Ls.flatten.length/\(Ls.take xs.length).flatten=Ls.flatten):=by
  show _/\_;rw[hl];exact⟨Vr Ls,by rw[gy]⟩
 clear hr hb hl hn;generalize av:xs.length=m at *;clear av;have ak:=λ(k:Nat) (hk:k<=1000) (ki:Int) (xD:ki=(k:Int)) J=>YW k hk ki xD J
 have HG:=ar ak;clear ak;go_in;go_wp2_with fail;go_loopg [3,11] m (λgh s3 K3 J=>∃j:Nat,j+gh=m/\K3= .int .i64 (j:Int)/\s3= .int .i64 ((pQ Ls j:Nat):Int)/\w=J)
 case atStart=>exact⟨0,by omega,rfl,rfl,rfl⟩
 case round=>
  obtain⟨j,hj,rfl,rfl,rfl⟩:=hrel;cases gk with
  |succ gg=>
   have af:j<m:=by omega
   have Qe:(j:Int)<(m:Int):=by omega
   have Ci:(0:Int)<=(j:Int):=by omega
   obtain⟨a,c,g,-,-,W,G⟩:=HR.out j af;have c0:=G w (ay.refl _ _);obtain⟨z,-⟩:=JJ.out j af;have V:=ac.out (j+1);have HQ:Hid (((pQ Ls (j+1):Nat):Int)=((pQ Ls j:Nat):Int)+(((Ls.getD j []).length:Nat):Int)):=by show _=_;omega
   rw[z] at V;clear z G W;generalize pQ Ls j=q,(Ls.getD j []).length=l at *;have aI:¬(q:Int)+(l:Int)<0:=by omega
   go_wp2_with fail;go_roundg gg;case measure=>omega
   case rel=>exact⟨j+1,by omega,by go_num,by rw[HQ.out],rfl⟩
  |zero=>
   obtain rfl:j=m:=by omega
   have V:=ac.out j;have ai:=HG.out (pQ Ls j) V _ rfl w;clear HG;go_wp2_with fail;refine ai.mono ?_;rintro e w1 ⟨v0,rfl,h,ah⟩;obtain⟨HO,HK⟩:=hh2 h ah;clear h ah ai;go_wp2_with fail;go_loopg [6,27] j (λgh s6 s27 J=>∃i:Nat,i+gh=j/\s27= .int .i64 (i:Int)/\Hid (J.ownsRow w.heap.size 99 2 s6 (pQ Ls i) (fe (Ls.take i).flatten)/\ay [] w J))
   case atStart=>exact⟨0,by omega,rfl,HO.out,HK.out⟩
   case round=>
    clear HO HK;obtain⟨i,aC,rfl,HP⟩:=hrel;obtain⟨h,U⟩:=HP.out;cases gk with
    |zero=>
     obtain rfl:i=j:=by omega
     have HM:Hid (J9 w Ls.flatten (.returned u6) wr):=by
      obtain⟨g,ho,hg⟩:=eZ.of_row h;rw[aa.out.1,aa.out.2] at ho;by_cases h0:Ls.flatten.length=0
      ·exact⟨u6,w.heap.size,rfl,(ho.anyG h0 w.heap.size).ereads rfl,aH _,U⟩
      ·exact⟨u6,g,rfl,ho.ereads rfl,(hg (by rw[aa.out.1];exact h0)).1,U⟩
     clear h U HP;go_wp2_with fail;go_ret;exact HM.out
    |succ gg=>
     have ae:i<j:=by omega
     have aG:(i:Int)<(j:Int):=by omega
     have aB:(0:Int)<=(i:Int):=by omega
     obtain⟨a,c,g,-,hE,W,G⟩:=HR.out i ae;have e0:=G _ U;obtain⟨z,ag⟩:=JJ.out i ae;have au:=ac.out (i+1);rw[z] at au;obtain⟨v',w',hr,ho,hg⟩:=mi (P:= prog) 30 99 30 i0 _ 2 24 underlying30 hi ax aA az rfl (by omega) w.heap.size (pQ Ls i) _ _ h a (Ls.getD i []).length c (fe (Ls.getD i [])) (lT _) (LH (hE.keep U (by simp))) (Ak _) (by unfold maxLen;omega) (by omega) U.size;have HN:Hid (w'.ownsRow w.heap.size 99 2 v' (pQ Ls (i+1)) (fe (Ls.take (i+1)).flatten)/\ay [] w w'):=by
      refine⟨?_,U.grown hg (dQ h)⟩;rw[z,ag,qJ];exact ho
     clear h U HP ho hg G z ag hE W;generalize (Ls.getD i []).length=l at *;go_wp2_with(at_builtin;refine wpList_append_run rfl (.tmp 31) (.tmp 32) 30 30 ?_ u6 (.slice a l c) ?_ ?_ hr ?_;all_goals first|rfl|skip);go_roundg gg;case measure=>omega
     case rel=>exact⟨i+1,by omega,by go_num,HN.out⟩
def lA (n:bT) (E:List (ByteArray×Int)):bT:={ n with S:=(E.length:Int),E:=E }
theorem Q7 (n:bT)(v u:Value)(E:List (ByteArray×Int))(h:n.B.length=13)(m:Int)(J:m=(E.length:Int)):((aM n v).setIfInBounds 17 u).setIfInBounds 3 (.int .i64 m)=aM (lA n E) u:=by
 subst J;have z:aM n v=(([.int .i64 n.F,.int .i64 n.K,.int .i64 n.L,.int .i64 n.S]:List Value)++(zs n.B++[v])).toArray:=rfl;have G:(([.int .i64 n.F,.int .i64 n.K,.int .i64 n.L,.int .i64 n.S]:List Value)++(zs n.B++[v])).set 17 u=([.int .i64 n.F,.int .i64 n.K,.int .i64 n.L,.int .i64 n.S]:List Value)++(zs n.B++[u]):=by
  rw[dI _ _ (by simp),dI _ _ (by rw[eO,h];simp),eO,h];rfl
 rw[z,ag,ag,G];rfl
theorem Ka (n:bT)(v:Value)(hB:n.B.length=13){a:Option Addr}{c:Nat}(E:List (ByteArray×Int))(m:Nat)(hm:m=E.length):
  Calls prog 200 #[aM n v,.slice a m c] w λe w'=>e=aM (lA n E) (.slice a m c)/\ay [] w w':=by
 have hl:(aM n v).size=18:=by rw[aM,bN,gM,hB]
 have W:(aM ck (.slice none 0 0)).size=18:=rfl;have ac:=gG v hB;have J:=Q7 n v (.slice a m c) E hB (m:Int) (by omega);have z:∀u∈mZ (lA n E) (.slice a m c),u.oneCell'=true:=kY rfl;have ae:=dA;have aa:aM (lA n E) (.slice a m c)=(mZ (lA n E) (.slice a m c)).toArray:=rfl;have h:(mZ (lA n E) (.slice a m c)).length=18:=by rw[gM];show n.B.length+5=18;omega
 generalize aM ck (.slice none 0 0)=Z0,aM n v=Z,aM (lA n E) (.slice a m c)=Z1,mZ (lA n E) (.slice a m c)=V at *;subst aa;have U:=(bh.new w ((Z.setIfInBounds 17 (.slice a m c)).setIfInBounds 3 (.int .i64 (m:Int))) 75).alloc (.cells Z0 75);have rT:=bh.new (w.alloc (.cells ((Z.setIfInBounds 17 (.slice a m c)).setIfInBounds 3 (.int .i64 (m:Int))) 75)) Z0 75;rw[show(w.alloc (.cells ((Z.setIfInBounds 17 (.slice a m c)).setIfInBounds 3 (.int .i64 (m:Int))) 75)).heap.size=w.heap.size+1 by simp] at rT;have G:ay [] w ((w.alloc (.cells ((Z.setIfInBounds 17 (.slice a m c)).setIfInBounds 3 (.int .i64 (m:Int))) 75)).alloc (.cells Z0 75)):=((ay.refl [] w).alloc _).alloc _;have mY:Hid ((loadVar 75 w.heap.size).run prog ((w.alloc (.cells ((Z.setIfInBounds 17 (.slice a m c)).setIfInBounds 3 (.int .i64 (m:Int))) 75)).alloc (.cells Z0 75))= .ok (.agg V.toArray) ((w.alloc (.cells ((Z.setIfInBounds 17 (.slice a m c)).setIfInBounds 3 (.int .i64 (m:Int))) 75)).alloc (.cells Z0 75))):=
  bZ _ 0 V underlying75 rfl (by rw[h];exact iX) λj _=>by rw[U.cell,J,bc,aF]
 obtain⟨w5,q1,q2,q3⟩:=bG (P:= prog) (ty:= 75) (cs:=V) (by rw[h];exact iX) rT (by rw[h];exact W) z;have HS:=ar q1;have Iz:Hid ((loadVar 75 (w.heap.size+1:Nat)).run prog w5= .ok (.agg V.toArray) w5):=
  bZ _ 0 V underlying75 rfl (by rw[h];exact iX) λj _=>by rw[q2.cell,bc,aF]
 have jr:Hid (ay [] w w5):=G.trans q3 (by intro x hx;rw[au] at hx;omega);have Vc:17<Z.size:=by omega
 have af:3<Z.size:=by omega
 clear U rT G ac J z hl W q1 q2 q3 hm hB h;go_in;go_wp2_with(with_reducible first|refine gL 75 mY.out ?_|refine gS 75 HS.out ?_);exact aI (bA results200 rfl Iz.out) rfl ⟨rfl,jr.out⟩
def vD (w:World) (n:bT) (L:List (ByteArray×Int)) (e:Ending) (w':World):Prop:=∃u g,e=aM (lA n L) u/\bD w' u g L/\w.heap.size<=g/\ay [] w w'
theorem ajm (w:World)(x:ByteArray)(i:Int)(g T:Nat)(h:bh w g #[.string x,i] T):bD w (.slice g 1 1) g [(x,i)]:=
 ⟨_,1,rfl,aH _,by unfold maxLen;omega,λ_=>⟨h.lt,0,rfl,λj z=>by
  obtain rfl:j=0:=by simpa using z
  exact⟨by rw[h.cell];rfl,by rw[h.cell];rfl⟩⟩⟩
theorem ag6 (z:P 0)(h:P 1)(G:P 2):∀j,j<3->P j:=λj J=>by
 rcases (show j=0\/j=1\/j=2 by omega) with rfl|rfl|rfl
 ·exact z
 ·exact h
 ·exact G
theorem ag7 (z:P 0)(h:P 1):∀j,j<2->P j:=λj G=>by
 rcases (show j=0\/j=1 by omega) with rfl|rfl
 ·exact z
 ·exact h
theorem iO.newLen(h:iO E A M B nm)(i:Int):(A++([(nm,i)]++B)).length<=E.length+1/\(A++B).length<=E.length:=by
 rw[h.eq];simp only[aC,cu,cD];omega
theorem YY (n:bT){v:Value}{g:Nat}{A M B:List (ByteArray×Int)}{nm:ByteArray}(i:Int)(hB:n.B.length=13)(hE:bD w v g n.E)(hs:iO n.E A M B nm)(YU:n.E.length<=500):
  Calls prog 164 #[aM n v,.agg #[.string nm,i]] w (vD w n (A++([(nm,i)]++B))):=by
 have K5:=hs.newLen i;obtain⟨L,hL⟩:∃L,A++([(nm,i)]++B)=L:=⟨_,rfl⟩;rw[hL] at K5 ⊢;have HL:=ar hL;have aJ:(aM ck (.slice none 0 0)).size=18:=rfl;have aX:=dA;have ae:=((bh.new w (aM n v) 75).alloc (.cells #[.string nm,i] 99)).alloc (.cells (aM ck (.slice none 0 0)) 75);have aj:=(bh.new (w.alloc (.cells (aM n v) 75)) #[.string nm,i] 99).alloc (.cells (aM ck (.slice none 0 0)) 75);have ac:=bh.new ((w.alloc (.cells (aM n v) 75)).alloc (.cells #[.string nm,i] 99)) (aM ck (.slice none 0 0)) 75;rw[show(w.alloc (.cells (aM n v) 75)).heap.size=w.heap.size+1 by simp] at aj;rw[show((w.alloc (.cells (aM n v) 75)).alloc (.cells #[.string nm,i] 99)).heap.size=w.heap.size+2 by simp] at ac;have af:ay [] w (((w.alloc (.cells (aM n v) 75)).alloc (.cells #[.string nm,i] 99)).alloc (.cells (aM ck (.slice none 0 0)) 75)):=(((ay.refl [] w).alloc _).alloc _).alloc _;have aB:=J7 (hE.keep af (by simp)) hs (by omega);have Ed:Hid (L.length<=1000):=by show _<=_;omega
 have aD:=gG v hB;have aa:∀u:Value,u.oneCell'=true->∀x∈mZ (lA n L) u,x.oneCell'=true:=λu hu=>kY hu
 have YZ:=ar aa;have aN:Hid (∀U a c,Calls prog 200 #[aM n v,.slice a L.length c] U λe w'=>e=aM (lA n L) (.slice a L.length c)/\ay [] U w'):=λU a c=>Ka n v hB L _ rfl
 have aC:∀u,(mZ (lA n L) u).length=18:=λu=>by rw[gM];show n.B.length+5=18;omega
 have EC:=ar aC;obtain⟨a,cap,rfl,aG,aQ,-⟩:=hE.open;have aO:=aD.f5;have aS:Hid (∀U,bh U w.heap.size (aM n (.slice a n.E.length cap)) 75->(loadVar 75 w.heap.size).run prog U= .ok (.agg (aM n (.slice a n.E.length cap))) U):=λU hb=>cg hb hB
 generalize aM ck (.slice none 0 0)=Z0,aM n (.slice a n.E.length cap)=Z at *;have aT:(((w.alloc (.cells Z 75)).alloc (.cells #[.string nm,i] 99)).alloc (.cells Z0 75)).cell? ⟨w.heap.size,17,none⟩=some (.slice a n.E.length cap):=by rw[ae.cell];exact aO
 obtain⟨aL,p9,zO,oP,fo,H0⟩:=hh6 aB ae aj ac af aJ;clear aB ae aj ac af aD aa aC aJ hE hs K5 YU aO hB aG aQ hL;go_in;go_wp2_with fail;refine aL.out.mono ?_;rintro e G ⟨x,y,rfl,V,hy,J⟩;obtain⟨a1,c1,aR,-,-,-⟩:=V.open;obtain⟨a2,c2,aU,-,-,-⟩:=hy.open;subst aR aU;have az:w.heap.size+3<=G.heap.size:=by have :=J.size;simp at this;omega
 obtain⟨aA,p9,zO,oP,oI,HX,HY⟩:=hh7 az (p9.out.keep J (by simp)) (zO.out.keep J (by simp)) (oP.out.keep J (by simp)) (fo.out.trans' J) (V.keep J (by simp)) (hy.keep J (by simp));clear V hy J aL az aT;go_wp2_with fail;refine ky (S:=λU=>ay [w.heap.size+2] G U) [0,1,2,4] [3,5,6,7,8] (l:=[_,_,_,_]) (tl:=[_,_,_,_,_]) (by kernel_rfl) (by kernel_rfl) (by kernel_rfl) (by kernel_rfl) rfl rfl rfl rfl rfl (λd _ _ _ _ h=>by cases d<;>exact h) (ay.refl _ _).drew ?_;refine cU.cons _ (YieldsIf.load rfl 75 (.tmp 2) rfl _ rfl λU V=>aS.out U (p9.out.keep V (by simp))) ?_;simp only[Act.put,ag];refine cU.cons ?_ (YieldsIf.val rfl ?h) ?_;(case h=>(intro U V;clear V;go_simp;rfl));simp only[Act.put];refine cU.cons _ (YieldsIf.load rfl 99 (.tmp 3) rfl _ rfl λU V=>AG (by rw[(zO.out.keep V (by simp)).cell];rfl) (by rw[(zO.out.keep V (by simp)).cell];rfl)) ?_;simp only[Act.put];refine cU.cons ?_ (YieldsIf.val rfl ?h) ?_;(case h=>(intro U V;clear V;go_simp;rfl));simp only[Act.put];refine cU.done ?_;unfold gH;go_wp2_with fail;refine⟨((ay.refl _ _).drew).alloc _,?_⟩;unfold gH;go_wp2_with fail;refine⟨(((ay.refl _ _).drew).alloc _).alloc _,?_⟩;unfold gH;have lh:ay [] G (((G.alloc (.cells #[.string nm,i] 99)).alloc (.cells #[.slice a1 A.length c1,.slice G.heap.size 1 1,.slice a2 B.length c2] 30)).drew):=(((ay.refl _ _).alloc _).alloc _).drew;have rT:bh (((G.alloc (.cells #[.string nm,i] 99)).alloc (.cells #[.slice a1 A.length c1,.slice G.heap.size 1 1,.slice a2 B.length c2] 30)).drew) G.heap.size #[.string nm,i] 99 :=((bh.new G _ _).alloc _).drew;have tS:bh (((G.alloc (.cells #[.string nm,i] 99)).alloc (.cells #[.slice a1 A.length c1,.slice G.heap.size 1 1,.slice a2 B.length c2] 30)).drew) (G.heap.size+1) ([.slice a1 A.length c1,.slice G.heap.size 1 1,.slice a2 B.length c2]:List Value).toArray 30 :=by
  have :=(bh.new (G.alloc (.cells #[.string nm,i] 99)) #[.slice a1 A.length c1,.slice G.heap.size 1 1,.slice a2 B.length c2] 30).drew;rwa[show(G.alloc (.cells #[.string nm,i] 99)).heap.size=G.heap.size+1 by simp] at this
 have ak:[A,[(nm,i)],B].flatten=L:=by rw[<-HL.out];simp
 have aK:=HX.out.keep lh (by simp);have ax:=HY.out.keep lh (by simp);have aP:=ajm _ nm i _ _ rT;have W:=Hd (Ls:=[A,[(nm,i)],B]) tS rfl (by simp)
  (ag6 (P:=λj=>∃g,bD (((G.alloc (.cells #[.string nm,i] 99)).alloc (.cells #[.slice a1 A.length c1,.slice G.heap.size 1 1,.slice a2 B.length c2] 30)).drew) (([.slice a1 A.length c1,.slice G.heap.size 1 1,.slice a2 B.length c2]:List Value).getD j (.slice none 0 0)) g ([A,[(nm,i)],B].getD j [])) ⟨g,aK⟩ ⟨_,aP⟩ ⟨g,ax⟩)
  (by rw[ak];exact Ed.out)
 rw[ak] at W;obtain⟨NK,qU⟩:=hh2 W lh;clear W lh rT tS ak aK ax aP;go_wp2_with fail;refine NK.out.mono ?_;rintro e w6 ⟨u,gu,rfl,hu,aH,jv⟩;obtain⟨a6,c6,aW,-,-,-⟩:=hu.open;subst aW;obtain⟨uB,HU⟩:=hh2 (qU.out.trans' jv) hu;have av:Hid (G.heap.size<=gu):=cG qU.out.size aH;clear hu aH jv NK qU;obtain⟨HV,Y0,Q8⟩:=hh3 (aN.out w6 a6 c6) (YZ.out (.slice a6 L.length c6) rfl) (EC.out (.slice a6 L.length c6));have Sy:Hid (aM (lA n L) (.slice a6 L.length c6)=(mZ (lA n L) (.slice a6 L.length c6)).toArray):=rfl;have Nf:Hid (∀w',bD w' (.slice a6 L.length c6) gu L->ay [] w w'->vD w n L (.returned (aM (lA n L) (.slice a6 L.length c6))) w'):=λw' h1 h2=>⟨_,gu,rfl,h1,by have :=av.out;have :=aA.out;omega,h2⟩
 clear YZ EC aN;generalize aM (lA n L) (.slice a6 L.length c6)=Z6,mZ (lA n L) (.slice a6 L.length c6)=ZL at *;generalize L.length=m at *;go_wp2_with fail;refine⟨uB.out.mono (by simp),?_⟩;unfold gH;go_wp2_with fail;refine Rr HV.out λw7 xw=> ?_;obtain⟨J0,aV⟩:=hh2 (uB.out.trans' xw) (HU.out.keep xw (by simp));obtain⟨w8,q1,q2,q3⟩:=bG (P:= prog) (ty:= 75) (cs:=ZL) (by rw[Q8.out];exact iX) (oP.out.keep J0.out (by simp)) (by rw[Q8.out];exact H0.out) Y0.out;rw[<-Sy.out] at q1;have HS:=ar q1;have IY:Hid ((loadVar 75 (w.heap.size+2:Nat)).run prog w8= .ok (.agg Z6) w8):=by
  rw[Sy.out];exact bZ _ 0 ZL underlying75 rfl (by rw[Q8.out];exact iX) λj _=>by rw[q2.cell,bc,aF]
 have Yl:=ar ((J0.out.mono (l':=[w.heap.size+2]) (by simp)).trans' q3);have HF:=ar (Nf.out w8 (aV.out.keep q3 (by have :=av.out;have :=aA.out;intro _ h;rw[au] at h;omega)) (oI.out.trans Yl.out (by intro z hz;rw[au] at hz;omega)));clear q1 q2 q3 xw HV Nf;go_wp2_with fail;refine⟨J0.out.mono (by simp),?_⟩;unfold gH;refine qh rfl 75 (.tmp 4) (.tmp 22) rfl ⟨w.heap.size+2,0,none⟩ rfl (.agg Z6) rfl w8 HS.out ?_;go_wp2_with fail;refine⟨Yl.out,?_⟩;unfold gH;go_wp2_with fail;exact aI (bA results164 rfl IY.out) rfl HF.out
theorem cz{T:Nat}{h:Array Value}(U:bh w g h T)(G:h.size=18)(z:n.B.length=13)(J:v.oneCell'=true):
  ∃w',(storeVar 75 g (.agg (aM n v))).run prog w= .ok () w'/\bh w' g (aM n v) T/\ay [g] w w':=
 bG (P:= prog) (ty:= 75) (cs:=mZ n v) (by rw[gM,z];exact iX) U (by rw[G,gM,z]) (kY J)
theorem bD.one(h:bD w v g E):v.oneCell'=true:=by
 obtain⟨a,cap,rfl,-⟩:=h;rfl
end
end Go.Proofs.YtimcfdnbpkiniaaGreatDoor
