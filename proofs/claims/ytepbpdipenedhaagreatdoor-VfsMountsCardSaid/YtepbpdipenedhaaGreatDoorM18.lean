/- Lemmas. -/
import Derived.Test.YtepbpdipenedhaaGreatDoorM17
import Derived.Lib.Bytealg
set_option maxHeartbeats 4000000
set_option maxRecDepth 100000
namespace Go.Proofs.YtepbpdipenedhaaGreatDoor
open Go.Proofs.Tryz
open Go.RowKit
section
variable{T:List (bT×Value)}{d i:Int}{R:List Int}{cap g k:Nat}{a b nm:ByteArray}{n:bT}{A B E M:List (ByteArray×Int)}{w:World}{v:Value}{P:Nat->Prop}
def o8 (T:List (bT×Value)) (a:Int):List Int:=if 0<=a/\a<32 then (nT T a.toNat).E.map (·.2) else []
inductive Reach (T:List (bT×Value)) (d:Int):Int->Prop
 |here:Reach T d d
 |step {a b:Int}:Reach T d a->b∈o8 T a->Reach T d b
def aes (T:List (bT×Value)):Prop:=∀i,(nT T i).F=0->(nT T i).E=[]
def Q5 (T:List (bT×Value)):Prop:=∀a,∀b∈o8 T a,0<=b/\b<32
theorem ag1 (hS:aes T)(V:ag0 T)(hF:∀i:Nat,i<32->0<=(nT T i).F):Q5 T:=λa b h=>by
 unfold o8 at h;split at h
 ·next ha=>
  have h1:=hF a.toNat (by omega);by_cases U:(nT T a.toNat).F=0
  ·rw[hS _ U] at h;simp at h
  ·obtain⟨k,z,J⟩:=bY h
   rw[bZ] at z;rw[ic] at J;rcases (V a.toNat (by omega) (by omega)).2.2 with ⟨-,G⟩|⟨-,G⟩
   ·have :=G.2.1;omega
   ·have W:=(G.2.2.2 k z).2.1
    have e:jq (nT T a.toNat).E k=b:=by
     rw[<-J];simp[jq,z]
    rw[e] at W;omega
 ·simp at h
theorem Reach.rng(z:Q5 T){d x:Int}(h:Reach T d x):x=d\/(0<=x/\x<32):=by
 cases h with
 |here=>exact .inl rfl
 |step _ hb=>exact .inr (z _ _ hb)
theorem Reach.closed{P:Int->Prop}(G:P d)(z:∀a,P a->∀b∈o8 T a,P b){x:Int}(h:Reach T d x):P x:=by
 induction h with
 |here=>exact G
 |step _ hb ih=>exact z _ ih _ hb
theorem J4:∀(l m:List Int),l.Nodup->(∀x∈l,x∈m)->l.length<=m.length
 | [],_,_,_=>fC _
 |a::l,m,hn,h=>by
  have U:=List.nodup_cons.1 hn;have z:=h a (by simp);have V:=J4 l (m.erase a) U.2 λx J=>by
   have G:x≠a:=λe=>U.1 (e▸J)
   exact(List.mem_erase_of_ne G).2 (h x (by simp[J]))
  rw[List.length_erase_of_mem z] at V;have :m.length≠0:=λe=>by rw[bo e] at z;simp at z
  rw[cr];omega
structure rW (T:List (bT×Value)) (d i:Int) (R:List Int) (k:Nat):Prop where
 nodup:R.Nodup
 reach:∀x∈R,Reach T d x
 first:d∈R
 le:k<=R.length
 done:∀j,j<k->∀x,R[j]? =some x->x≠i/\∀b∈o8 T x,b∈R
theorem rW.start(T:List (bT×Value))(d i:Int):rW T d i [d] 0:=
 ⟨List.nodup_cons.2 ⟨by simp,List.nodup_nil⟩,λx h=>by rw[au] at h;subst h;exact .here,by simp,fC _,λj z=>by omega⟩
theorem rW.len(G:Q5 T){d i:Int}{R:List Int}{k:Nat}(h:rW T d i R k):R.length<=33:=by
 have z:=J4 R (d::(List.range 32).map λn:Nat=>(n:Int)) h.nodup λx J=>by
  rcases (h.reach x J).rng G with e|⟨z,U⟩
  ·rw[e];simp
  ·refine je _ (bF.2 ⟨x.toNat,bW.2 (by omega),by omega⟩)
 rw[cr,bZ,fK] at z;exact z
theorem rW.found(h:rW T d i R k){x:Int}(z:R[k]? =some x)(e:x=i):Reach T d i:=by
 rw[<-e];exact h.reach x (List.mem_of_getElem? z)
theorem rW.ended(h:rW T d i R k)(G:k=R.length):¬Reach T d i:=λJ=>by
 subst G;have V:∀x,Reach T d x->x∈R:=λx hx=>Reach.closed (P:=λx=>x∈R) h.first (λa U b W=>by
  obtain⟨j,z,e⟩:=bY U;exact(h.done j z a (by rw[aD z,e])).2 b W) hx
 obtain⟨j,z,e⟩:=bY (V i J);exact(h.done j z i (by rw[aD z,e])).1 rfl
theorem rW.more(h:rW T d i R k){x b:Int}(U:R[k]? =some x)(J:b∈o8 T x)(hn:b∉R):rW T d i (R++[b]) k/\(R++[b])[k]? =some x:=by
 have W:k<R.length:=(List.getElem?_eq_some_iff.1 U).1;refine⟨⟨?_,λy G=> ?_,by simp[h.first],by rw[aC];have :=h.le;omega,λj hj y G=> ?_⟩,by rw[ba W,U]⟩
 ·rw[List.nodup_append]
  refine⟨h.nodup,List.nodup_cons.2 ⟨by simp,List.nodup_nil⟩,λy G z V e=> ?_⟩;rw[au] at V;rw[V] at e;exact hn (e▸G)
 ·rcases aT.1 G with G|G
  ·exact h.reach y G
  ·rw[au] at G
   subst G;exact .step (h.reach x (List.mem_of_getElem? U)) J
 ·rw[ba (by omega)] at G
  obtain⟨h1,h2⟩:=h.done j hj y G;exact⟨h1,λb J=>by simp[h2 b J]⟩
theorem rW.next(h:rW T d i R k){x:Int}(U:R[k]? =some x)(J:x≠i)(z:∀b∈o8 T x,b∈R):rW T d i R (k+1):=by
 have V:k<R.length:=(List.getElem?_eq_some_iff.1 U).1;refine⟨h.nodup,h.reach,h.first,by omega,λj W y G=> ?_⟩;by_cases e:j=k
 ·subst e
  rw[U] at G;cases G;exact⟨J,z⟩
 ·exact h.done j (by omega) y G
def mk (S:List Bool) (x:Int):Bool:=S.getD x.toNat false
end
section
variable{T:List (bT×Value)}{d i:Int}{R:List Int}{cap g k:Nat}{a b nm:ByteArray}{n:bT}{A B E M:List (ByteArray×Int)}{w:World}{v:Value}{P:Nat->Prop}
end
section
variable{T:List (bT×Value)}{d i:Int}{R:List Int}{cap g k:Nat}{a b nm:ByteArray}{n:bT}{A B E M:List (ByteArray×Int)}{w:World}{v:Value}{P:Nat->Prop}
def J5 (a b:ByteArray):Prop:=Op.bytesLess a.toList b.toList=true
def wT (a b:ByteArray):Int:=Lib.compareBytes a.data.toList b.data.toList
theorem J6 (h:a.toList=b.toList):a=b:=by
 rw[jC,jC] at h;exact ByteArray.ext (Array.toList_inj.1 h)
theorem uK:∀a b:List UInt8,(Lib.compareBytes a b<0↔Op.bytesLess a b=true)/\(Lib.compareBytes a b=0↔a=b)
 | [],[]=>by simp[Lib.compareBytes,Op.bytesLess]
 | [],_::_=>by simp[Lib.compareBytes,Op.bytesLess]
 |_::_,[]=>by simp[Lib.compareBytes,Op.bytesLess]
 |x::a,y::b=>by
  have U:=uK a b;unfold Lib.compareBytes;by_cases z:x<y
  ·have h:x≠y:=λe=>by rw[e,gZ] at z;omega
   simp[z,h,Op.bytesLess]
  ·by_cases G:y<x
   ·have h:x≠y:=λe=>z (by rw[e] at G;exact absurd G (by rw[gZ];omega))
    simp[z,G,h,Op.bytesLess]
   ·have J:x=y:=by
     rw[gZ] at z G;exact UInt8.toNat_inj.1 (by omega)
    subst J;simp only[z,if_false,Op.bytesLess,BEq.rfl,Bool.true_and,decide_false,Bool.false_or,jk,true_and];exact U
theorem YQ (a b:ByteArray):wT a b<0↔J5 a b:=by
 unfold wT J5;rw[jC,jC];exact(uK _ _).1
theorem Vp (a b:ByteArray):wT a b=0↔a=b:=by
 unfold wT;rw[(uK _ _).2];exact⟨λh=>ByteArray.ext (Array.toList_inj.1 h),λh=>by rw[h]⟩
theorem mG (a:ByteArray):¬J5 a a:=λh=>by
 unfold J5 at h;rw[o6] at h;cases h
theorem vJ{c:ByteArray}(h:J5 a b)(k:J5 b c):J5 a c:=oL _ _ _ h k
theorem tD (h:J5 a b):a≠b:=λe=>mG b (by rw[e] at h;exact h)
theorem Vq (a b:ByteArray):J5 a b\/a=b\/J5 b a:=by
 by_cases h:J5 a b
 ·exact .inl h
 ·by_cases e:a=b
  ·exact .inr (.inl e)
  ·refine .inr (.inr (tu _ _ ?_ λz=>e (J6 z)))
   unfold J5 at h;simpa using h
def yt (E:List (ByteArray×Int)):Prop:=E.Pairwise λp q=>J5 p.1 q.1
structure iP (E A M B:List (ByteArray×Int)) (nm:ByteArray):Prop where
 eq:E=A++(M++B)
 ahead:∀p∈A,J5 p.1 nm
 behind:∀p∈B,J5 nm p.1
 one:M=[]\/∃i,M=[(nm,i)]
theorem lL:∀{E:List (ByteArray×Int)},yt E->∀nm,∃A M B,iP E A M B nm
 | [],_,nm=>⟨[],[],[],rfl,by simp,by simp,.inl rfl⟩
 |p::E,h,nm=>by
  have J:=List.pairwise_cons.1 h;obtain⟨A,M,B,G⟩:=lL J.2 nm;rcases Vq p.1 nm with W|U|V
  ·refine⟨p::A,M,B,by rw[G.eq];rfl,?_,G.behind,G.one⟩
   intro q z;rcases aL.1 z with rfl|z
   ·exact W
   ·exact G.ahead q z
  ·refine⟨[],[p],E,rfl,by simp,λq z=> ?_,.inr ⟨p.2,by rw[<-U]⟩⟩
   rw[<-U];exact J.1 q z
  ·refine⟨[],[],p::E,rfl,by simp,λq z=> ?_,.inl rfl⟩
   rcases aL.1 z with rfl|z
   ·exact V
   ·exact vJ V (J.1 q z)
theorem J7 (h:pn n):yt n.E:=by
 unfold yt;rw[df];intro i j V J G;have :=GG (λk z U=>(h.2.2.2 k z).2.2 U) j i G J;have e:∀k (z:k<n.E.length),n.E[k]=(eX n.E k,jq n.E k):=λk z=>by simp[eX,jq,z]
 rw[e i V,e j J];exact this
theorem iP.rises(h:iP E A M B nm)(U:yt E)(M':List (ByteArray×Int))(V:M'=[]\/∃i,M'=[(nm,i)]):yt (A++(M'++B)):=by
 unfold yt at U ⊢;rw[h.eq,List.pairwise_append,List.pairwise_append] at U;rw[List.pairwise_append,List.pairwise_append];obtain⟨r1,⟨-,W,-⟩,r5⟩:=U;have G:∀q∈M',q.1=nm:=λq z=>by
  rcases V with rfl|⟨i,rfl⟩
  ·simp at z
  ·rw[au] at z;rw[z]
 refine⟨r1,⟨?_,W,λp J q z=>by rw[G p J];exact h.behind q z⟩,λp J q z=> ?_⟩
 ·rcases V with rfl|⟨i,rfl⟩
  ·exact List.Pairwise.nil
  ·exact List.pairwise_singleton _ _
 ·rcases aT.1 z with z|z
  ·rw[G q z];exact h.ahead p J
  ·exact vJ (h.ahead p J) (h.behind q z)
theorem iP.at(h:iP E A M B nm)(k:Nat)(hk:k<E.length):(J5 (eX E k) nm↔k<A.length)/\(eX E k=nm↔k=A.length/\M≠[]):=by
 have hE:E.length=A.length+(M.length+B.length):=by rw[h.eq,aC,aC]
 have hM:M.length<=1:=by rcases h.one with e|⟨i,e⟩<;>rw[e]<;>simp
 have U:(eX E k,jq E k)=E[k]:=by simp[eX,jq,hk]
 have h1:eX E k=E[k].1:=by rw[<-U]
 by_cases J:k<A.length
 ·have e:E[k]=A[k]:=by simp only[h.eq];rw[List.getElem_append_left J]
  have z:=h.ahead _ (bG J);rw[<-e,<-h1] at z;exact⟨⟨λ_=>J,λ_=>z⟩,⟨λe=>absurd e (tD z),λe=>by omega⟩⟩
 ·by_cases hm:k<A.length+M.length
  ·have cJ:k=A.length:=by omega
   have G:M≠[]:=λe=>by rw[e] at hm;simp at hm;omega
   have e:eX E k=nm:=by
    obtain⟨i,e⟩:=h.one.resolve_left G;have :E[k]? =some (nm,i):=by
     rw[h.eq,e,cJ,aR (by omega)];simp
    rw[aD hk,Option.some_inj] at this;rw[h1,this]
   exact⟨⟨λz=>absurd e (tD z),λh=>absurd h J⟩,⟨λ_=>⟨cJ,G⟩,λ_=>e⟩⟩
  ·have V:k-A.length-M.length<B.length:=by omega
   have e:E[k]? =some B[k-A.length-M.length]:=by
    rw[h.eq,aR (by omega),aR (by omega),aD V]
   rw[aD hk,Option.some_inj] at e;have z:=h.behind _ (bG V);rw[<-e,<-h1] at z;refine⟨⟨λW=>absurd (vJ W z) (mG _),λW=>absurd W J⟩,⟨λe2=>absurd e2.symm (tD z),λ⟨W,h3⟩=> ?_⟩⟩;have :M.length≠0:=λe=>h3 (bo e)
   omega
def bg:List (ByteArray×Int)->ByteArray->Int
 | [],_=> -1
 |p::E,nm=>if p.1=nm then p.2 else bg E nm
theorem C5:∀(A E:List (ByteArray×Int)) (nm:ByteArray),(∀p∈A,p.1≠nm)->bg (A++E) nm=bg E nm
 | [],_,_,_=>rfl
 |p::A,E,nm,h=>by
  show(if p.1=nm then p.2 else bg (A++E) nm)=_;rw[aA (h p (by simp))];exact C5 A E nm λq z=>h q (by simp[z])
theorem AF (E:List (ByteArray×Int))(nm:ByteArray)(h:∀p∈E,p.1≠nm):bg E nm= -1:=by
 have :=C5 E [] nm h;rw[br] at this;exact this
theorem N0 (a b:ByteArray)(w:World):Calls prog 219 #[.string a,.string b] w λe w'=>e=(wT a b:Int)/\w=w':=by
 go_in;go_wp2;rw[run_callFunc_extern func232 (by kernel_rfl) (by kernel_rfl) (by kernel_rfl) (e:=Extern.BytealgCompare.compare) (by kernel_rfl),Lib.run_compareString];simp only[Result.andThen];rw[Oper.upon_value];go_wp2;go_ret;exact⟨rfl,rfl⟩
theorem BD (a b:ByteArray)(w:World):Calls prog 207 #[.string a,.string b] w λe w'=>e=(wT a b:Int)/\w=w':=by
 have h:=λz=>N0 a b z
 generalize wT a b=r at h ⊢;go_in;go_wp2_with fail;refine C' (h _) ?_;go_wp2_with fail;go_ret;exact⟨rfl,rfl⟩
theorem N1 (a nm:ByteArray)(x:Int)(w:World):Calls prog 206 #[.agg #[.string a,x],.string nm] w λe w'=>e=(wT a nm:Int)/\ay [] w w':=by
 have h:=λG=>BD a nm G
 generalize wT a nm=r at h ⊢;have z:Hid (ay [] w (w.alloc (.cells #[.string a,x] 87))):=(ay.refl [] w).alloc _;go_in;go_wp2_with fail;refine C' (h _) ?_;go_wp2_with fail;go_ret;exact⟨rfl,z.out⟩
def lV (w:World) (A M:List (ByteArray×Int)) (e:Ending) (w':World):Prop:=e= .returned (.tuple #[(A.length:Int),(!M.isEmpty:Bool)])/\ay [] w w'
theorem Vr (hE:bD w v g E)(hs:iP E A M B nm)(YR:E.length<=1000):
  Calls prog 205 #[v,.string nm,.func (.func 206) #[] #[]] w (lV w A M):=by
 have J8:Hid (∀w',ay [] w w'->lV w A M (.returned (.tuple #[(A.length:Int),(!M.isEmpty:Bool)])) w'):=λw' h=>⟨rfl,h⟩
 have aa:=ar (hs.at);have ai:A.length<=E.length:=by rw[hs.eq,aC];omega
 obtain⟨a,cap,rfl,aj,ah,zA⟩:=hE.open;have UW:Hid (∀(x:ByteArray) (y:Int) (wx:World),Calls prog 206 #[.agg #[.string x,(y:Int)],.string nm] wx λe w'=>e=(wT x nm:Int)/\ay [] wx w'):=λx y wx=>N1 x nm y wx
 have WX:Hid (∀k,k<E.length->(wT (eX E k) nm<0↔k<A.length)/\(wT (eX E k) nm=0↔k=A.length/\M≠[])):=λk hk=>⟨(YQ _ _).trans (aa.out k hk).1,(Vp _ _).trans (aa.out k hk).2⟩
 have V:Hid (M≠[]->A.length<E.length):=λh=>by
  have :M.length≠0:=λe=>h (bo e)
  have e:=cN List.length hs.eq;rw[aC,aC] at e;omega
 unfold maxLen at ah;have YS:Hid ((M.isEmpty=true/\M=[])\/(M.isEmpty=false/\M≠[])):=by
  show _\/_;cases M with
  |nil=>exact .inl ⟨rfl,rfl⟩
  |cons a b=>exact .inr ⟨rfl,by simp⟩
 clear hs hE aa;generalize hm:E.length=m,hk:A.length=k at *;clear hm hk;go_in;go_wp2_with fail;go_loopg [9,10] m (λgh s9 Xt wx=>∃G z:Nat,s9= .int .i64 (G:Int)/\Xt= .int .i64 (z:Int)/\G<=k/\k<=z/\z<=m/\z-G<=gh/\Hid (ay [] w wx))
 case atStart=>exact⟨0,m,rfl,rfl,fC _,ai,aH _,by omega,ay.refl _ _⟩
 case round=>
  obtain⟨G,z,rfl,rfl,h1,h2,h3,h4,W⟩:=hrel;by_cases au:G<z
  ·have ag:(G+z)/2<m:=by omega
   obtain⟨U,off,rfl,d1,d2⟩:=zA.out _ ag;have c0:wr.cell? ⟨g,off+(G+z)/2*2,none⟩=some (.string (eX E ((G+z)/2))):=(aO (w:=w) (a:=⟨g,off+(G+z)/2*2,none⟩) (W.out.block g U (by simp))).trans d1;have c1:wr.cell? ⟨g,off+(G+z)/2*2+1,none⟩=some (.int .i64 (jq E ((G+z)/2))):=(aO (w:=w) (a:=⟨g,off+(G+z)/2*2+1,none⟩) (W.out.block g U (by simp))).trans d2;have hN:=WX.out _ ag;have HC:=ar (UW.out (eX E ((G+z)/2)) (jq E ((G+z)/2)));clear d1 d2;by_cases ae:(G+z)/2<k
   ·have af:=hN.1.2 ae
    clear hN;generalize wT (eX E ((G+z)/2)) nm=cv at *;generalize eX E ((G+z)/2)=nk,jq E ((G+z)/2)=ik at *;go_wp2_with fail;refine Rr (HC.out _) λw2 J=> ?_;have fx:=ar (W.out.trans' J);clear J;go_wp2_with fail;go_roundg (z-((G+z)/2+1));case measure=>omega
    case rel=>exact⟨(G+z)/2+1,z,by rw[show((G:Int)+(z:Int))/2+1=(((G+z)/2+1:Nat):Int) by omega],rfl,by omega,h2,h3,aH _,fx.out⟩
   ·have af:¬wT (eX E ((G+z)/2)) nm<0:=λh=>ae (hN.1.1 h)
    clear hN;generalize wT (eX E ((G+z)/2)) nm=cv at *;generalize eX E ((G+z)/2)=nk,jq E ((G+z)/2)=ik at *;go_wp2_with fail;refine Rr (HC.out _) λw2 J=> ?_;have fx:=ar (W.out.trans' J);clear J;go_wp2_with fail;go_roundg ((G+z)/2-G);case measure=>omega
    case rel=>exact⟨G,(G+z)/2,rfl,by rw[show((G:Int)+(z:Int))/2=(((G+z)/2:Nat):Int) by omega],h1,by omega,by omega,aH _,fx.out⟩
  ·obtain rfl:G=k:=by omega
   obtain rfl:z=G:=by omega
   rcases dE z m with ac|ac
   ·obtain⟨U,off,rfl,d1,d2⟩:=zA.out _ ac
    have c0:wr.cell? ⟨g,off+z*2,none⟩=some (.string (eX E z)):=(aO (w:=w) (a:=⟨g,off+z*2,none⟩) (W.out.block g U (by simp))).trans d1;have c1:wr.cell? ⟨g,off+z*2+1,none⟩=some (.int .i64 (jq E z)):=(aO (w:=w) (a:=⟨g,off+z*2+1,none⟩) (W.out.block g U (by simp))).trans d2;have hN:=WX.out _ ac;have HC:=ar (UW.out (eX E z) (jq E z));clear d1 d2;rcases YS.out with ⟨e1,e2⟩|⟨e1,e2⟩
    ·have hz:(wT (eX E z) nm==0)=false:=by
      rw[cP];exact λh=>(hN.2.1 h).2 e2
     have mZ:Hid (∀w',ay [] w w'->lV w A M (.returned (.tuple #[(z:Int),false])) w'):=λw' h=>by have :=J8.out w' h;rwa[e1] at this
     clear hN YS e1 e2 WX UW J8 V zA;generalize wT (eX E z) nm=cv at *;generalize eX E z=nk,jq E z=ik at *;go_wp2_with fail;refine Rr (HC.out _) λw2 J=> ?_;have fx:=ar (W.out.trans' J);clear J;go_wp2_with fail;go_ret2;exact mZ.out _ fx.out
    ·have hz:(wT (eX E z) nm==0)=true:=by
      rw[beq_iff_eq];exact hN.2.2 ⟨rfl,e2⟩
     have mZ:Hid (∀w',ay [] w w'->lV w A M (.returned (.tuple #[(z:Int),true])) w'):=λw' h=>by have :=J8.out w' h;rwa[e1] at this
     clear hN YS e1 e2 WX UW J8 V zA;generalize wT (eX E z) nm=cv at *;generalize eX E z=nk,jq E z=ik at *;go_wp2_with fail;refine Rr (HC.out _) λw2 J=> ?_;have fx:=ar (W.out.trans' J);clear J;go_wp2_with fail;go_ret2;exact mZ.out _ fx.out
   ·have mZ:Hid (∀w',ay [] w w'->lV w A M (.returned (.tuple #[(z:Int),false])) w'):=λw' h=>by
     have :=J8.out w' h;rcases YS.out with ⟨e1,e2⟩|⟨e1,e2⟩
     ·rwa[e1] at this
     ·have :=V.out e2;omega
    have ak:¬(z:Int)<(m:Int):=by omega
    clear YS WX UW J8 V zA;go_wp2_with fail;go_ret2;exact mZ.out _ W.out
theorem J9 (U:bD w v g E)(J:iP E A M B nm)(V:E.length<=1000):
  Calls prog 183 #[v,.string nm] w (lV w A M):=by
 have z:=Vr U J V;unfold lV at z;have W:=ar z;have HP:Hid (∀w',ay [] w w'->lV w A M (.returned (.tuple #[(A.length:Int),(!M.isEmpty:Bool)])) w'):=λw' h=>⟨rfl,h⟩
 clear U J V z;generalize (A.length:Int)=k,(!M.isEmpty)=b at *;go_in;go_wp2_with fail;refine Rr W.out λw' G=> ?_;have HK:=ar G;clear G;go_wp2_with fail;go_ret2;exact HP.out _ HK.out
def N2:List (ByteArray×Int)->Int
 | []=>0
 |p::_=>p.2
def BF (w:World) (M:List (ByteArray×Int)) (e:Ending) (w':World):Prop:=e= .returned (.tuple #[(N2 M:Int),(!M.isEmpty:Bool)])/\ay [] w w'
theorem iP.mid(h:iP E A M B nm)(z:M≠[]):A.length<E.length/\jq E A.length=N2 M:=by
 obtain⟨i,rfl⟩:=h.one.resolve_left z;have G:A.length<E.length:=by rw[h.eq,aC,aC];simp;omega
 refine⟨G,?_⟩;rw[jq,h.eq,aj,aR (aH _)];simp[N2]
theorem SZ (n:bT){v:Value}{g:Nat}{A M B:List (ByteArray×Int)}{nm:ByteArray}(hB:n.B.length=13)(hE:bD w v g n.E)(hs:iP n.E A M B nm)(YR:n.E.length<=1000):
  Calls prog 156 #[aM n v,.string nm] w (BF w M):=by
 have cJ:ay [] w (w.alloc (.cells (aM n v) 111)):=(ay.refl [] w).alloc _;have W:=J9 (hE.keep cJ (by simp)) hs YR;unfold lV at W;have aa:=ar hs.mid;have YS:Hid ((M.isEmpty=true/\M=[])\/(M.isEmpty=false/\M≠[])):=by
  show _\/_;cases M with
  |nil=>exact .inl ⟨rfl,rfl⟩
  |cons a b=>exact .inr ⟨rfl,by simp⟩
 have HP:Hid (∀w',ay [] w w'->BF w M (.returned (.tuple #[(N2 M:Int),(!M.isEmpty:Bool)])) w'):=λw' h=>⟨rfl,h⟩
 obtain⟨a,cap,rfl,aj,ae,zA⟩:=hE.open;have ac:=gG (.slice a n.E.length cap) hB;have J:=bh.new w (aM n (.slice a n.E.length cap)) 111;generalize aM n (.slice a n.E.length cap)=Z at *;have U:Z[17]? =some (.slice a n.E.length cap):=ac.f5;have ai:(w.alloc (.cells Z 111)).cell? ⟨w.heap.size,17,none⟩=some (.slice a n.E.length cap):=by rw[J.cell];exact U
 obtain⟨PH,qa,fI,ag⟩:=hh4 W J cJ U;unfold maxLen at ae;clear ac J cJ W U hB hE hs;generalize hm:n.E.length=m,af:A.length=k at *;clear hm af;go_in;go_wp2_with fail;refine Rr PH.out λw2 z=> ?_;have fx:=ar z;have ak:w2.cell? ⟨w.heap.size,17,none⟩=some (.slice a m cap):=by rw[(qa.out.keep z (by simp)).cell];exact ag.out
 have CS:=ar (fI.out.trans' z);clear z ai;rcases YS.out with ⟨V,e2⟩|⟨V,e2⟩
 ·have mZ:Hid (∀w',ay [] w w'->BF w M (.returned (.tuple #[(0:Int),false])) w'):=λw' h=>by
   have :=HP.out w' h;rw[V,show N2 M=0 by rw[e2];rfl] at this;exact this
  rw[V];clear V e2 YS HP aa zA;go_wp2_with fail;go_ret2;exact mZ.out _ CS.out
 ·obtain⟨JN,G⟩:=aa.out e2
  have mZ:Hid (∀w',ay [] w w'->BF w M (.returned (.tuple #[(N2 M:Int),true])) w'):=λw' h=>by
   have :=HP.out w' h;rw[V] at this;exact this
  obtain⟨ah,off,rfl,-,d1⟩:=zA.out k JN;rw[G] at d1;have c1:w2.cell? ⟨g,off+k*2+1,none⟩=some (.int .i64 (N2 M)):=(aO (w:=w) (a:=⟨g,off+k*2+1,none⟩) (CS.out.block g ah (by simp))).trans d1;rw[V];have xI:(k:Int)<(m:Int):=by omega
  clear V e2 YS HP aa zA d1 G;generalize N2 M=im at *;go_wp2_with fail;go_ret2;exact mZ.out _ CS.out
theorem N3{a:Option Addr}{n:Nat}(h:bD w (.slice a n cap) g E)(k:Nat)(hk:k<=E.length):
  ∃W J,(∀z,(Instr.sliceAt 32 (.slice a n cap) none (some (.int .i64 (k:Int))) none).run prog z= .ok (.slice W k J) z)/\bD w (.slice W k J) g (E.take k):=by
 have V: prog.underlying 32 =some (.slice (prog.elem 32)):=by kernel_rfl
 have he: prog.elem 32 = 87 :=by kernel_rfl
 have hs:∀z:World,(sizeOf 87).run prog z= .ok 2 z:=λz=>by kernel_rfl
 obtain⟨a0,aa,hv,h1,h2,h3⟩:=h;cases hv;have G:(E.take k).length=k:=by rw[aJ];omega
 refine⟨if cap=0 then a else a.map (·.add (0*2)),cap-0,λz=> ?_,_,_,by rw[G],by omega,by omega,λh0=> ?_⟩
 ·rw[run_sliceAt_slice _ _ _ _ _ _ V,run_slice_h _ _ _ _ _ V .i64 (k:Int) (by omega) (by omega),he,hs]
  simp only[cL,sliced,aG,Nat.sub_zero]
 ·rw[G] at h0
  obtain⟨hg,off,rfl,hc⟩:=h3 (by omega);refine⟨hg,off,by rw[aA];simp[add_plain],λj U=> ?_⟩;rw[G] at U;obtain⟨c0,c1⟩:=hc j (by omega);have e:(E.take k).getD j (ByteArray.empty,0)=E.getD j (ByteArray.empty,0):=by simp[U]
  rw[eX,jq,e];exact⟨c0,c1⟩
theorem LI{a:Option Addr}{n:Nat}(h:bD w (.slice a n cap) g E)(k:Nat)(hk:k<=E.length):
  ∃V J,(∀z,(Instr.sliceAt 32 (.slice a n cap) (some (.int .i64 (k:Int))) none none).run prog z= .ok (.slice V (n-k) J) z)/\bD w (.slice V (n-k) J) g (E.drop k):=by
 have U: prog.underlying 32 =some (.slice (prog.elem 32)):=by kernel_rfl
 have he: prog.elem 32 = 87 :=by kernel_rfl
 have hs:∀z:World,(sizeOf 87).run prog z= .ok 2 z:=λz=>by kernel_rfl
 obtain⟨a0,aa,W,h1,h2,h3⟩:=h;cases W;have G:(E.drop k).length=E.length-k:=by rw[bM]
 refine⟨if cap=k then a else a.map (·.add (k*2)),cap-k,λz=> ?_,_,_,by rw[G],by omega,by omega,λh0=> ?_⟩
 ·rw[run_sliceAt_slice _ _ _ _ _ _ U,run_slice_l _ _ _ _ _ U .i64 (k:Int) (by omega) (by omega),he,hs]
  simp only[cL,sliced,aG]
 ·rw[G] at h0
  obtain⟨hg,off,rfl,hc⟩:=h3 (by omega);refine⟨hg,off+k*2,by rw[aA];simp[add_plain],λj hj=> ?_⟩;rw[G] at hj;obtain⟨c0,c1⟩:=hc (k+j) (by omega);have e:(E.drop k).getD j (ByteArray.empty,0)=E.getD (k+j) (ByteArray.empty,0):=by simp
  rw[show off+k*2+j*2=off+(k+j)*2 by omega,eX,jq,e];exact⟨c0,c1⟩
def G9 (w:World) (g:Nat) (A B:List (ByteArray×Int)) (e:Ending) (w':World):Prop:=
 ∃x y,e= .returned (.tuple #[x,y])/\bD w x g A/\bD w y g B/\ay [] w w'
theorem iP.takes(h:iP E A M B nm):E.take A.length=A/\E.drop (A.length+M.length)=B/\E.length=A.length+M.length+B.length/\(M.isEmpty=true->M.length=0)/\(M.isEmpty=false->M.length=1):=by
 refine⟨by rw[h.eq,List.take_left],by rw[h.eq,<-aV,<-aC,List.drop_left],by rw[h.eq,aC,aC];omega,λe=>by rw[List.isEmpty_iff.1 e];rfl,λe=> ?_⟩;rcases h.one with rfl|⟨i,rfl⟩
 ·cases e
 ·rfl
theorem Ka (hE:bD w v g E)(hs:iP E A M B nm)(YR:E.length<=1000):
  Calls prog 185 #[v,.string nm] w (G9 w g A B):=by
 have aa:=J9 hE hs YR;unfold lV at aa;obtain⟨t1,t2,t3,t4,t5⟩:=hs.takes;obtain⟨a,cap,hv,-,-,-⟩:=hE.open;subst hv;obtain⟨a1,c1,J,ac⟩:=N3 hE A.length (by omega);obtain⟨a2,c2,z,W⟩:=LI hE (A.length+M.length) (by omega);rw[t1] at ac;rw[t2] at W;have HP:Hid (∀w',ay [] w w'->G9 w g A B (.returned (.tuple #[.slice a1 A.length c1,.slice a2 (E.length-(A.length+M.length)) c2])) w'):=λw' h=>⟨_,_,rfl,ac,W,h⟩
 obtain⟨PH,T4,T5,T3,ae,TN⟩:=hh6 aa t4 t5 t3 J z;clear aa ac W hE hs t1 t2 t4 t5 J z;generalize hm:E.length=m,hk:A.length=k,JX:M.length=q at *;clear hm hk JX;have JN:k+q<=m:=by have :=T3.out;omega
 clear t3;cases hME:M.isEmpty
 ·obtain rfl:=T5.out hME
  rw[hME] at PH;have J:=ae.out;have z:=TN.out;rw[show((k+1:Nat):Int)=(k:Int)+1 by omega] at z;clear T4 T5 hME;have af:IntKind.i64.wrap ((k:Int)+1)=(k:Int)+1:=fR _ (by omega);go_in;go_wp2_with fail;refine Rr PH.out λw2 U=> ?_;have fx:=ar U;clear U;go_wp2_with fail;refine jy (S:=λV=>ay [] w V) (fx.out.drew) ?_;repeat (
   (first
   |(refine aU.cons (.slice a1 k c1) (bR.val rfl ?h) ?_;(case h=>(intro V G;clear G;go_simp;(try rw[J]);done)))
   |(refine aU.cons (.slice a2 (m-(k+1)) c2) (bR.val rfl ?h) ?_;(case h=>(intro V G;clear G;go_simp;(try rw[z]);done)))
   |(refine aU.cons ?_ (bR.val rfl ?h) ?_;(case h=>(intro V G;clear G;go_simp;rfl))));simp only[Act.put,ag,ah,ai])
  refine aU.done λV G=> ?_
  have um:=ar G;clear G;go_wp2_with fail;go_ret2;exact HP.out _ um.out
 ·obtain rfl:=T4.out hME
  rw[hME] at PH;have J:=ae.out;have z:=TN.out;rw[dB] at z;clear T4 T5 hME;go_in;go_wp2_with fail;refine Rr PH.out λw2 U=> ?_;have fx:=ar U;clear U;go_wp2_with fail;refine jy (S:=λV=>ay [] w V) (fx.out.drew) ?_;repeat (
   (first
   |(refine aU.cons (.slice a1 k c1) (bR.val rfl ?h) ?_;(case h=>(intro V G;clear G;go_simp;(try rw[J]);done)))
   |(refine aU.cons (.slice a2 (m-k) c2) (bR.val rfl ?h) ?_;(case h=>(intro V G;clear G;go_simp;(try rw[z]);done)))
   |(refine aU.cons ?_ (bR.val rfl ?h) ?_;(case h=>(intro V G;clear G;go_simp;rfl))));simp only[Act.put,ag,ah,ai])
  refine aU.done λV G=> ?_
  have um:=ar G;clear G;go_wp2_with fail;go_ret2;exact HP.out _ um.out
theorem AG{P:Program}(w:World)(t W e:TypeId)(i:TypeInfo)(z:Value)(kq kn:IntKind)(size:Nat)(ht:P.underlying t=some (.slice e))(ac:P.underlying W=some (.int kn))(hi:P.info? e=some i)(hz:i.zero=some z)(af:i.size=size)(ae:0<size)(Yx:z.cells.size=size)
  (k:Nat) (h0:0<k) (hk:k<=1000) (U:i.bytes<=64):
  ∃c w',(∀ty,(Builtin.append_ #[t,W] ty #[(),.int kq k]).run P w= .ok (.slice w.heap.size k c) w')/\k<=c/\w'.ownsRow w.heap.size e size (.slice w.heap.size 0 c) 0 []/\ay [] w w':=by
 have aa:(Builtin.firstCells i.size 0 (.slice none 0 0)).run P w.drew= .ok ([]:List Value).toArray w.drew:=by simp[Builtin.firstCells]
 have V:Builtin.nextslicecap (0+k) 0<=4*1000+64:=by
  unfold Builtin.nextslicecap;split<;>omega
 have h1:k*i.bytes<=281474976710656:=cE (Nat.mul_le_mul hk U) (by omega);have h2:Builtin.nextslicecap (0+k) 0*i.bytes<=281474976710656:=cE (Nat.mul_le_mul V U) (by omega);have h:=λty=>Lib.run_append_grow_zeros w t W ty e i z kq kn ht ac hi hz none 0 0 [] aa k h0 (by omega) (by omega) (by omega) h1 h2
 have J:=grownCap_ge w (0+k) 0 e;have G:=grownCap_le_maxLen w (0+k) 0 e (by unfold maxLen;omega);rw[bc] at J G;simp only[bc] at h;refine⟨_,_,h,J,⟨by simp,.inr ⟨w.heap.size,grownCap w k 0 e,_,rfl,aH _,bh.new w.drew _ _,fC _,G,?_,by simp⟩⟩,((ay.refl [] w).drew).alloc _⟩;simp[oG,Yx];rw[<-Nat.add_mul]
 congr 1
 omega
theorem Tryz.info_ent9:(prog.info? 87).map (λi=>(i.zero,i.size,i.bytes))=some (some (.agg #[.string ⟨#[]⟩,(0:Int)]),2,24):=by kernel_rfl
theorem YT (k:Nat)(hk:k<=1000)(z:Int)(W:z=(k:Int))(w:World):Calls prog 208 #[(),z] w λe w'=>
  ∃v,e=(v:Value)/\w'.ownsRow w.heap.size 87 2 v 0 []/\ay [] w w':=by
 rcases dY k with rfl|h0
 ·obtain rfl:z=0:=by omega
  clear W hk;go_in;go_wp2_with fail;go_ret;exact⟨_,rfl,⟨rfl,.inl ⟨rfl,rfl⟩⟩,ay.refl _ _⟩
 ·obtain⟨i0,hi,U,V,J⟩:=dc Tryz.info_ent9
  obtain⟨c,w',hr,hc,h,G⟩:=AG (P:= prog) w 32 3 87 i0 _ .i64 .i64 2 underlying32 underlying3 hi U V (by omega) rfl k h0 hk (by rw[J];omega);have h1:¬z<0:=by omega
  have h2:0<z:=by omega
  have h3:wrap64 z=z:=by unfold wrap64;omega
  simp only[<-W] at hr;obtain⟨HO,HK⟩:=hh2 h G;have aa:c≠0:=by omega
  have ac:(0:Int)<=(c:Int):=by omega
  clear h G W hi U V J hc;go_in;go_wp2_with(at_builtin;refine wpList_append_run rfl (.tmp 20) (.tmp 21) 32 3 ?_ (.slice none 0 0) (.int .i64 z) ?_ ?_ (hr _) ?_;all_goals first|rfl|skip);go_ret;exact⟨_,rfl,HO.out,HK.out⟩
theorem LJ{a:Option Addr}{m c:Nat}(h:bD w (.slice a m c) g E)(V:m≠0):∃G,a=some G/\∀j u,(fc E)[j]? =some u->w.cell? (G.add j)=some u:=by
 obtain⟨a',c',J,h2,h3,U⟩:=h;cases J;obtain⟨-,off,rfl,hc⟩:=U V;refine⟨_,rfl,λj u z=> ?_⟩;have hj:j<(fc E).length:=(List.getElem?_eq_some_iff.1 z).1;rw[lT] at hj;obtain⟨d0,W⟩:=hc (j/2) (by omega);obtain⟨e0,e1⟩:=ql E (j/2) (by omega);rw[add_plain];rcases Nat.mod_two_eq_zero_or_one j with h|h
 ·rw[show off+j=off+j/2*2 by omega,d0,<-e0,show j/2*2=j by omega,z]
 ·rw[show off+j=off+j/2*2+1 by omega,W,<-e1,show j/2*2+1=j by omega,z]
def pU (Ls:List (List (ByteArray×Int))) (j:Nat):Nat:=(Ls.take j).flatten.length
theorem Kb (Ls:List (List (ByteArray×Int)))(j:Nat)(h:j<Ls.length):(Ls.take (j+1)).flatten=(Ls.take j).flatten++Ls.getD j []:=by
 rw[bP h,List.flatten_append];simp[h]
theorem Q6 (Ls:List (List (ByteArray×Int)))(j:Nat)(h:j<Ls.length):pU Ls (j+1)=pU Ls j+(Ls.getD j []).length:=by
 unfold pU;rw[Kb Ls j h,aC]
theorem YU (Ls:List (List (ByteArray×Int)))(j:Nat):pU Ls j<=Ls.flatten.length:=by
 unfold pU;have :=cN List.flatten (dn j Ls);rw[List.flatten_append] at this;rw[<-this,aC];omega
theorem Vs (Ls:List (List (ByteArray×Int))):pU Ls Ls.length=Ls.flatten.length:=by
 unfold pU;rw[gy]
def Kc (w:World) (E:List (ByteArray×Int)) (e:Ending) (w':World):Prop:=∃v g,e=(v:Value)/\bD w' v g E/\w.heap.size<=g/\ay [] w w'
theorem Ha{gs T:Nat}{xs:List Value}{Ls:List (List (ByteArray×Int))}(hb:bh w gs xs.toArray T)(hl:xs.length=Ls.length)(hm:xs.length<=10)
  (hr:∀j,j<xs.length->∃g,bD w (xs.getD j (.slice none 0 0)) g (Ls.getD j [])) (hn:Ls.flatten.length<=1000):
  Calls prog 187 #[.slice gs xs.length xs.length] w (Kc w Ls.flatten):=by
 obtain⟨i0,hi,az,aA,ax⟩:=dc Tryz.info_ent9;have HR:Hid (∀j,j<xs.length->∃a c g,xs.getD j (.slice none 0 0)= .slice a (Ls.getD j []).length c/\bD w (.slice a (Ls.getD j []).length c) g (Ls.getD j [])/\(Ls.getD j []).length<=c/\∀J,ay [] w J->J.cell? ⟨gs,j,none⟩=some (.slice a (Ls.getD j []).length c)):=λj hj=>by
  obtain⟨g,hE⟩:=hr j hj;obtain⟨a,c,hv,h1,h2,-⟩:=hE.open;refine⟨a,c,g,hv,by rw[hv] at hE;exact hE,h1,λJ hk=> ?_⟩;rw[(hb.keep hk (by simp)).cell,aF,<-hv,aj,aD hj];rfl
 have JM:Hid (∀j,j<xs.length->pU Ls (j+1)=pU Ls j+(Ls.getD j []).length/\(Ls.take (j+1)).flatten=(Ls.take j).flatten++Ls.getD j []):=λj hj=>⟨Q6 Ls j (by omega),Kb Ls j (by omega)⟩
 have aa:Hid (∀j,pU Ls j<=1000):=λj=>cE (YU Ls j) hn
 have V:Hid (pU Ls xs.length=Ls.flatten.length/\(Ls.take xs.length).flatten=Ls.flatten):=by
  show _/\_;rw[hl];exact⟨Vs Ls,by rw[gy]⟩
 clear hr hb hl hn;generalize au:xs.length=m at *;clear au;have ak:=λ(k:Nat) (hk:k<=1000) (ki:Int) (xI:ki=(k:Int)) J=>YT k hk ki xI J
 have HG:=ar ak;clear ak;go_in;go_wp2_with fail;go_loopg [3,11] m (λgh s3 M8 J=>∃j:Nat,j+gh=m/\M8= .int .i64 (j:Int)/\s3= .int .i64 ((pU Ls j:Nat):Int)/\w=J)
 case atStart=>exact⟨0,by omega,rfl,rfl,rfl⟩
 case round=>
  obtain⟨j,hj,rfl,rfl,rfl⟩:=hrel;cases gk with
  |succ gg=>
   have af:j<m:=by omega
   have Qe:(j:Int)<(m:Int):=by omega
   have Cf:(0:Int)<=(j:Int):=by omega
   obtain⟨a,c,g,-,-,ac,G⟩:=HR.out j af;have c0:=G w (ay.refl _ _);obtain⟨z,-⟩:=JM.out j af;have W:=aa.out (j+1);have HQ:Hid (((pU Ls (j+1):Nat):Int)=((pU Ls j:Nat):Int)+(((Ls.getD j []).length:Nat):Int)):=by show _=_;omega
   rw[z] at W;clear z G ac;generalize pU Ls j=q,(Ls.getD j []).length=l at *;have aG:¬(q:Int)+(l:Int)<0:=by omega
   go_wp2_with fail;go_roundg gg;case measure=>omega
   case rel=>exact⟨j+1,by omega,by go_num,by rw[HQ.out],rfl⟩
  |zero=>
   obtain rfl:j=m:=by omega
   have W:=aa.out j;have ai:=HG.out (pU Ls j) W _ rfl w;clear HG;go_wp2_with fail;refine ai.mono ?_;rintro e w1 ⟨v0,rfl,h,ag⟩;obtain⟨HO,HK⟩:=hh2 h ag;clear h ag ai;go_wp2_with fail;go_loopg [6,27] j (λgh s6 s27 J=>∃i:Nat,i+gh=j/\s27= .int .i64 (i:Int)/\Hid (J.ownsRow w.heap.size 87 2 s6 (pU Ls i) (fc (Ls.take i).flatten)/\ay [] w J))
   case atStart=>exact⟨0,by omega,rfl,HO.out,HK.out⟩
   case round=>
    clear HO HK;obtain⟨i,aC,rfl,HP⟩:=hrel;obtain⟨h,U⟩:=HP.out;cases gk with
    |zero=>
     obtain rfl:i=j:=by omega
     have HM:Hid (Kc w Ls.flatten (.returned u6) wr):=by
      obtain⟨g,ho,hg⟩:=fp.of_row h;rw[V.out.1,V.out.2] at ho;by_cases h0:Ls.flatten.length=0
      ·exact⟨u6,w.heap.size,rfl,(ho.anyG h0 w.heap.size).ereads rfl,aH _,U⟩
      ·exact⟨u6,g,rfl,ho.ereads rfl,(hg (by rw[V.out.1];exact h0)).1,U⟩
     clear h U HP;go_wp2_with fail;go_ret;exact HM.out
    |succ gg=>
     have ah:i<j:=by omega
     have aB:(i:Int)<(j:Int):=by omega
     have aI:(0:Int)<=(i:Int):=by omega
     obtain⟨a,c,g,-,hE,ac,G⟩:=HR.out i ah;have e0:=G _ U;obtain⟨z,ae⟩:=JM.out i ah;have av:=aa.out (i+1);rw[z] at av;obtain⟨v',w',hr,ho,hg⟩:=mh (P:= prog) 32 87 32 i0 _ 2 24 underlying32 hi az aA ax rfl (by omega) w.heap.size (pU Ls i) _ _ h a (Ls.getD i []).length c (fc (Ls.getD i [])) (lT _) (LJ (hE.keep U (by simp))) (Aj _) (by unfold maxLen;omega) (by omega) U.size;have HN:Hid (w'.ownsRow w.heap.size 87 2 v' (pU Ls (i+1)) (fc (Ls.take (i+1)).flatten)/\ay [] w w'):=by
      refine⟨?_,U.grown hg (dP h)⟩;rw[z,ae,qH];exact ho
     clear h U HP ho hg G z ae hE ac;generalize (Ls.getD i []).length=l at *;go_wp2_with(at_builtin;refine wpList_append_run rfl (.tmp 31) (.tmp 32) 32 32 ?_ u6 (.slice a l c) ?_ ?_ hr ?_;all_goals first|rfl|skip);go_roundg gg;case measure=>omega
     case rel=>exact⟨i+1,by omega,by go_num,HN.out⟩
def lA (n:bT) (E:List (ByteArray×Int)):bT:={ n with S:=(E.length:Int),E:=E }
theorem Q7 (n:bT)(v u:Value)(E:List (ByteArray×Int))(h:n.B.length=13)(m:Int)(J:m=(E.length:Int)):((aM n v).setIfInBounds 17 u).setIfInBounds 3 (.int .i64 m)=aM (lA n E) u:=by
 subst J;have G:aM n v=(([.int .i64 n.F,.int .i64 n.K,.int .i64 n.L,.int .i64 n.S]:List Value)++(zs n.B++[v])).toArray:=rfl;have z:(([.int .i64 n.F,.int .i64 n.K,.int .i64 n.L,.int .i64 n.S]:List Value)++(zs n.B++[v])).set 17 u=([.int .i64 n.F,.int .i64 n.K,.int .i64 n.L,.int .i64 n.S]:List Value)++(zs n.B++[u]):=by
  rw[dH _ _ (by simp),dH _ _ (by rw[eO,h];simp),eO,h];rfl
 rw[G,ag,ag,z];rfl
theorem Ke (n:bT)(v:Value)(hB:n.B.length=13){a:Option Addr}{c:Nat}(E:List (ByteArray×Int))(m:Nat)(hm:m=E.length):
  Calls prog 186 #[aM n v,.slice a m c] w λe w'=>e=aM (lA n E) (.slice a m c)/\ay [] w w':=by
 have hl:(aM n v).size=18:=by rw[aM,bN,gM,hB]
 have G:(aM cg (.slice none 0 0)).size=18:=rfl;have aa:=gG v hB;have U:=Q7 n v (.slice a m c) E hB (m:Int) (by omega);have z:∀u∈na (lA n E) (.slice a m c),u.oneCell'=true:=kY rfl;have ae:=dz;have ac:aM (lA n E) (.slice a m c)=(na (lA n E) (.slice a m c)).toArray:=rfl;have h:(na (lA n E) (.slice a m c)).length=18:=by rw[gM];show n.B.length+5=18;omega
 generalize aM cg (.slice none 0 0)=Z0,aM n v=Z,aM (lA n E) (.slice a m c)=Z1,na (lA n E) (.slice a m c)=V at *;subst ac;have W:=(bh.new w ((Z.setIfInBounds 17 (.slice a m c)).setIfInBounds 3 (.int .i64 (m:Int))) 111).alloc (.cells Z0 111);have rU:=bh.new (w.alloc (.cells ((Z.setIfInBounds 17 (.slice a m c)).setIfInBounds 3 (.int .i64 (m:Int))) 111)) Z0 111;rw[show(w.alloc (.cells ((Z.setIfInBounds 17 (.slice a m c)).setIfInBounds 3 (.int .i64 (m:Int))) 111)).heap.size=w.heap.size+1 by simp] at rU;have J:ay [] w ((w.alloc (.cells ((Z.setIfInBounds 17 (.slice a m c)).setIfInBounds 3 (.int .i64 (m:Int))) 111)).alloc (.cells Z0 111)):=((ay.refl [] w).alloc _).alloc _;have mY:Hid ((loadVar 111 w.heap.size).run prog ((w.alloc (.cells ((Z.setIfInBounds 17 (.slice a m c)).setIfInBounds 3 (.int .i64 (m:Int))) 111)).alloc (.cells Z0 111))= .ok (.agg V.toArray) ((w.alloc (.cells ((Z.setIfInBounds 17 (.slice a m c)).setIfInBounds 3 (.int .i64 (m:Int))) 111)).alloc (.cells Z0 111))):=
  b7 _ 0 V underlying111 rfl (by rw[h];exact iZ) λj _=>by rw[W.cell,U,bc,aF]
 obtain⟨w5,q1,q2,q3⟩:=bH (P:= prog) (ty:= 111) (cs:=V) (by rw[h];exact iZ) rU (by rw[h];exact G) z;have HS:=ar q1;have Iz:Hid ((loadVar 111 (w.heap.size+1:Nat)).run prog w5= .ok (.agg V.toArray) w5):=
  b7 _ 0 V underlying111 rfl (by rw[h];exact iZ) λj _=>by rw[q2.cell,bc,aF]
 have jA:Hid (ay [] w w5):=J.trans q3 (by intro x hx;rw[au] at hx;omega);have Vd:17<Z.size:=by omega
 have af:3<Z.size:=by omega
 clear W rU J aa U z hl G q1 q2 q3 hm hB h;go_in;go_wp2_with(with_reducible first|refine gL 111 mY.out ?_|refine gS 111 HS.out ?_);exact aI (bA results186 rfl Iz.out) rfl ⟨rfl,jA.out⟩
def vK (w:World) (n:bT) (L:List (ByteArray×Int)) (e:Ending) (w':World):Prop:=∃u g,e=aM (lA n L) u/\bD w' u g L/\w.heap.size<=g/\ay [] w w'
theorem ajh (w:World)(x:ByteArray)(i:Int)(g T:Nat)(h:bh w g #[.string x,i] T):bD w (.slice g 1 1) g [(x,i)]:=
 ⟨_,1,rfl,aH _,by unfold maxLen;omega,λ_=>⟨h.lt,0,rfl,λj z=>by
  obtain rfl:j=0:=by simpa using z
  exact⟨by rw[h.cell];rfl,by rw[h.cell];rfl⟩⟩⟩
theorem ag2 (G:P 0)(z:P 1)(h:P 2):∀j,j<3->P j:=λj J=>by
 rcases (show j=0\/j=1\/j=2 by omega) with rfl|rfl|rfl
 ·exact G
 ·exact z
 ·exact h
theorem ag3 (z:P 0)(h:P 1):∀j,j<2->P j:=λj G=>by
 rcases (show j=0\/j=1 by omega) with rfl|rfl
 ·exact z
 ·exact h
theorem iP.newLen(h:iP E A M B nm)(i:Int):(A++([(nm,i)]++B)).length<=E.length+1/\(A++B).length<=E.length:=by
 rw[h.eq];simp only[aC,cr,cC];omega
theorem YV (n:bT){v:Value}{g:Nat}{A M B:List (ByteArray×Int)}{nm:ByteArray}(i:Int)(hB:n.B.length=13)(hE:bD w v g n.E)(hs:iP n.E A M B nm)(YR:n.E.length<=500):
  Calls prog 158 #[aM n v,.agg #[.string nm,i]] w (vK w n (A++([(nm,i)]++B))):=by
 have Mi:=hs.newLen i;obtain⟨L,hL⟩:∃L,A++([(nm,i)]++B)=L:=⟨_,rfl⟩;rw[hL] at Mi ⊢;have HL:=ar hL;have az:(aM cg (.slice none 0 0)).size=18:=rfl;have aX:=dz;have ak:=((bh.new w (aM n v) 111).alloc (.cells #[.string nm,i] 87)).alloc (.cells (aM cg (.slice none 0 0)) 111);have ae:=(bh.new (w.alloc (.cells (aM n v) 111)) #[.string nm,i] 87).alloc (.cells (aM cg (.slice none 0 0)) 111);have aj:=bh.new ((w.alloc (.cells (aM n v) 111)).alloc (.cells #[.string nm,i] 87)) (aM cg (.slice none 0 0)) 111;rw[show(w.alloc (.cells (aM n v) 111)).heap.size=w.heap.size+1 by simp] at ae;rw[show((w.alloc (.cells (aM n v) 111)).alloc (.cells #[.string nm,i] 87)).heap.size=w.heap.size+2 by simp] at aj;have af:ay [] w (((w.alloc (.cells (aM n v) 111)).alloc (.cells #[.string nm,i] 87)).alloc (.cells (aM cg (.slice none 0 0)) 111)):=(((ay.refl [] w).alloc _).alloc _).alloc _;have aJ:=Ka (hE.keep af (by simp)) hs (by omega);have IA:Hid (L.length<=1000):=by show _<=_;omega
 have aO:=gG v hB;have aa:∀u:Value,u.oneCell'=true->∀x∈na (lA n L) u,x.oneCell'=true:=λu hu=>kY hu
 have YW:=ar aa;have aG:Hid (∀U a c,Calls prog 186 #[aM n v,.slice a L.length c] U λe w'=>e=aM (lA n L) (.slice a L.length c)/\ay [] U w'):=λU a c=>Ke n v hB L _ rfl
 have aN:∀u,(na (lA n L) u).length=18:=λu=>by rw[gM];show n.B.length+5=18;omega
 have Ex:=ar aN;obtain⟨a,cap,rfl,aC,aQ,-⟩:=hE.open;have av:=aO.f5;have aV:Hid (∀U,bh U w.heap.size (aM n (.slice a n.E.length cap)) 111->(loadVar 111 w.heap.size).run prog U= .ok (.agg (aM n (.slice a n.E.length cap))) U):=λU hb=>b9 hb hB
 generalize aM cg (.slice none 0 0)=Z0,aM n (.slice a n.E.length cap)=Z at *;have aR:(((w.alloc (.cells Z 111)).alloc (.cells #[.string nm,i] 87)).alloc (.cells Z0 111)).cell? ⟨w.heap.size,17,none⟩=some (.slice a n.E.length cap):=by rw[ak.cell];exact av
 obtain⟨ax,qa,zN,oQ,fx,H0⟩:=hh6 aJ ak ae aj af az;clear aJ ak ae aj af aO aa aN az hE hs Mi YR av hB aC aQ hL;go_in;go_wp2_with fail;refine ax.out.mono ?_;rintro e G ⟨x,y,rfl,V,hy,J⟩;obtain⟨a1,c1,aS,-,-,-⟩:=V.open;obtain⟨a2,c2,aW,-,-,-⟩:=hy.open;subst aS aW;have aB:w.heap.size+3<=G.heap.size:=by have :=J.size;simp at this;omega
 obtain⟨aH,qa,zN,oQ,oI,HX,HY⟩:=hh7 aB (qa.out.keep J (by simp)) (zN.out.keep J (by simp)) (oQ.out.keep J (by simp)) (fx.out.trans' J) (V.keep J (by simp)) (hy.keep J (by simp));clear V hy J ax aB aR;go_wp2_with fail;refine kA (S:=λU=>ay [w.heap.size+2] G U) [0,1,2,4] [3,5,6,7,8] (l:=[_,_,_,_]) (tl:=[_,_,_,_,_]) (by kernel_rfl) (by kernel_rfl) (by kernel_rfl) (by kernel_rfl) rfl rfl rfl rfl rfl (λd _ _ _ _ h=>by cases d<;>exact h) (ay.refl _ _).drew ?_;refine cT.cons _ (YieldsIf.load rfl 111 (.tmp 2) rfl _ rfl λU V=>aV.out U (qa.out.keep V (by simp))) ?_;simp only[Act.put,ag];refine cT.cons ?_ (YieldsIf.val rfl ?h) ?_;(case h=>(intro U V;clear V;go_simp;rfl));simp only[Act.put];refine cT.cons _ (YieldsIf.load rfl 87 (.tmp 3) rfl _ rfl λU V=>AE (by rw[(zN.out.keep V (by simp)).cell];rfl) (by rw[(zN.out.keep V (by simp)).cell];rfl)) ?_;simp only[Act.put];refine cT.cons ?_ (YieldsIf.val rfl ?h) ?_;(case h=>(intro U V;clear V;go_simp;rfl));simp only[Act.put];refine cT.done ?_;unfold gH;go_wp2_with fail;refine⟨((ay.refl _ _).drew).alloc _,?_⟩;unfold gH;go_wp2_with fail;refine⟨(((ay.refl _ _).drew).alloc _).alloc _,?_⟩;unfold gH;have kR:ay [] G (((G.alloc (.cells #[.string nm,i] 87)).alloc (.cells #[.slice a1 A.length c1,.slice G.heap.size 1 1,.slice a2 B.length c2] 32)).drew):=(((ay.refl _ _).alloc _).alloc _).drew;have rU:bh (((G.alloc (.cells #[.string nm,i] 87)).alloc (.cells #[.slice a1 A.length c1,.slice G.heap.size 1 1,.slice a2 B.length c2] 32)).drew) G.heap.size #[.string nm,i] 87 :=((bh.new G _ _).alloc _).drew;have tY:bh (((G.alloc (.cells #[.string nm,i] 87)).alloc (.cells #[.slice a1 A.length c1,.slice G.heap.size 1 1,.slice a2 B.length c2] 32)).drew) (G.heap.size+1) ([.slice a1 A.length c1,.slice G.heap.size 1 1,.slice a2 B.length c2]:List Value).toArray 32 :=by
  have :=(bh.new (G.alloc (.cells #[.string nm,i] 87)) #[.slice a1 A.length c1,.slice G.heap.size 1 1,.slice a2 B.length c2] 32).drew;rwa[show(G.alloc (.cells #[.string nm,i] 87)).heap.size=G.heap.size+1 by simp] at this
 have ac:[A,[(nm,i)],B].flatten=L:=by rw[<-HL.out];simp
 have aP:=HX.out.keep kR (by simp);have aA:=HY.out.keep kR (by simp);have aK:=ajh _ nm i _ _ rU;have W:=Ha (Ls:=[A,[(nm,i)],B]) tY rfl (by simp)
  (ag2 (P:=λj=>∃g,bD (((G.alloc (.cells #[.string nm,i] 87)).alloc (.cells #[.slice a1 A.length c1,.slice G.heap.size 1 1,.slice a2 B.length c2] 32)).drew) (([.slice a1 A.length c1,.slice G.heap.size 1 1,.slice a2 B.length c2]:List Value).getD j (.slice none 0 0)) g ([A,[(nm,i)],B].getD j [])) ⟨g,aP⟩ ⟨_,aK⟩ ⟨g,aA⟩)
  (by rw[ac];exact IA.out)
 rw[ac] at W;obtain⟨NK,qR⟩:=hh2 W kR;clear W kR rU tY ac aP aA aK;go_wp2_with fail;refine NK.out.mono ?_;rintro e w6 ⟨u,gu,rfl,hu,aL,jW⟩;obtain⟨a6,c6,aT,-,-,-⟩:=hu.open;subst aT;obtain⟨tX,HU⟩:=hh2 (qR.out.trans' jW) hu;have aD:Hid (G.heap.size<=gu):=cE qR.out.size aL;clear hu aL jW NK qR;obtain⟨HV,YX,Q8⟩:=hh3 (aG.out w6 a6 c6) (YW.out (.slice a6 L.length c6) rfl) (Ex.out (.slice a6 L.length c6));have Sw:Hid (aM (lA n L) (.slice a6 L.length c6)=(na (lA n L) (.slice a6 L.length c6)).toArray):=rfl;have Nf:Hid (∀w',bD w' (.slice a6 L.length c6) gu L->ay [] w w'->vK w n L (.returned (aM (lA n L) (.slice a6 L.length c6))) w'):=λw' h1 h2=>⟨_,gu,rfl,h1,by have :=aD.out;have :=aH.out;omega,h2⟩
 clear YW Ex aG;generalize aM (lA n L) (.slice a6 L.length c6)=Z6,na (lA n L) (.slice a6 L.length c6)=ZL at *;generalize L.length=m at *;go_wp2_with fail;refine⟨tX.out.mono (by simp),?_⟩;unfold gH;go_wp2_with fail;refine Rr HV.out λw7 yl=> ?_;obtain⟨J3,aU⟩:=hh2 (tX.out.trans' yl) (HU.out.keep yl (by simp));obtain⟨w8,q1,q2,q3⟩:=bH (P:= prog) (ty:= 111) (cs:=ZL) (by rw[Q8.out];exact iZ) (oQ.out.keep J3.out (by simp)) (by rw[Q8.out];exact H0.out) YX.out;rw[<-Sw.out] at q1;have HS:=ar q1;have I0:Hid ((loadVar 111 (w.heap.size+2:Nat)).run prog w8= .ok (.agg Z6) w8):=by
  rw[Sw.out];exact b7 _ 0 ZL underlying111 rfl (by rw[Q8.out];exact iZ) λj _=>by rw[q2.cell,bc,aF]
 have Yi:=ar ((J3.out.mono (l':=[w.heap.size+2]) (by simp)).trans' q3);have HF:=ar (Nf.out w8 (aU.out.keep q3 (by have :=aD.out;have :=aH.out;intro _ h;rw[au] at h;omega)) (oI.out.trans Yi.out (by intro z hz;rw[au] at hz;omega)));clear q1 q2 q3 yl HV Nf;go_wp2_with fail;refine⟨J3.out.mono (by simp),?_⟩;unfold gH;refine qh rfl 111 (.tmp 4) (.tmp 22) rfl ⟨w.heap.size+2,0,none⟩ rfl (.agg Z6) rfl w8 HS.out ?_;go_wp2_with fail;refine⟨Yi.out,?_⟩;unfold gH;go_wp2_with fail;exact aI (bA results158 rfl I0.out) rfl HF.out
theorem cu{T:Nat}{h:Array Value}(J:bh w g h T)(U:h.size=18)(z:n.B.length=13)(G:v.oneCell'=true):
  ∃w',(storeVar 111 g (.agg (aM n v))).run prog w= .ok () w'/\bh w' g (aM n v) T/\ay [g] w w':=
 bH (P:= prog) (ty:= 111) (cs:=na n v) (by rw[gM,z];exact iZ) J (by rw[U,gM,z]) (kY G)
theorem bD.one(h:bD w v g E):v.oneCell'=true:=by
 obtain⟨a,cap,rfl,-⟩:=h;rfl
end
end Go.Proofs.YtepbpdipenedhaaGreatDoor
