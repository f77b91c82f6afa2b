/- Lemmas. -/
import Derived.Test.YtcecbdeamjigiaaGreatDoorH17
import Derived.Lib.Bytealg
set_option maxHeartbeats 4000000
set_option maxRecDepth 100000
namespace Go.Proofs.YtcecbdeamjigiaaGreatDoor
open Go.RowKit
variable{T:List (bM×Value)}{d i:Int}{R:List Int}{cap g k:Nat}{a b nm:ByteArray}{n:bM}{A B E M:List (ByteArray×Int)}{w:World}{v:Value}
def mj (T:List (bM×Value)) (a:Int):List Int:=if 0<=a/\a<32 then (nT T a.toNat).E.map (·.2) else []
inductive Reach (T:List (bM×Value)) (d:Int):Int->Prop
 |here:Reach T d d
 |step {a b:Int}:Reach T d a->b∈mj T a->Reach T d b
def aat (T:List (bM×Value)):Prop:=∀i,(nT T i).F=0->(nT T i).E=[]
def Ph (T:List (bM×Value)):Prop:=∀a,∀b∈mj T a,0<=b/\b<32
theorem acE (U:aat T)(W:acD T)(hF:∀i:Nat,i<32->0<=(nT T i).F):Ph T:=λa b h=>by
 unfold mj at h;split at h
 ·next ha=>
  have Z:=hF a.toNat (by omega);by_cases J:(nT T a.toNat).F=0
  ·rw[U _ J] at h;simp at h
  ·obtain⟨k,z,G⟩:=bR h
   rw[bJ] at z;rw[fx] at G;rcases (W a.toNat (by omega) (by omega)).2.2 with ⟨-,y⟩|⟨-,y⟩
   ·have :=y.2.1;omega
   ·have V:=(y.2.2.2 k z).2.1
    have e:gT (nT T a.toNat).E k=b:=by
     rw[<-G];simp[gT,z]
    rw[e] at V;omega
 ·simp at h
theorem Reach.rng(y:Ph T){d x:Int}(h:Reach T d x):x=d\/(0<=x/\x<32):=by
 cases h with
 |here=>exact .inl rfl
 |step _ hb=>exact .inr (y _ _ hb)
theorem Reach.closed{P:Int->Prop}(y:P d)(z:∀a,P a->∀b∈mj T a,P b){x:Int}(h:Reach T d x):P x:=by
 induction h with
 |here=>exact y
 |step _ hb ih=>exact z _ ih _ hb
theorem EK:∀(l m:List Int),l.Nodup->(∀x∈l,x∈m)->l.length<=m.length
 | [],_,_,_=>et _
 |a::l,m,hn,h=>by
  have G:=List.nodup_cons.1 hn;have y:=h a (by simp);have U:=EK l (m.erase a) G.2 λx J=>by
   have z:x≠a:=λe=>G.1 (e▸J)
   exact(List.mem_erase_of_ne z).2 (h x (by simp[J]))
  rw[List.length_erase_of_mem y] at U;have :m.length≠0:=λe=>by rw[bg e] at y;simp at y
  rw[bH];omega
structure nU (T:List (bM×Value)) (d i:Int) (R:List Int) (k:Nat):Prop where
 nodup:R.Nodup
 reach:∀x∈R,Reach T d x
 first:d∈R
 le:k<=R.length
 done:∀j,j<k->∀x,R[j]? =some x->x≠i/\∀b∈mj T x,b∈R
theorem nU.start(T:List (bM×Value))(d i:Int):nU T d i [d] 0:=
 ⟨List.nodup_cons.2 ⟨by simp,List.nodup_nil⟩,λx h=>by rw[au] at h;subst h;exact .here,by simp,et _,λj y=>by omega⟩
theorem nU.len(z:Ph T){d i:Int}{R:List Int}{k:Nat}(h:nU T d i R k):R.length<=33:=by
 have y:=EK R (d::(List.range 32).map λn:Nat=>(n:Int)) h.nodup λx G=>by
  rcases (h.reach x G).rng z with e|⟨y,J⟩
  ·rw[e];simp
  ·refine gJ _ (bB.2 ⟨x.toNat,bS.2 (by omega),by omega⟩)
 rw[bH,bJ,eJ] at y;exact y
theorem nU.found(h:nU T d i R k){x:Int}(y:R[k]? =some x)(e:x=i):Reach T d i:=by
 rw[<-e];exact h.reach x (List.mem_of_getElem? y)
theorem nU.ended(h:nU T d i R k)(U:k=R.length):¬Reach T d i:=λJ=>by
 subst U;have V:∀x,Reach T d x->x∈R:=λx W=>Reach.closed (P:=λx=>x∈R) h.first (λa z b G=>by
  obtain⟨j,y,e⟩:=bR z;exact(h.done j y a (by rw[aD y,e])).2 b G) W
 obtain⟨j,y,e⟩:=bR (V i J);exact(h.done j y i (by rw[aD y,e])).1 rfl
theorem nU.more(h:nU T d i R k){x b:Int}(U:R[k]? =some x)(J:b∈mj T x)(W:b∉R):nU T d i (R++[b]) k/\(R++[b])[k]? =some x:=by
 have hk:k<R.length:=(List.getElem?_eq_some_iff.1 U).1;refine⟨⟨?_,λy G=> ?_,by simp[h.first],by rw[aF];have :=h.le;omega,λj hj y G=> ?_⟩,by rw[aW hk,U]⟩
 ·rw[List.nodup_append]
  refine⟨h.nodup,List.nodup_cons.2 ⟨by simp,List.nodup_nil⟩,λy G z V e=> ?_⟩;rw[au] at V;rw[V] at e;exact W (e▸G)
 ·rcases aP.1 G with G|G
  ·exact h.reach y G
  ·rw[au] at G
   subst G;exact .step (h.reach x (List.mem_of_getElem? U)) J
 ·rw[aW (by omega)] at G
  obtain⟨h1,Z⟩:=h.done j hj y G;exact⟨h1,λb J=>by simp[Z b J]⟩
theorem nU.next(h:nU T d i R k){x:Int}(U:R[k]? =some x)(G:x≠i)(z:∀b∈mj T x,b∈R):nU T d i R (k+1):=by
 have V:k<R.length:=(List.getElem?_eq_some_iff.1 U).1;refine⟨h.nodup,h.reach,h.first,by omega,λj W y J=> ?_⟩;by_cases e:j=k
 ·subst e
  rw[U] at J;cases J;exact⟨G,z⟩
 ·exact h.done j (by omega) y J
def mk (S:List Bool) (x:Int):Bool:=S.getD x.toNat false
end Go.Proofs.YtcecbdeamjigiaaGreatDoor
namespace Go.Proofs.YtcecbdeamjigiaaGreatDoor
open Go.RowKit
variable{T:List (bM×Value)}{d i:Int}{R:List Int}{cap g k:Nat}{a b nm:ByteArray}{n:bM}{A B E M:List (ByteArray×Int)}{w:World}{v:Value}
end Go.Proofs.YtcecbdeamjigiaaGreatDoor
namespace Go.Proofs.YtcecbdeamjigiaaGreatDoor
open Go.RowKit
variable{T:List (bM×Value)}{d i:Int}{R:List Int}{cap g k:Nat}{a b nm:ByteArray}{n:bM}{A B E M:List (ByteArray×Int)}{w:World}{v:Value}
def EM (a b:ByteArray):Prop:=Op.bytesLess a.toList b.toList=true
def rD (a b:ByteArray):Int:=Lib.compareBytes a.data.toList b.data.toList
theorem EN (h:a.toList=b.toList):a=b:=by
 rw[gX,gX] at h;exact ByteArray.ext (Array.toList_inj.1 h)
theorem pJ:∀a b:List UInt8,(Lib.compareBytes a b<0↔Op.bytesLess a b=true)/\(Lib.compareBytes a b=0↔a=b)
 | [],[]=>by simp[Lib.compareBytes,Op.bytesLess]
 | [],_::_=>by simp[Lib.compareBytes,Op.bytesLess]
 |_::_,[]=>by simp[Lib.compareBytes,Op.bytesLess]
 |x::a,y::b=>by
  have U:=pJ a b;unfold Lib.compareBytes;by_cases z:x<y
  ·have h:x≠y:=λe=>by rw[e,fo] at z;omega
   simp[z,h,Op.bytesLess]
  ·by_cases G:y<x
   ·have h:x≠y:=λe=>z (by rw[e] at G;exact absurd G (by rw[fo];omega))
    simp[z,G,h,Op.bytesLess]
   ·have J:x=y:=by
     rw[fo] at z G;exact UInt8.toNat_inj.1 (by omega)
    subst J;simp only[z,if_false,Op.bytesLess,BEq.rfl,Bool.true_and,decide_false,Bool.false_or,List.cons.injEq,true_and];exact U
theorem Tm (a b:ByteArray):rD a b<0↔EM a b:=by
 unfold rD EM;rw[gX,gX];exact(pJ _ _).1
theorem Pj (a b:ByteArray):rD a b=0↔a=b:=by
 unfold rD;rw[(pJ _ _).2];exact⟨λh=>ByteArray.ext (Array.toList_inj.1 h),λh=>by rw[h]⟩
theorem jP (a:ByteArray):¬EM a a:=λh=>by
 unfold EM at h;rw[lH] at h;cases h
theorem qB{c:ByteArray}(h:EM a b)(k:EM b c):EM a c:=lh _ _ _ h k
theorem rE (h:EM a b):a≠b:=λe=>jP b (by rw[e] at h;exact h)
theorem Pk (a b:ByteArray):EM a b\/a=b\/EM b a:=by
 by_cases h:EM a b
 ·exact .inl h
 ·by_cases e:a=b
  ·exact .inr (.inl e)
  ·refine .inr (.inr (oO _ _ ?_ λy=>e (EN y)))
   unfold EM at h;simpa using h
def tI (E:List (ByteArray×Int)):Prop:=E.Pairwise λp q=>EM p.1 q.1
structure gy (E A M B:List (ByteArray×Int)) (nm:ByteArray):Prop where
 eq:E=A++(M++B)
 ahead:∀p∈A,EM p.1 nm
 behind:∀p∈B,EM nm p.1
 one:M=[]\/∃i,M=[(nm,i)]
theorem jF:∀{E:List (ByteArray×Int)},tI E->∀nm,∃A M B,gy E A M B nm
 | [],_,nm=>⟨[],[],[],rfl,by simp,by simp,.inl rfl⟩
 |p::E,h,nm=>by
  have G:=List.pairwise_cons.1 h;obtain⟨A,M,B,z⟩:=jF G.2 nm;rcases Pk p.1 nm with V|J|U
  ·refine⟨p::A,M,B,by rw[z.eq];rfl,?_,z.behind,z.one⟩
   intro q y;rcases aS.1 y with rfl|y
   ·exact V
   ·exact z.ahead q y
  ·refine⟨[],[p],E,rfl,by simp,λq y=> ?_,.inr ⟨p.2,by rw[<-J]⟩⟩
   rw[<-J];exact G.1 q y
  ·refine⟨[],[],p::E,rfl,by simp,λq y=> ?_,.inl rfl⟩
   rcases aS.1 y with rfl|y
   ·exact U
   ·exact qB U (G.1 q y)
theorem EO (h:lM n):tI n.E:=by
 unfold tI;rw[cz];intro i j U z G;have :=B9 (λk y J=>(h.2.2.2 k y).2.2 J) j i G z;have e:∀k (y:k<n.E.length),n.E[k]=(eh n.E k,gT n.E k):=λk y=>by simp[eh,gT,y]
 rw[e i U,e j z];exact this
theorem gy.rises(h:gy E A M B nm)(G:tI E)(M':List (ByteArray×Int))(U:M'=[]\/∃i,M'=[(nm,i)]):tI (A++(M'++B)):=by
 unfold tI at G ⊢;rw[h.eq,List.pairwise_append,List.pairwise_append] at G;rw[List.pairwise_append,List.pairwise_append];obtain⟨W,⟨-,V,-⟩,Z⟩:=G;have J:∀q∈M',q.1=nm:=λq y=>by
  rcases U with rfl|⟨i,rfl⟩
  ·simp at y
  ·rw[au] at y;rw[y]
 refine⟨W,⟨?_,V,λp z q y=>by rw[J p z];exact h.behind q y⟩,λp z q y=> ?_⟩
 ·rcases U with rfl|⟨i,rfl⟩
  ·exact List.Pairwise.nil
  ·exact List.pairwise_singleton _ _
 ·rcases aP.1 y with y|y
  ·rw[J q y];exact h.ahead p z
  ·exact qB (h.ahead p z) (h.behind q y)
theorem gy.at(h:gy E A M B nm)(k:Nat)(W:k<E.length):(EM (eh E k) nm↔k<A.length)/\(eh E k=nm↔k=A.length/\M≠[]):=by
 have hE:E.length=A.length+(M.length+B.length):=by rw[h.eq,aF,aF]
 have hM:M.length<=1:=by rcases h.one with e|⟨i,e⟩<;>rw[e]<;>simp
 have lZ:(eh E k,gT E k)=E[k]:=by simp[eh,gT,W]
 have V:eh E k=E[k].1:=by rw[<-lZ]
 by_cases z:k<A.length
 ·have e:E[k]=A[k]:=by simp only[h.eq];rw[List.getElem_append_left z]
  have y:=h.ahead _ (bp z);rw[<-e,<-V] at y;exact⟨⟨λ_=>z,λ_=>y⟩,⟨λe=>absurd e (rE y),λe=>by omega⟩⟩
 ·by_cases Z:k<A.length+M.length
  ·have ez:k=A.length:=by omega
   have J:M≠[]:=λe=>by rw[e] at Z;simp at Z;omega
   have e:eh E k=nm:=by
    obtain⟨i,e⟩:=h.one.resolve_left J;have :E[k]? =some (nm,i):=by
     rw[h.eq,e,ez,aM (by omega)];simp
    rw[aD W,Option.some_inj] at this;rw[V,this]
   exact⟨⟨λy=>absurd e (rE y),λh=>absurd h z⟩,⟨λ_=>⟨ez,J⟩,λ_=>e⟩⟩
  ·have G:k-A.length-M.length<B.length:=by omega
   have e:E[k]? =some B[k-A.length-M.length]:=by
    rw[h.eq,aM (by omega),aM (by omega),aD G]
   rw[aD W,Option.some_inj] at e;have y:=h.behind _ (bp G);rw[<-e,<-V] at y;refine⟨⟨λU=>absurd (qB U y) (jP _),λU=>absurd U z⟩,⟨λe2=>absurd e2.symm (rE y),λ⟨U,h3⟩=> ?_⟩⟩;have :M.length≠0:=λe=>h3 (bg e)
   omega
def bZ:List (ByteArray×Int)->ByteArray->Int
 | [],_=> -1
 |p::E,nm=>if p.1=nm then p.2 else bZ E nm
theorem yI:∀(A E:List (ByteArray×Int)) (nm:ByteArray),(∀p∈A,p.1≠nm)->bZ (A++E) nm=bZ E nm
 | [],_,_,_=>rfl
 |p::A,E,nm,h=>by
  show(if p.1=nm then p.2 else bZ (A++E) nm)=_;rw[aA (h p (by simp))];exact yI A E nm λq y=>h q (by simp[y])
theorem vO (E:List (ByteArray×Int))(nm:ByteArray)(h:∀p∈E,p.1≠nm):bZ E nm= -1:=by
 have :=yI E [] nm h;rw[bq] at this;exact this
theorem Jb (a b:ByteArray)(w:World):Calls Tryz.prog 216 #[.string a,.string b] w λe w'=>e= .returned (.int .i64 (rD a b))/\w=w':=by
 go_enter Tryz.func216,Tryz.ntmps216;go_wp2;rw[run_callFunc_extern Tryz.func229 (by kernel_rfl) (by kernel_rfl) (by kernel_rfl) (e:=Extern.BytealgCompare.compare) (by kernel_rfl),Lib.run_compareString];simp only[Result.andThen];rw[Oper.upon_value];go_wp2;go_ret;exact⟨rfl,rfl⟩
theorem xq (a b:ByteArray)(w:World):Calls Tryz.prog 204 #[.string a,.string b] w λe w'=>e= .returned (.int .i64 (rD a b))/\w=w':=by
 have h:=λy=>Jb a b y
 generalize rD a b=r at h ⊢;go_enter Tryz.func204,Tryz.ntmps204;go_wp2_with fail;refine(h _).mono ?_;rintro e w' ⟨rfl,rfl⟩;go_wp2_with fail;go_ret;exact⟨rfl,rfl⟩
theorem Jc (a nm:ByteArray)(x:Int)(w:World):Calls Tryz.prog 203 #[.agg #[.string a,.int .i64 x],.string nm] w λe w'=>e= .returned (.int .i64 (rD a nm))/\ay [] w w':=by
 have h:=λy=>xq a nm y
 generalize rD a nm=r at h ⊢;have z:Hid (ay [] w (w.alloc (.cells #[.string a,.int .i64 x] 88))):=(ay.refl [] w).alloc _;go_enter Tryz.func203,Tryz.ntmps203;go_wp2_with fail;refine(h _).mono ?_;rintro e w' ⟨rfl,rfl⟩;go_wp2_with fail;go_ret;exact⟨rfl,z.out⟩
def jn (w:World) (A M:List (ByteArray×Int)) (e:Ending) (w':World):Prop:=e= .returned (.tuple #[.int .i64 (A.length:Int),.bool (!M.isEmpty)])/\ay [] w w'
theorem Pl (hE:bz w v g E)(hs:gy E A M B nm)(WH:E.length<=1000):
  Calls Tryz.prog 202 #[v,.string nm,.func (.func 203) #[] #[]] w (jn w A M):=by
 have EP:Hid (∀w',ay [] w w'->jn w A M (.returned (.tuple #[.int .i64 (A.length:Int),.bool (!M.isEmpty)])) w'):=λw' h=>⟨rfl,h⟩
 have aa:=ar (hs.at);have af:A.length<=E.length:=by rw[hs.eq,aF];omega
 obtain⟨a,cap,rfl,nz,nB,uv⟩:=hE.open;have SC:Hid (∀(x:ByteArray) (y:Int) (wx:World),Calls Tryz.prog 203 #[.agg #[.string x,.int .i64 y],.string nm] wx λe w'=>e= .returned (.int .i64 (rD x nm))/\ay [] wx w'):=λx y wx=>Jc x nm y wx
 have QS:Hid (∀k,k<E.length->(rD (eh E k) nm<0↔k<A.length)/\(rD (eh E k) nm=0↔k=A.length/\M≠[])):=λk hk=>⟨(Tm _ _).trans (aa.out k hk).1,(Pj _ _).trans (aa.out k hk).2⟩
 have W:Hid (M≠[]->A.length<E.length):=λh=>by
  have :M.length≠0:=λe=>h (bg e)
  have e:=ck List.length hs.eq;rw[aF,aF] at e;omega
 unfold maxLen at nB;have WI:Hid ((M.isEmpty=true/\M=[])\/(M.isEmpty=false/\M≠[])):=by
  show _\/_;cases M with
  |nil=>exact .inl ⟨rfl,rfl⟩
  |cons a b=>exact .inr ⟨rfl,by simp⟩
 clear hs hE aa;generalize hm:E.length=m at *;generalize hk:A.length=k at *;clear hm hk;go_enter Tryz.func202,Tryz.ntmps202;go_wp2_with fail;go_loopg [9,10] m (λgh s9 Va wx=>∃G z:Nat,s9= .int .i64 (G:Int)/\Va= .int .i64 (z:Int)/\G<=k/\k<=z/\z<=m/\z-G<=gh/\Hid (ay [] w wx))
 case atStart=>exact⟨0,m,rfl,rfl,et _,af,aG _,by omega,ay.refl _ _⟩
 case round=>
  obtain⟨G,z,rfl,rfl,h1,h2,h3,h4,V⟩:=hrel;by_cases ag:G<z
  ·have ae:(G+z)/2<m:=by omega
   obtain⟨ue,off,rfl,d1,d2⟩:=uv.out _ ae;have c0:wr.cell? ⟨g,off+(G+z)/2*2,none⟩=some (.string (eh E ((G+z)/2))):=(aL (w:=w) (a:=⟨g,off+(G+z)/2*2,none⟩) (V.out.block g ue (by simp))).trans d1;have c1:wr.cell? ⟨g,off+(G+z)/2*2+1,none⟩=some (.int .i64 (gT E ((G+z)/2))):=(aL (w:=w) (a:=⟨g,off+(G+z)/2*2+1,none⟩) (V.out.block g ue (by simp))).trans d2;have U:=QS.out _ ae;have HC:=ar (SC.out (eh E ((G+z)/2)) (gT E ((G+z)/2)));clear d1 d2;by_cases ac:(G+z)/2<k
   ·have FM:=U.1.2 ac
    clear U;generalize rD (eh E ((G+z)/2)) nm=cv at *;generalize eh E ((G+z)/2)=nk at *;generalize gT E ((G+z)/2)=ik at *;go_wp2_with fail;refine(HC.out _).mono ?_;rintro e w2 ⟨rfl,J⟩;have fj:=ar (V.out.trans' J);clear J;go_wp2_with fail;go_roundg (z-((G+z)/2+1));case measure=>omega
    case rel=>exact⟨(G+z)/2+1,z,by rw[show((G:Int)+(z:Int))/2+1=(((G+z)/2+1:Nat):Int) by omega],rfl,by omega,h2,h3,aG _,fj.out⟩
   ·have FM:¬rD (eh E ((G+z)/2)) nm<0:=λh=>ac (U.1.1 h)
    clear U;generalize rD (eh E ((G+z)/2)) nm=cv at *;generalize eh E ((G+z)/2)=nk at *;generalize gT E ((G+z)/2)=ik at *;go_wp2_with fail;refine(HC.out _).mono ?_;rintro e w2 ⟨rfl,J⟩;have fj:=ar (V.out.trans' J);clear J;go_wp2_with fail;go_roundg ((G+z)/2-G);case measure=>omega
    case rel=>exact⟨G,(G+z)/2,rfl,by rw[show((G:Int)+(z:Int))/2=(((G+z)/2:Nat):Int) by omega],h1,by omega,by omega,aG _,fj.out⟩
  ·obtain rfl:G=k:=by omega
   obtain rfl:z=G:=by omega
   rcases dr z m with Yd|Yd
   ·obtain⟨ue,off,rfl,d1,d2⟩:=uv.out _ Yd
    have c0:wr.cell? ⟨g,off+z*2,none⟩=some (.string (eh E z)):=(aL (w:=w) (a:=⟨g,off+z*2,none⟩) (V.out.block g ue (by simp))).trans d1;have c1:wr.cell? ⟨g,off+z*2+1,none⟩=some (.int .i64 (gT E z)):=(aL (w:=w) (a:=⟨g,off+z*2+1,none⟩) (V.out.block g ue (by simp))).trans d2;have U:=QS.out _ Yd;have HC:=ar (SC.out (eh E z) (gT E z));clear d1 d2;rcases WI.out with ⟨Z,e2⟩|⟨Z,e2⟩
    ·have hz:(rD (eh E z) nm==0)=false:=by
      rw[cg];exact λh=>(U.2.1 h).2 e2
     have nZ:Hid (∀w',ay [] w w'->jn w A M (.returned (.tuple #[.int .i64 (z:Int),.bool false])) w'):=λw' h=>by have :=EP.out w' h;rwa[Z] at this
     clear U WI Z e2 QS SC EP W uv;generalize rD (eh E z) nm=cv at *;generalize eh E z=nk at *;generalize gT E z=ik at *;go_wp2_with fail;refine(HC.out _).mono ?_;rintro e w2 ⟨rfl,J⟩;have fj:=ar (V.out.trans' J);clear J;go_wp2_with fail;go_ret2;exact nZ.out _ fj.out
    ·have hz:(rD (eh E z) nm==0)=true:=by
      rw[beq_iff_eq];exact U.2.2 ⟨rfl,e2⟩
     have nZ:Hid (∀w',ay [] w w'->jn w A M (.returned (.tuple #[.int .i64 (z:Int),.bool true])) w'):=λw' h=>by have :=EP.out w' h;rwa[Z] at this
     clear U WI Z e2 QS SC EP W uv;generalize rD (eh E z) nm=cv at *;generalize eh E z=nk at *;generalize gT E z=ik at *;go_wp2_with fail;refine(HC.out _).mono ?_;rintro e w2 ⟨rfl,J⟩;have fj:=ar (V.out.trans' J);clear J;go_wp2_with fail;go_ret2;exact nZ.out _ fj.out
   ·have nZ:Hid (∀w',ay [] w w'->jn w A M (.returned (.tuple #[.int .i64 (z:Int),.bool false])) w'):=λw' h=>by
     have :=EP.out w' h;rcases WI.out with ⟨Z,e2⟩|⟨Z,e2⟩
     ·rwa[Z] at this
     ·have :=W.out e2;omega
    have ah:¬(z:Int)<(m:Int):=by omega
    clear WI QS SC EP W uv;go_wp2_with fail;go_ret2;exact nZ.out _ V.out
theorem ER (U:bz w v g E)(z:gy E A M B nm)(J:E.length<=1000):
  Calls Tryz.prog 180 #[v,.string nm] w (jn w A M):=by
 have y:=Pl U z J;unfold jn at y;have W:=ar y;have Z:Hid (∀w',ay [] w w'->jn w A M (.returned (.tuple #[.int .i64 (A.length:Int),.bool (!M.isEmpty)])) w'):=λw' h=>⟨rfl,h⟩
 clear U z J y;generalize (A.length:Int)=k at *;generalize (!M.isEmpty)=b at *;go_enter Tryz.func180,Tryz.ntmps180;go_wp2_with fail;refine W.out.mono ?_;rintro e w' ⟨rfl,G⟩;have V:=ar G;clear G;go_wp2_with fail;go_ret2;exact Z.out _ V.out
def Jd:List (ByteArray×Int)->Int
 | []=>0
 |p::_=>p.2
def xr (w:World) (M:List (ByteArray×Int)) (e:Ending) (w':World):Prop:=e= .returned (.tuple #[.int .i64 (Jd M),.bool (!M.isEmpty)])/\ay [] w w'
theorem gy.mid(h:gy E A M B nm)(y:M≠[]):A.length<E.length/\gT E A.length=Jd M:=by
 obtain⟨i,rfl⟩:=h.one.resolve_left y;have z:A.length<E.length:=by rw[h.eq,aF,aF];simp;omega
 refine⟨z,?_⟩;rw[gT,h.eq,aj,aM (aG _)];simp[Jd]
theorem M6 (n:bM){v:Value}{g:Nat}{A M B:List (ByteArray×Int)}{nm:ByteArray}(hB:n.B.length=13)(hE:bz w v g n.E)(hs:gy n.E A M B nm)(WH:n.E.length<=1000):
  Calls Tryz.prog 153 #[.agg (aU n v),.string nm] w (xr w M):=by
 have ez:ay [] w (w.alloc (.cells (aU n v) 110)):=(ay.refl [] w).alloc _;have UL:=ER (hE.keep ez (by simp)) hs WH;unfold jn at UL;have G:=ar hs.mid;have WI:Hid ((M.isEmpty=true/\M=[])\/(M.isEmpty=false/\M≠[])):=by
  show _\/_;cases M with
  |nil=>exact .inl ⟨rfl,rfl⟩
  |cons a b=>exact .inr ⟨rfl,by simp⟩
 have HP:Hid (∀w',ay [] w w'->xr w M (.returned (.tuple #[.int .i64 (Jd M),.bool (!M.isEmpty)])) w'):=λw' h=>⟨rfl,h⟩
 obtain⟨a,cap,rfl,nz,nB,uv⟩:=hE.open;have V:=jo (.slice a n.E.length cap) hB;have U:=bm.new w (aU n (.slice a n.E.length cap)) 110;generalize aU n (.slice a n.E.length cap)=Z at *;have YQ:Z[17]? =some (.slice a n.E.length cap):=V.f5;have ac:(w.alloc (.cells Z 110)).cell? ⟨w.heap.size,17,none⟩=some (.slice a n.E.length cap):=by rw[U.cell];exact YQ
 have Kc:=ar UL;have nu:=ar U;have fS:=ar ez;have aa:=ar YQ;unfold maxLen at nB;clear V U ez UL YQ hB hE hs;generalize hm:n.E.length=m at *;generalize xJ:A.length=k at *;clear hm xJ;go_enter Tryz.func153,Tryz.ntmps153;go_wp2_with fail;refine Kc.out.mono ?_;rintro e w2 ⟨rfl,y⟩;have fj:=ar y;have ae:w2.cell? ⟨w.heap.size,17,none⟩=some (.slice a m cap):=by rw[(nu.out.keep y (by simp)).cell];exact aa.out
 have rv:=ar (fS.out.trans' y);clear y ac;rcases WI.out with ⟨J,W⟩|⟨J,W⟩
 ·have nZ:Hid (∀w',ay [] w w'->xr w M (.returned (.tuple #[.int .i64 0,.bool false])) w'):=λw' h=>by
   have :=HP.out w' h;rw[J,show Jd M=0 by rw[W];rfl] at this;exact this
  rw[J];clear J W WI HP G uv;go_wp2_with fail;go_ret2;exact nZ.out _ rv.out
 ·obtain⟨GN,z⟩:=G.out W
  have nZ:Hid (∀w',ay [] w w'->xr w M (.returned (.tuple #[.int .i64 (Jd M),.bool true])) w'):=λw' h=>by
   have :=HP.out w' h;rw[J] at this;exact this
  obtain⟨ue,off,rfl,-,d1⟩:=uv.out k GN;rw[z] at d1;have c1:w2.cell? ⟨g,off+k*2+1,none⟩=some (.int .i64 (Jd M)):=(aL (w:=w) (a:=⟨g,off+k*2+1,none⟩) (rv.out.block g ue (by simp))).trans d1;rw[J];have ye:(k:Int)<(m:Int):=by omega
  clear J W WI HP G uv d1 z;generalize Jd M=im at *;go_wp2_with fail;go_ret2;exact nZ.out _ rv.out
theorem Je{a:Option Addr}{n:Nat}(h:bz w (.slice a n cap) g E)(k:Nat)(hk:k<=E.length):
  ∃G U,(∀y,(Instr.sliceAt 32 (.slice a n cap) none (some (.int .i64 (k:Int))) none).run Tryz.prog y= .ok (.slice G k U) y)/\bz w (.slice G k U) g (E.take k):=by
 have J: Tryz.prog.underlying 32 =some (.slice (Tryz.prog.elem 32)):=by kernel_rfl
 have he: Tryz.prog.elem 32 = 88 :=by kernel_rfl
 have hs:∀y:World,(sizeOf 88).run Tryz.prog y= .ok 2 y:=λy=>by kernel_rfl
 obtain⟨a0,aa,hv,h1,h2,h3⟩:=h;cases hv;have z:(E.take k).length=k:=by rw[aI];omega
 refine⟨if cap=0 then a else a.map (·.add (0*2)),cap-0,λy=> ?_,_,_,by rw[z],by omega,by omega,λh0=> ?_⟩
 ·rw[run_sliceAt_slice _ _ _ _ _ _ J,run_slice_h _ _ _ _ _ J .i64 (k:Int) (by omega) (by omega),he,hs]
  simp only[b9,sliced,aH,Nat.sub_zero]
 ·rw[z] at h0
  obtain⟨hg,off,rfl,hc⟩:=h3 (by omega);refine⟨hg,off,by rw[aA (by omega)];simp[add_plain],λj V=> ?_⟩;rw[z] at V;obtain⟨Z,W⟩:=hc j (by omega);have e:(E.take k).getD j (ByteArray.empty,0)=E.getD j (ByteArray.empty,0):=by simp[V]
  rw[eh,gT,e];exact⟨Z,W⟩
theorem Gj{a:Option Addr}{n:Nat}(h:bz w (.slice a n cap) g E)(k:Nat)(hk:k<=E.length):
  ∃G U,(∀y,(Instr.sliceAt 32 (.slice a n cap) (some (.int .i64 (k:Int))) none none).run Tryz.prog y= .ok (.slice G (n-k) U) y)/\bz w (.slice G (n-k) U) g (E.drop k):=by
 have J: Tryz.prog.underlying 32 =some (.slice (Tryz.prog.elem 32)):=by kernel_rfl
 have he: Tryz.prog.elem 32 = 88 :=by kernel_rfl
 have Z:∀y:World,(sizeOf 88).run Tryz.prog y= .ok 2 y:=λy=>by kernel_rfl
 obtain⟨a0,aa,hv,h1,h2,h3⟩:=h;cases hv;have z:(E.drop k).length=E.length-k:=by rw[bu]
 refine⟨if cap=k then a else a.map (·.add (k*2)),cap-k,λy=> ?_,_,_,by rw[z],by omega,by omega,λh0=> ?_⟩
 ·rw[run_sliceAt_slice _ _ _ _ _ _ J,run_slice_l _ _ _ _ _ J .i64 (k:Int) (by omega) (by omega),he,Z]
  simp only[b9,sliced,aH]
 ·rw[z] at h0
  obtain⟨hg,off,rfl,hc⟩:=h3 (by omega);refine⟨hg,off+k*2,by rw[aA (by omega)];simp[add_plain],λj hj=> ?_⟩;rw[z] at hj;obtain⟨W,V⟩:=hc (k+j) (by omega);have e:(E.drop k).getD j (ByteArray.empty,0)=E.getD (k+j) (ByteArray.empty,0):=by simp
  rw[show off+k*2+j*2=off+(k+j)*2 by omega,eh,gT,e];exact⟨W,V⟩
def Cv (w:World) (g:Nat) (A B:List (ByteArray×Int)) (e:Ending) (w':World):Prop:=
 ∃x y,e= .returned (.tuple #[x,y])/\bz w x g A/\bz w y g B/\ay [] w w'
theorem gy.takes(h:gy E A M B nm):E.take A.length=A/\E.drop (A.length+M.length)=B/\E.length=A.length+M.length+B.length/\(M.isEmpty=true->M.length=0)/\(M.isEmpty=false->M.length=1):=by
 refine⟨by rw[h.eq,List.take_left],by rw[h.eq,<-bf,<-aF,List.drop_left],by rw[h.eq,aF,aF];omega,λe=>by rw[List.isEmpty_iff.1 e];rfl,λe=> ?_⟩;rcases h.one with rfl|⟨i,rfl⟩
 ·cases e
 ·rfl
theorem Pm (W:bz w v g E)(hs:gy E A M B nm)(WH:E.length<=1000):
  Calls Tryz.prog 182 #[v,.string nm] w (Cv w g A B):=by
 have UL:=ER W hs WH;unfold jn at UL;obtain⟨t1,t2,t3,t4,t5⟩:=hs.takes;obtain⟨a,cap,hv,-,-,-⟩:=W.open;subst hv;obtain⟨a1,c1,G,V⟩:=Je W A.length (by omega);obtain⟨a2,c2,z,YP⟩:=Gj W (A.length+M.length) (by omega);rw[t1] at V;rw[t2] at YP;have HP:Hid (∀w',ay [] w w'->Cv w g A B (.returned (.tuple #[.slice a1 A.length c1,.slice a2 (E.length-(A.length+M.length)) c2])) w'):=λw' h=>⟨_,_,rfl,V,YP,h⟩
 have Z:=ar UL;have T4:=ar t4;have T5:=ar t5;have T3:=ar t3;have Uu:=ar G;have Uv:=ar z;clear UL V YP W hs t1 t2 t4 t5 G z;generalize hm:E.length=m at *;generalize hk:A.length=k at *;generalize IJ:M.length=q at *;clear hm hk IJ;have GN:k+q<=m:=by have :=T3.out;omega
 clear t3;cases hME:M.isEmpty
 ·obtain rfl:=T5.out hME
  rw[hME] at Z;have G:=Uu.out;have z:=Uv.out;rw[show((k+1:Nat):Int)=(k:Int)+1 by omega] at z;clear T4 T5 hME;have aa:IntKind.i64.wrap ((k:Int)+1)=(k:Int)+1:=dY _ (by omega);go_enter Tryz.func182,Tryz.ntmps182;go_wp2_with fail;refine Z.out.mono ?_;rintro e w2 ⟨rfl,U⟩;have fj:=ar U;clear U;go_wp2_with fail;refine dv (S:=λJ=>ay [] w J) (by kernel_rfl) (by kernel_rfl) (λd _ _ _ _ h=>by cases d<;>exact h) (fj.out.drew) (by kernel_rfl) ?_;repeat (first
   |(refine aJ.cons (.slice a1 k c1) (ba.val rfl ?h) ?_;(case h=>(intro J y;clear y;go_simp;(try rw[G]);done));simp only[Act.put,ag,ah,ai])
   |(refine aJ.cons (.slice a2 (m-(k+1)) c2) (ba.val rfl ?h) ?_;(case h=>(intro J y;clear y;go_simp;(try rw[z]);done));simp only[Act.put,ag,ah,ai])
   |(refine aJ.cons ?_ (ba.val rfl ?h) ?_;(case h=>(intro J y;clear y;go_simp;rfl));simp only[Act.put,ag,ah,ai]))
  refine aJ.done λJ y=> ?_
  have nR:=ar y;clear y;go_wp2_with fail;go_ret2;exact HP.out _ nR.out
 ·obtain rfl:=T4.out hME
  rw[hME] at Z;have G:=Uu.out;have z:=Uv.out;rw[dH] at z;clear T4 T5 hME;go_enter Tryz.func182,Tryz.ntmps182;go_wp2_with fail;refine Z.out.mono ?_;rintro e w2 ⟨rfl,U⟩;have fj:=ar U;clear U;go_wp2_with fail;refine dv (S:=λJ=>ay [] w J) (by kernel_rfl) (by kernel_rfl) (λd _ _ _ _ h=>by cases d<;>exact h) (fj.out.drew) (by kernel_rfl) ?_;repeat (first
   |(refine aJ.cons (.slice a1 k c1) (ba.val rfl ?h) ?_;(case h=>(intro J y;clear y;go_simp;(try rw[G]);done));simp only[Act.put,ag,ah,ai])
   |(refine aJ.cons (.slice a2 (m-k) c2) (ba.val rfl ?h) ?_;(case h=>(intro J y;clear y;go_simp;(try rw[z]);done));simp only[Act.put,ag,ah,ai])
   |(refine aJ.cons ?_ (ba.val rfl ?h) ?_;(case h=>(intro J y;clear y;go_simp;rfl));simp only[Act.put,ag,ah,ai]))
  refine aJ.done λJ y=> ?_
  have nR:=ar y;clear y;go_wp2_with fail;go_ret2;exact HP.out _ nR.out
theorem vP{P:Program}(w:World)(t U e:TypeId)(i:TypeInfo)(z:Value)(Z kn:IntKind)(size:Nat)(ht:P.underlying t=some (.slice e))(J:P.underlying U=some (.int kn))(hi:P.info? e=some i)(hz:i.zero=some z)(aa:i.size=size)(oU:0<size)(Wh:z.cells.size=size)
  (k:Nat) (h0:0<k) (hk:k<=1000) (y:i.bytes<=64):
  ∃c w',(∀ty,(Builtin.append_ #[t,U] ty #[.slice none 0 0,.int Z k]).run P w= .ok (.slice (some ⟨w.heap.size,0,none⟩) k c) w')/\k<=c/\w'.ownsRow w.heap.size e size (.slice (some ⟨w.heap.size,0,none⟩) 0 c) 0 []/\ay [] w w':=by
 have MI:(Builtin.firstCells i.size 0 (.slice none 0 0)).run P w.drew= .ok ([]:List Value).toArray w.drew:=by simp[Builtin.firstCells]
 have V:Builtin.nextslicecap (0+k) 0<=4*1000+64:=by
  unfold Builtin.nextslicecap;split<;>omega
 have h1:k*i.bytes<=281474976710656:=cu (Nat.mul_le_mul hk y) (by omega);have h2:Builtin.nextslicecap (0+k) 0*i.bytes<=281474976710656:=cu (Nat.mul_le_mul V y) (by omega);have h:=λty=>Lib.run_append_grow_zeros w t U ty e i z Z kn ht J hi hz none 0 0 [] MI k h0 (by omega) (by omega) (by omega) h1 h2
 have W:=grownCap_ge w (0+k) 0 e;have G:=grownCap_le_maxLen w (0+k) 0 e (by unfold maxLen;omega);rw[aX] at W G;simp only[aX] at h;refine⟨_,_,h,W,⟨by simp,.inr ⟨w.heap.size,grownCap w k 0 e,_,rfl,aG _,bm.new w.drew _ _,et _,G,?_,by simp⟩⟩,((ay.refl [] w).drew).alloc _⟩;simp[kZ,Wh];rw[<-Nat.add_mul]
 congr 1
 omega
theorem Tryz.info_ent9:(Tryz.prog.info? 88).map (λi=>(i.zero,i.size,i.bytes))=some (some (.agg #[.string ⟨#[]⟩,.int .i64 0]),2,24):=by kernel_rfl
theorem Tn (k:Nat)(V:k<=1000)(y:Int)(U:y=(k:Int))(w:World):Calls Tryz.prog 205 #[.slice none 0 0,.int .i64 y] w λe w'=>
  ∃v,e= .returned v/\w'.ownsRow w.heap.size 88 2 v 0 []/\ay [] w w':=by
 rcases eC k with rfl|h0
 ·obtain rfl:y=0:=by omega
  clear U V;go_enter Tryz.func205,Tryz.ntmps205;go_wp2_with fail;go_ret;exact⟨_,rfl,⟨rfl,.inl ⟨rfl,rfl⟩⟩,ay.refl _ _⟩
 ·obtain⟨i0,Z,J,G,z⟩:=cJ Tryz.info_ent9
  obtain⟨c,w',hr,hc,h,W⟩:=vP (P:= Tryz.prog) w 32 3 88 i0 _ .i64 .i64 2 Tryz.underlying32 Tryz.underlying3 Z J G (by omega) rfl k h0 V (by rw[z];omega);have h1:¬y<0:=by omega
  have h2:0<y:=by omega
  have h3:wrap64 y=y:=by unfold wrap64;omega
  simp only[<-U] at hr;have HO:=ar h;have HK:=ar W;have aa:c≠0:=by omega
  have ac:(0:Int)<=(c:Int):=by omega
  clear h W U Z J G z hc;go_enter Tryz.func205,Tryz.ntmps205;go_wp2_with(at_builtin;refine wpList_append_run rfl (.tmp 20) (.tmp 21) 32 3 ?_ (.slice none 0 0) (.int .i64 y) ?_ ?_ (hr _) ?_;all_goals first|rfl|skip);go_ret;exact⟨_,rfl,HO.out,HK.out⟩
theorem Gk{a:Option Addr}{m c:Nat}(h:bz w (.slice a m c) g E)(hm:m≠0):∃z,a=some z/\∀j u,(dK E)[j]? =some u->w.cell? (z.add j)=some u:=by
 obtain⟨a',c',V,h2,h3,Z⟩:=h;cases V;obtain⟨-,off,rfl,W⟩:=Z hm;refine⟨_,rfl,λj u y=> ?_⟩;have hj:j<(dK E).length:=(List.getElem?_eq_some_iff.1 y).1;rw[iE] at hj;obtain⟨d0,G⟩:=W (j/2) (by omega);obtain⟨J,U⟩:=mo E (j/2) (by omega);rw[add_plain];rcases Nat.mod_two_eq_zero_or_one j with h|h
 ·rw[show off+j=off+j/2*2 by omega,d0,<-J,show j/2*2=j by omega,y]
 ·rw[show off+j=off+j/2*2+1 by omega,G,<-U,show j/2*2+1=j by omega,y]
def mf (Ls:List (List (ByteArray×Int))) (j:Nat):Nat:=(Ls.take j).flatten.length
theorem ES (Ls:List (List (ByteArray×Int)))(j:Nat)(h:j<Ls.length):(Ls.take (j+1)).flatten=(Ls.take j).flatten++Ls.getD j []:=by
 rw[bt h,List.flatten_append];simp[h]
theorem LC (Ls:List (List (ByteArray×Int)))(j:Nat)(h:j<Ls.length):mf Ls (j+1)=mf Ls j+(Ls.getD j []).length:=by
 unfold mf;rw[ES Ls j h,aF]
theorem Tp (Ls:List (List (ByteArray×Int)))(j:Nat):mf Ls j<=Ls.flatten.length:=by
 unfold mf;have :=ck List.flatten (dM j Ls);rw[List.flatten_append] at this;rw[<-this,aF];omega
theorem Pn (Ls:List (List (ByteArray×Int))):mf Ls Ls.length=Ls.flatten.length:=by
 unfold mf;rw[fz]
def ET (w:World) (E:List (ByteArray×Int)) (e:Ending) (w':World):Prop:=∃v g,e= .returned v/\bz w' v g E/\w.heap.size<=g/\ay [] w w'
theorem LD{gs T:Nat}{xs:List Value}{Ls:List (List (ByteArray×Int))}(hb:bm w gs xs.toArray T)(hl:xs.length=Ls.length)(hm:xs.length<=10)
  (hr:∀j,j<xs.length->∃g,bz w (xs.getD j (.slice none 0 0)) g (Ls.getD j [])) (hn:Ls.flatten.length<=1000):
  Calls Tryz.prog 184 #[.slice (some ⟨gs,0,none⟩) xs.length xs.length] w (ET w Ls.flatten):=by
 obtain⟨i0,hi,ai,ag,af⟩:=cJ Tryz.info_ent9;have HR:Hid (∀j,j<xs.length->∃a c g,xs.getD j (.slice none 0 0)= .slice a (Ls.getD j []).length c/\bz w (.slice a (Ls.getD j []).length c) g (Ls.getD j [])/\(Ls.getD j []).length<=c/\∀G,ay [] w G->G.cell? ⟨gs,j,none⟩=some (.slice a (Ls.getD j []).length c)):=λj hj=>by
  obtain⟨g,Z⟩:=hr j hj;obtain⟨a,c,hv,h1,h2,-⟩:=Z.open;refine⟨a,c,g,hv,by rw[hv] at Z;exact Z,h1,λG hk=> ?_⟩;rw[(hb.keep hk (by simp)).cell,aC,<-hv,aj,aD hj];rfl
 have Xz:Hid (∀j,j<xs.length->mf Ls (j+1)=mf Ls j+(Ls.getD j []).length/\(Ls.take (j+1)).flatten=(Ls.take j).flatten++Ls.getD j []):=λj hj=>⟨LC Ls j (by omega),ES Ls j (by omega)⟩
 have QC:Hid (∀j,mf Ls j<=1000):=λj=>cu (Tp Ls j) hn
 have VT:Hid (mf Ls xs.length=Ls.flatten.length/\(Ls.take xs.length).flatten=Ls.flatten):=by
  show _/\_;rw[hl];exact⟨Pn Ls,by rw[fz]⟩
 clear hr hb hl hn;generalize ah:xs.length=m at *;clear ah;have ae:=λ(k:Nat) (hk:k<=1000) (ki:Int) (ye:ki=(k:Int)) G=>Tn k hk ki ye G
 have HG:=ar ae;clear ae;go_enter Tryz.func184,Tryz.ntmps184;go_wp2_with fail;go_loopg [3,11] m (λgh s3 NY G=>∃j:Nat,j+gh=m/\NY= .int .i64 (j:Int)/\s3= .int .i64 ((mf Ls j:Nat):Int)/\w=G)
 case atStart=>exact⟨0,by omega,rfl,rfl,rfl⟩
 case round=>
  obtain⟨j,hj,rfl,rfl,rfl⟩:=hrel;cases gk with
  |succ gg=>
   have LF:j<m:=by omega
   have KG:(j:Int)<(m:Int):=by omega
   have zi:(0:Int)<=(j:Int):=by omega
   obtain⟨a,c,g,-,-,U,z⟩:=HR.out j LF;have c0:=z w (ay.refl _ _);obtain⟨y,-⟩:=Xz.out j LF;have V:=QC.out (j+1);have HQ:Hid (((mf Ls (j+1):Nat):Int)=((mf Ls j:Nat):Int)+(((Ls.getD j []).length:Nat):Int)):=by show _=_;omega
   rw[y] at V;clear y z U;generalize mf Ls j=q at *;generalize (Ls.getD j []).length=l at *;have Vp:¬(q:Int)+(l:Int)<0:=by omega
   go_wp2_with fail;go_roundg gg;case measure=>omega
   case rel=>exact⟨j+1,by omega,by go_num,by rw[HQ.out],rfl⟩
  |zero=>
   obtain rfl:j=m:=by omega
   have V:=QC.out j;have aa:=HG.out (mf Ls j) V _ rfl w;clear HG;go_wp2_with fail;refine aa.mono ?_;rintro e w1 ⟨v0,rfl,h,dc⟩;have HO:=ar h;have HK:=ar dc;clear h dc aa;go_wp2_with fail;go_loopg [6,27] j (λgh s6 s27 G=>∃i:Nat,i+gh=j/\s27= .int .i64 (i:Int)/\Hid (G.ownsRow w.heap.size 88 2 s6 (mf Ls i) (dK (Ls.take i).flatten)/\ay [] w G))
   case atStart=>exact⟨0,by omega,rfl,HO.out,HK.out⟩
   case round=>
    clear HO HK;obtain⟨i,OT,rfl,HP⟩:=hrel;obtain⟨h,J⟩:=HP.out;cases gk with
    |zero=>
     obtain rfl:i=j:=by omega
     have HM:Hid (ET w Ls.flatten (.returned u6) wr):=by
      obtain⟨g,W,hg⟩:=eE.of_row h;rw[VT.out.1,VT.out.2] at W;by_cases h0:Ls.flatten.length=0
      ·exact⟨u6,w.heap.size,rfl,(W.anyG h0 w.heap.size).ereads rfl,aG _,J⟩
      ·exact⟨u6,g,rfl,W.ereads rfl,(hg (by rw[VT.out.1];exact h0)).1,J⟩
     clear h J HP;go_wp2_with fail;go_ret;exact HM.out
    |succ gg=>
     have ac:i<j:=by omega
     have ap:(i:Int)<(j:Int):=by omega
     have ak:(0:Int)<=(i:Int):=by omega
     obtain⟨a,c,g,-,Z,U,z⟩:=HR.out i ac;have e0:=z _ J;obtain⟨y,xS⟩:=Xz.out i ac;have U9:=QC.out (i+1);rw[y] at U9;obtain⟨v',w',hr,W,hg⟩:=jE (P:= Tryz.prog) 32 88 32 i0 _ 2 24 Tryz.underlying32 hi ai ag af rfl (by omega) w.heap.size (mf Ls i) _ _ h a (Ls.getD i []).length c (dK (Ls.getD i [])) (iE _) (Gk (Z.keep J (by simp))) (ra _) (by unfold maxLen;omega) (by omega) J.size;have HN:Hid (w'.ownsRow w.heap.size 88 2 v' (mf Ls (i+1)) (dK (Ls.take (i+1)).flatten)/\ay [] w w'):=by
      refine⟨?_,J.grown hg (cE h)⟩;rw[y,xS,kU];exact W
     clear h J HP W hg z y xS Z U;generalize (Ls.getD i []).length=l at *;go_wp2_with(at_builtin;refine wpList_append_run rfl (.tmp 31) (.tmp 32) 32 32 ?_ u6 (.slice a l c) ?_ ?_ hr ?_;all_goals first|rfl|skip);go_roundg gg;case measure=>omega
     case rel=>exact⟨i+1,by omega,by go_num,HN.out⟩
def kg (n:bM) (E:List (ByteArray×Int)):bM:={ n with S:=(E.length:Int),E:=E }
theorem LG (n:bM)(v u:Value)(E:List (ByteArray×Int))(h:n.B.length=13)(m:Int)(y:m=(E.length:Int)):((aU n v).setIfInBounds 17 u).setIfInBounds 3 (.int .i64 m)=aU (kg n E) u:=by
 subst y;have G:aU n v=(([.int .i64 n.F,.int .i64 n.K,.int .i64 n.L,.int .i64 n.S]:List Value)++(zs n.B++[v])).toArray:=rfl;have z:(([.int .i64 n.F,.int .i64 n.K,.int .i64 n.L,.int .i64 n.S]:List Value)++(zs n.B++[v])).set 17 u=([.int .i64 n.F,.int .i64 n.K,.int .i64 n.L,.int .i64 n.S]:List Value)++(zs n.B++[u]):=by
  rw[cZ _ _ (by simp),cZ _ _ (by rw[dJ,h];simp),dJ,h];rfl
 rw[G,ag,ag,z];rfl
theorem Po (n:bM)(v:Value)(V:n.B.length=13){a:Option Addr}{c:Nat}(E:List (ByteArray×Int))(m:Nat)(hm:m=E.length):
  Calls Tryz.prog 183 #[.agg (aU n v),.slice a m c] w λe w'=>e= .returned (.agg (aU (kg n E) (.slice a m c)))/\ay [] w w':=by
 have hl:(aU n v).size=18:=by rw[aU,bU,fC,V]
 have U:(aU cB (.slice none 0 0)).size=18:=rfl;have aa:=jo v V;have UL:=LG n v (.slice a m c) E V (m:Int) (by omega);have Tq:∀u∈lL (kg n E) (.slice a m c),u.oneCell'=true:=jg rfl;have p8:=eV;have W:aU (kg n E) (.slice a m c)=(lL (kg n E) (.slice a m c)).toArray:=rfl;have J:(lL (kg n E) (.slice a m c)).length=18:=by rw[fC];show n.B.length+5=18;omega
 generalize aU cB (.slice none 0 0)=h at *;generalize aU n v=Z at *;generalize aU (kg n E) (.slice a m c)=Z1 at *;generalize lL (kg n E) (.slice a m c)=z at *;subst W;have y:=(bm.new w ((Z.setIfInBounds 17 (.slice a m c)).setIfInBounds 3 (.int .i64 (m:Int))) 110).alloc (.cells h 110);have pE:=bm.new (w.alloc (.cells ((Z.setIfInBounds 17 (.slice a m c)).setIfInBounds 3 (.int .i64 (m:Int))) 110)) h 110;rw[show(w.alloc (.cells ((Z.setIfInBounds 17 (.slice a m c)).setIfInBounds 3 (.int .i64 (m:Int))) 110)).heap.size=w.heap.size+1 by simp] at pE;have G:ay [] w ((w.alloc (.cells ((Z.setIfInBounds 17 (.slice a m c)).setIfInBounds 3 (.int .i64 (m:Int))) 110)).alloc (.cells h 110)):=((ay.refl [] w).alloc _).alloc _;have nJ:Hid ((loadVar 110 ⟨w.heap.size,0,none⟩).run Tryz.prog ((w.alloc (.cells ((Z.setIfInBounds 17 (.slice a m c)).setIfInBounds 3 (.int .i64 (m:Int))) 110)).alloc (.cells h 110))= .ok (.agg z.toArray) ((w.alloc (.cells ((Z.setIfInBounds 17 (.slice a m c)).setIfInBounds 3 (.int .i64 (m:Int))) 110)).alloc (.cells h 110))):=
  bT _ 0 z Tryz.underlying110 rfl (by rw[J];exact gZ) λj _=>by rw[y.cell,UL,aX,aC]
 obtain⟨w5,q1,q2,q3⟩:=br (P:= Tryz.prog) (ty:= 110) (cs:=z) (by rw[J];exact gZ) pE (by rw[J];exact U) Tq;have HS:=ar q1;have Ey:Hid ((loadVar 110 ⟨w.heap.size+1,0,none⟩).run Tryz.prog w5= .ok (.agg z.toArray) w5):=
  bT _ 0 z Tryz.underlying110 rfl (by rw[J];exact gZ) λj _=>by rw[q2.cell,aX,aC]
 have gI:Hid (ay [] w w5):=G.trans q3 (by intro x hx;rw[au] at hx;omega);have O6:17<Z.size:=by omega
 have ac:3<Z.size:=by omega
 clear y pE G aa UL Tq hl U q1 q2 q3 hm V J;go_enter Tryz.func183,Tryz.ntmps183;go_wp2_with(first|(with_reducible refine gL 110 nJ.out ?_)|(with_reducible refine gS 110 HS.out ?_));exact aK (dP Tryz.results183 rfl Ey.out) rfl ⟨rfl,gI.out⟩
def Cw (w:World) (n:bM) (L:List (ByteArray×Int)) (e:Ending) (w':World):Prop:=∃u g,e= .returned (.agg (aU (kg n L) u))/\bz w' u g L/\w.heap.size<=g/\ay [] w w'
theorem aem (w:World)(x:ByteArray)(i:Int)(g T:Nat)(h:bm w g #[.string x,.int .i64 i] T):bz w (.slice (some ⟨g,0,none⟩) 1 1) g [(x,i)]:=
 ⟨_,1,rfl,aG _,by unfold maxLen;omega,λ_=>⟨h.lt,0,rfl,λj y=>by
  obtain rfl:j=0:=by simpa using y
  exact⟨by rw[h.cell];rfl,by rw[h.cell];rfl⟩⟩⟩
theorem acF{P:Nat->Prop}(h:P 0)(z:P 1)(y:P 2):∀j,j<3->P j:=λj G=>by
 rcases (show j=0\/j=1\/j=2 by omega) with rfl|rfl|rfl
 ·exact h
 ·exact z
 ·exact y
theorem gy.newLen(h:gy E A M B nm)(i:Int):(A++([(nm,i)]++B)).length<=E.length+1/\(A++B).length<=E.length:=by
 rw[h.eq];simp only[aF,bH,cp];omega
theorem Tr (n:bM){v:Value}{g:Nat}{A M B:List (ByteArray×Int)}{nm:ByteArray}(i:Int)(hB:n.B.length=13)(hE:bz w v g n.E)(hs:gy n.E A M B nm)(WH:n.E.length<=500):
  Calls Tryz.prog 155 #[.agg (aU n v),.agg #[.string nm,.int .i64 i]] w (Cw w n (A++([(nm,i)]++B))):=by
 have aw:=hs.newLen i;obtain⟨L,hL⟩:∃L,A++([(nm,i)]++B)=L:=⟨_,rfl⟩;rw[hL] at aw ⊢;have HL:=ar hL;have aI:(aU cB (.slice none 0 0)).size=18:=rfl;have p8:=eV;have ac:=((bm.new w (aU n v) 110).alloc (.cells #[.string nm,.int .i64 i] 88)).alloc (.cells (aU cB (.slice none 0 0)) 110);have af:=(bm.new (w.alloc (.cells (aU n v) 110)) #[.string nm,.int .i64 i] 88).alloc (.cells (aU cB (.slice none 0 0)) 110);have aa:=bm.new ((w.alloc (.cells (aU n v) 110)).alloc (.cells #[.string nm,.int .i64 i] 88)) (aU cB (.slice none 0 0)) 110;rw[show(w.alloc (.cells (aU n v) 110)).heap.size=w.heap.size+1 by simp] at af;rw[show((w.alloc (.cells (aU n v) 110)).alloc (.cells #[.string nm,.int .i64 i] 88)).heap.size=w.heap.size+2 by simp] at aa;have ae:ay [] w (((w.alloc (.cells (aU n v) 110)).alloc (.cells #[.string nm,.int .i64 i] 88)).alloc (.cells (aU cB (.slice none 0 0)) 110)):=(((ay.refl [] w).alloc _).alloc _).alloc _;have aq:=Pm (hE.keep ae (by simp)) hs (by omega);have xK:Hid (L.length<=1000):=by show _<=_;omega
 have ax:=jo v hB;have Tq:∀u:Value,u.oneCell'=true->∀x∈lL (kg n L) u,x.oneCell'=true:=λu hu=>jg hu
 have ap:=ar Tq;have aF:Hid (∀U a c,Calls Tryz.prog 183 #[.agg (aU n v),.slice a L.length c] U λe w'=>e= .returned (.agg (aU (kg n L) (.slice a L.length c)))/\ay [] U w'):=λU a c=>Po n v hB L _ rfl
 have lR:∀u,(lL (kg n L) u).length=18:=λu=>by rw[fC];show n.B.length+5=18;omega
 have Ek:=ar lR;obtain⟨a,cap,rfl,nz,nB,-⟩:=hE.open;have YQ:=ax.f5;have aL:Hid (∀U,bm U w.heap.size (aU n (.slice a n.E.length cap)) 110->(loadVar 110 ⟨w.heap.size,0,none⟩).run Tryz.prog U= .ok (.agg (aU n (.slice a n.E.length cap))) U):=λU hb=>cH hb hB
 generalize aU cB (.slice none 0 0)=Z0 at *;generalize aU n (.slice a n.E.length cap)=Z at *;have aQ:(((w.alloc (.cells Z 110)).alloc (.cells #[.string nm,.int .i64 i] 88)).alloc (.cells Z0 110)).cell? ⟨w.heap.size,17,none⟩=some (.slice a n.E.length cap):=by rw[ac.cell];exact YQ
 have az:=ar aq;have nu:=ar ac;have qa:=ar af;have nY:=ar aa;have fj:=ar ae;have H0:=ar aI;clear aq ac af aa ae ax Tq lR aI hE hs aw WH YQ hB nz nB hL;go_enter Tryz.func155,Tryz.ntmps155;go_wp2_with fail;refine az.out.mono ?_;rintro e G ⟨x,y,rfl,V,hy,J⟩;obtain⟨a1,c1,aP,-,-,-⟩:=V.open;obtain⟨a2,c2,aN,-,-,-⟩:=hy.open;subst aP aN;have ak:w.heap.size+3<=G.heap.size:=by have :=J.size;simp at this;omega
 have aA:=ar ak;have nu:=ar (nu.out.keep J (by simp));have qa:=ar (qa.out.keep J (by simp));have nY:=ar (nY.out.keep J (by simp));have lS:=ar (fj.out.trans' J);have HX:=ar (V.keep J (by simp));have HY:=ar (hy.keep J (by simp));clear V hy J az ak aQ;go_wp2_with fail;refine Ai (S:=λU=>ay [w.heap.size+2] G U) [0,1,2,4] [3,5,6,7,8] (l:=[_,_,_,_]) (tl:=[_,_,_,_,_]) (by kernel_rfl) (by kernel_rfl) (by kernel_rfl) (by kernel_rfl) rfl rfl rfl rfl rfl (λd _ _ _ _ h=>by cases d<;>exact h) (ay.refl _ _).drew ?_;refine ep.cons _ (YieldsIf.load rfl 110 (.tmp 2) rfl _ rfl λU V=>aL.out U (nu.out.keep V (by simp))) ?_;simp only[Act.put,ag];refine ep.cons ?_ (YieldsIf.val rfl ?h) ?_;(case h=>(intro U V;clear V;go_simp;rfl));simp only[Act.put];refine ep.cons _ (YieldsIf.load rfl 88 (.tmp 3) rfl _ rfl λU V=>vN (by rw[(qa.out.keep V (by simp)).cell];rfl) (by rw[(qa.out.keep V (by simp)).cell];rfl)) ?_;simp only[Act.put];refine ep.cons ?_ (YieldsIf.val rfl ?h) ?_;(case h=>(intro U V;clear V;go_simp;rfl));simp only[Act.put];refine ep.done ?_;unfold jC;go_wp2_with fail;refine⟨((ay.refl _ _).drew).alloc _,?_⟩;unfold jC;go_wp2_with fail;refine⟨(((ay.refl _ _).drew).alloc _).alloc _,?_⟩;unfold jC;have jG:ay [] G (((G.alloc (.cells #[.string nm,.int .i64 i] 88)).alloc (.cells #[.slice a1 A.length c1,.slice (some ⟨G.heap.size,0,none⟩) 1 1,.slice a2 B.length c2] 32)).drew):=(((ay.refl _ _).alloc _).alloc _).drew;have pE:bm (((G.alloc (.cells #[.string nm,.int .i64 i] 88)).alloc (.cells #[.slice a1 A.length c1,.slice (some ⟨G.heap.size,0,none⟩) 1 1,.slice a2 B.length c2] 32)).drew) G.heap.size #[.string nm,.int .i64 i] 88 :=((bm.new G _ _).alloc _).drew;have AE:bm (((G.alloc (.cells #[.string nm,.int .i64 i] 88)).alloc (.cells #[.slice a1 A.length c1,.slice (some ⟨G.heap.size,0,none⟩) 1 1,.slice a2 B.length c2] 32)).drew) (G.heap.size+1) ([.slice a1 A.length c1,.slice (some ⟨G.heap.size,0,none⟩) 1 1,.slice a2 B.length c2]:List Value).toArray 32 :=by
  have :=(bm.new (G.alloc (.cells #[.string nm,.int .i64 i] 88)) #[.slice a1 A.length c1,.slice (some ⟨G.heap.size,0,none⟩) 1 1,.slice a2 B.length c2] 32).drew;rwa[show(G.alloc (.cells #[.string nm,.int .i64 i] 88)).heap.size=G.heap.size+1 by simp] at this
 have xS:[A,[(nm,i)],B].flatten=L:=by rw[<-HL.out];simp
 have aG:=HX.out.keep jG (by simp);have av:=HY.out.keep jG (by simp);have aD:=aem _ nm i _ _ pE;have W:=LD (Ls:=[A,[(nm,i)],B]) AE rfl (by simp)
  (acF (P:=λj=>∃g,bz (((G.alloc (.cells #[.string nm,.int .i64 i] 88)).alloc (.cells #[.slice a1 A.length c1,.slice (some ⟨G.heap.size,0,none⟩) 1 1,.slice a2 B.length c2] 32)).drew) (([.slice a1 A.length c1,.slice (some ⟨G.heap.size,0,none⟩) 1 1,.slice a2 B.length c2]:List Value).getD j (.slice none 0 0)) g ([A,[(nm,i)],B].getD j [])) ⟨g,aG⟩ ⟨_,aD⟩ ⟨g,av⟩)
  (by rw[xS];exact xK.out)
 rw[xS] at W;have SZ:=ar W;have oH:=ar jG;clear W jG pE AE xS aG av aD;go_wp2_with fail;refine SZ.out.mono ?_;rintro e w6 ⟨u,gu,rfl,hu,aH,jz⟩;obtain⟨a6,c6,aM,-,-,-⟩:=hu.open;subst aM;have mX:=ar (oH.out.trans' jz);have HU:=ar hu;have aB:Hid (G.heap.size<=gu):=cu oH.out.size aH;clear hu aH jz SZ oH;have HV:=ar (aF.out w6 a6 c6);have aJ:=ar (ap.out (.slice a6 L.length c6) rfl);have aj:=ar (Ek.out (.slice a6 L.length c6));have RN:Hid (aU (kg n L) (.slice a6 L.length c6)=(lL (kg n L) (.slice a6 L.length c6)).toArray):=rfl;have MG:Hid (∀w',bz w' (.slice a6 L.length c6) gu L->ay [] w w'->Cw w n L (.returned (.agg (aU (kg n L) (.slice a6 L.length c6)))) w'):=λw' h1 h2=>⟨_,gu,rfl,h1,by have :=aB.out;have :=aA.out;omega,h2⟩
 clear ap Ek aF;generalize aU (kg n L) (.slice a6 L.length c6)=Z6 at *;generalize lL (kg n L) (.slice a6 L.length c6)=ZL at *;generalize L.length=m at *;go_wp2_with fail;refine⟨mX.out.mono (by simp),?_⟩;unfold jC;go_wp2_with fail;refine HV.out.mono ?_;rintro e w7 ⟨rfl,AJ⟩;have GU:=ar (mX.out.trans' AJ);have aO:=ar (HU.out.keep AJ (by simp));obtain⟨w8,q1,q2,q3⟩:=br (P:= Tryz.prog) (ty:= 110) (cs:=ZL) (by rw[aj.out];exact gZ) (nY.out.keep GU.out (by simp)) (by rw[aj.out];exact H0.out) aJ.out;rw[<-RN.out] at q1;have HS:=ar q1;have UF:Hid ((loadVar 110 ⟨w.heap.size+2,0,none⟩).run Tryz.prog w8= .ok (.agg Z6) w8):=by
  rw[RN.out];exact bT _ 0 ZL Tryz.underlying110 rfl (by rw[aj.out];exact gZ) λj _=>by rw[q2.cell,aX,aC]
 have QM:=ar ((GU.out.mono (l':=[w.heap.size+2]) (by simp)).trans' q3);have HF:=ar (MG.out w8 (aO.out.keep q3 (by have :=aB.out;have :=aA.out;intro _ h;rw[au] at h;omega)) (lS.out.trans QM.out (by intro z hz;rw[au] at hz;omega)));clear q1 q2 q3 AJ HV MG;go_wp2_with fail;refine⟨GU.out.mono (by simp),?_⟩;unfold jC;refine pQ rfl 110 (.tmp 4) (.tmp 22) rfl ⟨w.heap.size+2,0,none⟩ rfl (.agg Z6) rfl w8 HS.out ?_;go_wp2_with fail;refine⟨QM.out,?_⟩;unfold jC;go_wp2_with fail;exact aK (dP Tryz.results155 rfl UF.out) rfl HF.out
theorem fF{T:Nat}{h:Array Value}(z:bm w g h T)(G:h.size=18)(y:n.B.length=13)(J:v.oneCell'=true):
  ∃w',(storeVar 110 ⟨g,0,none⟩ (.agg (aU n v))).run Tryz.prog w= .ok () w'/\bm w' g (aU n v) T/\ay [g] w w':=
 br (P:= Tryz.prog) (ty:= 110) (cs:=lL n v) (by rw[fC,y];exact gZ) z (by rw[G,fC,y]) (jg J)
theorem bz.one(h:bz w v g E):v.oneCell'=true:=by
 obtain⟨a,cap,rfl,-⟩:=h;rfl
end Go.Proofs.YtcecbdeamjigiaaGreatDoor
