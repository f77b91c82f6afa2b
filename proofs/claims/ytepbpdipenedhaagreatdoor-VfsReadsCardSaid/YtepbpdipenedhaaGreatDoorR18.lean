/- Lemmas. -/
import Derived.Test.YtepbpdipenedhaaGreatDoorR17
import Derived.Lib.Bytealg
set_option maxHeartbeats 4000000
set_option maxRecDepth 100000
namespace Go.Proofs.YtepbpdipenedhaaGreatDoor
open Go.Proofs.Tryz
open Go.RowKit
variable{T:List (bP×Value)}{d i:Int}{R:List Int}{cap g k:Nat}{a b nm:ByteArray}{n:bP}{A B E M:List (ByteArray×Int)}{w:World}{v:Value}{P:Nat->Prop}
def pd (T:List (bP×Value)) (a:Int):List Int:=if 0<=a/\a<32 then (nT T a.toNat).E.map (·.2) else []
inductive Reach (T:List (bP×Value)) (d:Int):Int->Prop
 |here:Reach T d d
 |step {a b:Int}:Reach T d a->b∈pd T a->Reach T d b
def adD (T:List (bP×Value)):Prop:=∀i,(nT T i).F=0->(nT T i).E=[]
def TY (T:List (bP×Value)):Prop:=∀a,∀b∈pd T a,0<=b/\b<32
theorem afY (W:adD T)(U:afX T)(hF:∀i:Nat,i<32->0<=(nT T i).F):TY T:=λa b h=>by
 unfold pd at h;split at h
 ·next ha=>
  have h1:=hF a.toNat (by omega);by_cases V:(nT T a.toNat).F=0
  ·rw[W _ V] at h;simp at h
  ·obtain⟨k,z,J⟩:=cj h
   rw[bS] at z;rw[ig] at J;rcases (U a.toNat (by omega) (by omega)).2.2 with ⟨-,G⟩|⟨-,G⟩
   ·have :=G.2.1;omega
   ·have h3:=(G.2.2.2 k z).2.1
    have e:jl (nT T a.toNat).E k=b:=by
     rw[<-J];simp[jl,z]
    rw[e] at h3;omega
 ·simp at h
theorem Reach.rng(z:TY T){d x:Int}(h:Reach T d x):x=d\/(0<=x/\x<32):=by
 cases h with
 |here=>exact .inl rfl
 |step _ hb=>exact .inr (z _ _ hb)
theorem Reach.closed{P:Int->Prop}(G:P d)(z:∀a,P a->∀b∈pd T a,P b){x:Int}(h:Reach T d x):P x:=by
 induction h with
 |here=>exact G
 |step _ hb ih=>exact z _ ih _ hb
theorem IW:∀(l m:List Int),l.Nodup->(∀x∈l,x∈m)->l.length<=m.length
 | [],_,_,_=>fC _
 |a::l,m,hn,h=>by
  have J:=List.nodup_cons.1 hn;have G:=h a (by simp);have V:=IW l (m.erase a) J.2 λx U=>by
   have z:x≠a:=λe=>J.1 (e▸U)
   exact(List.mem_erase_of_ne z).2 (h x (by simp[U]))
  rw[List.length_erase_of_mem G] at V;have :m.length≠0:=λe=>by rw[bg e] at G;simp at G
  rw[bQ];omega
structure qW (T:List (bP×Value)) (d i:Int) (R:List Int) (k:Nat):Prop where
 nodup:R.Nodup
 reach:∀x∈R,Reach T d x
 first:d∈R
 le:k<=R.length
 done:∀j,j<k->∀x,R[j]? =some x->x≠i/\∀b∈pd T x,b∈R
theorem qW.start(T:List (bP×Value))(d i:Int):qW T d i [d] 0:=
 ⟨List.nodup_cons.2 ⟨by simp,List.nodup_nil⟩,λx h=>by rw[ay] at h;subst h;exact .here,by simp,fC _,λj z=>by omega⟩
theorem qW.len(G:TY T){d i:Int}{R:List Int}{k:Nat}(h:qW T d i R k):R.length<=33:=by
 have z:=IW R (d::(List.range 32).map λn:Nat=>(n:Int)) h.nodup λx J=>by
  rcases (h.reach x J).rng G with e|⟨z,U⟩
  ·rw[e];simp
  ·refine eQ _ (bH.2 ⟨x.toNat,bX.2 (by omega),by omega⟩)
 rw[bQ,bS,eN] at z;exact z
theorem qW.found(h:qW T d i R k){x:Int}(z:R[k]? =some x)(e:x=i):Reach T d i:=by
 rw[<-e];exact h.reach x (List.mem_of_getElem? z)
theorem qW.ended(h:qW T d i R k)(G:k=R.length):¬Reach T d i:=λJ=>by
 subst G;have V:∀x,Reach T d x->x∈R:=λx U=>Reach.closed (P:=λx=>x∈R) h.first (λa ha b W=>by
  obtain⟨j,z,e⟩:=cj ha;exact(h.done j z a (by rw[aG z,e])).2 b W) U
 obtain⟨j,z,e⟩:=cj (V i J);exact(h.done j z i (by rw[aG z,e])).1 rfl
theorem qW.more(h:qW T d i R k){x b:Int}(J:R[k]? =some x)(U:b∈pd T x)(hn:b∉R):qW T d i (R++[b]) k/\(R++[b])[k]? =some x:=by
 have W:k<R.length:=(List.getElem?_eq_some_iff.1 J).1;refine⟨⟨?_,λy G=> ?_,by simp[h.first],by rw[aD];have :=h.le;omega,λj hj y G=> ?_⟩,by rw[aY W,J]⟩
 ·rw[List.nodup_append]
  refine⟨h.nodup,List.nodup_cons.2 ⟨by simp,List.nodup_nil⟩,λy G z V e=> ?_⟩;rw[ay] at V;rw[V] at e;exact hn (e▸G)
 ·rcases aU.1 G with G|G
  ·exact h.reach y G
  ·rw[ay] at G
   subst G;exact .step (h.reach x (List.mem_of_getElem? J)) U
 ·rw[aY (by omega)] at G
  obtain⟨h1,h2⟩:=h.done j hj y G;exact⟨h1,λb U=>by simp[h2 b U]⟩
theorem qW.next(h:qW T d i R k){x:Int}(U:R[k]? =some x)(J:x≠i)(z:∀b∈pd T x,b∈R):qW T d i R (k+1):=by
 have V:k<R.length:=(List.getElem?_eq_some_iff.1 U).1;refine⟨h.nodup,h.reach,h.first,by omega,λj W y G=> ?_⟩;by_cases e:j=k
 ·subst e
  rw[U] at G;cases G;exact⟨J,z⟩
 ·exact h.done j (by omega) y G
def mk (S:List Bool) (x:Int):Bool:=S.getD x.toNat false
end Go.Proofs.YtepbpdipenedhaaGreatDoor
namespace Go.Proofs.YtepbpdipenedhaaGreatDoor
open Go.Proofs.Tryz
open Go.RowKit
variable{T:List (bP×Value)}{d i:Int}{R:List Int}{cap g k:Nat}{a b nm:ByteArray}{n:bP}{A B E M:List (ByteArray×Int)}{w:World}{v:Value}{P:Nat->Prop}
end Go.Proofs.YtepbpdipenedhaaGreatDoor
namespace Go.Proofs.YtepbpdipenedhaaGreatDoor
open Go.Proofs.Tryz
open Go.RowKit
variable{T:List (bP×Value)}{d i:Int}{R:List Int}{cap g k:Nat}{a b nm:ByteArray}{n:bP}{A B E M:List (ByteArray×Int)}{w:World}{v:Value}{P:Nat->Prop}
def IX (a b:ByteArray):Prop:=Op.bytesLess a.toList b.toList=true
def vI (a b:ByteArray):Int:=Lib.compareBytes a.data.toList b.data.toList
theorem IY (h:a.toList=b.toList):a=b:=by
 rw[jo,jo] at h;exact ByteArray.ext (Array.toList_inj.1 h)
theorem tj:∀a b:List UInt8,(Lib.compareBytes a b<0↔Op.bytesLess a b=true)/\(Lib.compareBytes a b=0↔a=b)
 | [],[]=>by simp[Lib.compareBytes,Op.bytesLess]
 | [],_::_=>by simp[Lib.compareBytes,Op.bytesLess]
 |_::_,[]=>by simp[Lib.compareBytes,Op.bytesLess]
 |x::a,y::b=>by
  have U:=tj a b;unfold Lib.compareBytes;by_cases z:x<y
  ·have h:x≠y:=λe=>by rw[e,gY] at z;omega
   simp[z,h,Op.bytesLess]
  ·by_cases G:y<x
   ·have h:x≠y:=λe=>z (by rw[e] at G;exact absurd G (by rw[gY];omega))
    simp[z,G,h,Op.bytesLess]
   ·have J:x=y:=by
     rw[gY] at z G;exact UInt8.toNat_inj.1 (by omega)
    subst J;simp only[z,if_false,Op.bytesLess,BEq.rfl,Bool.true_and,decide_false,Bool.false_or,List.cons.injEq,true_and];exact U
theorem XG (a b:ByteArray):vI a b<0↔IX a b:=by
 unfold vI IX;rw[jo,jo];exact(tj _ _).1
theorem TZ (a b:ByteArray):vI a b=0↔a=b:=by
 unfold vI;rw[(tj _ _).2];exact⟨λh=>ByteArray.ext (Array.toList_inj.1 h),λh=>by rw[h]⟩
theorem lS (a:ByteArray):¬IX a a:=λh=>by
 unfold IX at h;rw[nZ] at h;cases h
theorem uq{c:ByteArray}(h:IX a b)(k:IX b c):IX a c:=nE _ _ _ h k
theorem vJ (h:IX a b):a≠b:=λe=>lS b (by rw[e] at h;exact h)
theorem T6 (a b:ByteArray):IX a b\/a=b\/IX b a:=by
 by_cases h:IX a b
 ·exact .inl h
 ·by_cases e:a=b
  ·exact .inr (.inl e)
  ·refine .inr (.inr (rO _ _ ?_ λz=>e (IY z)))
   unfold IX at h;simpa using h
def xB (E:List (ByteArray×Int)):Prop:=E.Pairwise λp q=>IX p.1 q.1
structure iN (E A M B:List (ByteArray×Int)) (nm:ByteArray):Prop where
 eq:E=A++(M++B)
 ahead:∀p∈A,IX p.1 nm
 behind:∀p∈B,IX nm p.1
 one:M=[]\/∃i,M=[(nm,i)]
theorem kQ:∀{E:List (ByteArray×Int)},xB E->∀nm,∃A M B,iN E A M B nm
 | [],_,nm=>⟨[],[],[],rfl,by simp,by simp,.inl rfl⟩
 |p::E,h,nm=>by
  have J:=List.pairwise_cons.1 h;obtain⟨A,M,B,G⟩:=kQ J.2 nm;rcases T6 p.1 nm with W|V|U
  ·refine⟨p::A,M,B,by rw[G.eq];rfl,?_,G.behind,G.one⟩
   intro q z;rcases aP.1 z with rfl|z
   ·exact W
   ·exact G.ahead q z
  ·refine⟨[],[p],E,rfl,by simp,λq z=> ?_,.inr ⟨p.2,by rw[<-V]⟩⟩
   rw[<-V];exact J.1 q z
  ·refine⟨[],[],p::E,rfl,by simp,λq z=> ?_,.inl rfl⟩
   rcases aP.1 z with rfl|z
   ·exact U
   ·exact uq U (J.1 q z)
theorem IZ (h:og n):xB n.E:=by
 unfold xB;rw[cU];intro i j U J G;have :=FB (λk z V=>(h.2.2.2 k z).2.2 V) j i G J;have e:∀k (z:k<n.E.length),n.E[k]=(eU n.E k,jl n.E k):=λk z=>by simp[eU,jl,z]
 rw[e i U,e j J];exact this
theorem iN.rises(h:iN E A M B nm)(U:xB E)(M':List (ByteArray×Int))(V:M'=[]\/∃i,M'=[(nm,i)]):xB (A++(M'++B)):=by
 unfold xB at U ⊢;rw[h.eq,List.pairwise_append,List.pairwise_append] at U;rw[List.pairwise_append,List.pairwise_append];obtain⟨W,⟨-,r3,-⟩,r5⟩:=U;have G:∀q∈M',q.1=nm:=λq z=>by
  rcases V with rfl|⟨i,rfl⟩
  ·simp at z
  ·rw[ay] at z;rw[z]
 refine⟨W,⟨?_,r3,λp J q z=>by rw[G p J];exact h.behind q z⟩,λp J q z=> ?_⟩
 ·rcases V with rfl|⟨i,rfl⟩
  ·exact List.Pairwise.nil
  ·exact List.pairwise_singleton _ _
 ·rcases aU.1 z with z|z
  ·rw[G q z];exact h.ahead p J
  ·exact uq (h.ahead p J) (h.behind q z)
theorem iN.at(h:iN E A M B nm)(k:Nat)(hk:k<E.length):(IX (eU E k) nm↔k<A.length)/\(eU E k=nm↔k=A.length/\M≠[]):=by
 have hE:E.length=A.length+(M.length+B.length):=by rw[h.eq,aD,aD]
 have hM:M.length<=1:=by rcases h.one with e|⟨i,e⟩<;>rw[e]<;>simp
 have U:(eU E k,jl E k)=E[k]:=by simp[eU,jl,hk]
 have h1:eU E k=E[k].1:=by rw[<-U]
 by_cases V:k<A.length
 ·have e:E[k]=A[k]:=by simp only[h.eq];rw[List.getElem_append_left V]
  have z:=h.ahead _ (bA V);rw[<-e,<-h1] at z;exact⟨⟨λ_=>V,λ_=>z⟩,⟨λe=>absurd e (vJ z),λe=>by omega⟩⟩
 ·by_cases hm:k<A.length+M.length
  ·have dt:k=A.length:=by omega
   have J:M≠[]:=λe=>by rw[e] at hm;simp at hm;omega
   have e:eU E k=nm:=by
    obtain⟨i,e⟩:=h.one.resolve_left J;have :E[k]? =some (nm,i):=by
     rw[h.eq,e,dt,aQ (by omega)];simp
    rw[aG hk,Option.some_inj] at this;rw[h1,this]
   exact⟨⟨λz=>absurd e (vJ z),λh=>absurd h V⟩,⟨λ_=>⟨dt,J⟩,λ_=>e⟩⟩
  ·have G:k-A.length-M.length<B.length:=by omega
   have e:E[k]? =some B[k-A.length-M.length]:=by
    rw[h.eq,aQ (by omega),aQ (by omega),aG G]
   rw[aG hk,Option.some_inj] at e;have z:=h.behind _ (bA G);rw[<-e,<-h1] at z;refine⟨⟨λW=>absurd (uq W z) (lS _),λW=>absurd W V⟩,⟨λe2=>absurd e2.symm (vJ z),λ⟨W,h3⟩=> ?_⟩⟩;have :M.length≠0:=λe=>h3 (bg e)
   omega
def cz:List (ByteArray×Int)->ByteArray->Int
 | [],_=> -1
 |p::E,nm=>if p.1=nm then p.2 else cz E nm
theorem Cm:∀(A E:List (ByteArray×Int)) (nm:ByteArray),(∀p∈A,p.1≠nm)->cz (A++E) nm=cz E nm
 | [],_,_,_=>rfl
 |p::A,E,nm,h=>by
  show(if p.1=nm then p.2 else cz (A++E) nm)=_;rw[aB (h p (by simp))];exact Cm A E nm λq z=>h q (by simp[z])
theorem zL (E:List (ByteArray×Int))(nm:ByteArray)(h:∀p∈E,p.1≠nm):cz E nm= -1:=by
 have :=Cm E [] nm h;rw[bu] at this;exact this
theorem MH (a b:ByteArray)(w:World):Calls prog 219 #[.string a,.string b] w λe w'=>e= .returned (.int .i64 (vI a b))/\w=w':=by
 go_enter func219,ntmps219;go_wp2;rw[run_callFunc_extern func232 (by kernel_rfl) (by kernel_rfl) (by kernel_rfl) (e:=Extern.BytealgCompare.compare) (by kernel_rfl),Lib.run_compareString];simp only[Result.andThen];rw[Oper.upon_value];go_wp2;go_ret;exact⟨rfl,rfl⟩
theorem A1 (a b:ByteArray)(w:World):Calls prog 207 #[.string a,.string b] w λe w'=>e= .returned (.int .i64 (vI a b))/\w=w':=by
 have h:=λz=>MH a b z
 generalize vI a b=r at h ⊢;go_enter func207,ntmps207;go_wp2_with fail;refine(h _).mono ?_;rintro e w' ⟨rfl,rfl⟩;go_wp2_with fail;go_ret;exact⟨rfl,rfl⟩
theorem MI (a nm:ByteArray)(x:Int)(w:World):Calls prog 206 #[.agg #[.string a,.int .i64 x],.string nm] w λe w'=>e= .returned (.int .i64 (vI a nm))/\az [] w w':=by
 have h:=λG=>A1 a nm G
 generalize vI a nm=r at h ⊢;have z:Hid (az [] w (w.alloc (.cells #[.string a,.int .i64 x] 87))):=(az.refl [] w).alloc _;go_enter func206,ntmps206;go_wp2_with fail;refine(h _).mono ?_;rintro e w' ⟨rfl,rfl⟩;go_wp2_with fail;go_ret;exact⟨rfl,z.out⟩
def kU (w:World) (A M:List (ByteArray×Int)) (e:Ending) (w':World):Prop:=e= .returned (.tuple #[.int .i64 (A.length:Int),.bool (!M.isEmpty)])/\az [] w w'
theorem T7 (hE:bC w v g E)(hs:iN E A M B nm)(XH:E.length<=1000):
  Calls prog 205 #[v,.string nm,.func (.func 206) #[] #[]] w (kU w A M):=by
 have I0:Hid (∀w',az [] w w'->kU w A M (.returned (.tuple #[.int .i64 (A.length:Int),.bool (!M.isEmpty)])) w'):=λw' h=>⟨rfl,h⟩
 have Zt:=au (hs.at);have ai:A.length<=E.length:=by rw[hs.eq,aD];omega
 obtain⟨a,cap,rfl,aj,ah,yu⟩:=hE.open;have Tu:Hid (∀(x:ByteArray) (y:Int) (wx:World),Calls prog 206 #[.agg #[.string x,.int .i64 y],.string nm] wx λe w'=>e= .returned (.int .i64 (vI x nm))/\az [] wx w'):=λx y wx=>MI x nm y wx
 have VF:Hid (∀k,k<E.length->(vI (eU E k) nm<0↔k<A.length)/\(vI (eU E k) nm=0↔k=A.length/\M≠[])):=λk hk=>⟨(XG _ _).trans (Zt.out k hk).1,(TZ _ _).trans (Zt.out k hk).2⟩
 have aa:Hid (M≠[]->A.length<E.length):=λh=>by
  have :M.length≠0:=λe=>h (bg e)
  have e:=cB List.length hs.eq;rw[aD,aD] at e;omega
 unfold maxLen at ah;have XI:Hid ((M.isEmpty=true/\M=[])\/(M.isEmpty=false/\M≠[])):=by
  show _\/_;cases M with
  |nil=>exact .inl ⟨rfl,rfl⟩
  |cons a b=>exact .inr ⟨rfl,by simp⟩
 clear hs hE Zt;generalize hm:E.length=m at *;generalize hk:A.length=k at *;clear hm hk;go_enter func205,ntmps205;go_wp2_with fail;go_loopg [9,10] m (λgh s9 Sq wx=>∃G z:Nat,s9= .int .i64 (G:Int)/\Sq= .int .i64 (z:Int)/\G<=k/\k<=z/\z<=m/\z-G<=gh/\Hid (az [] w wx))
 case atStart=>exact⟨0,m,rfl,rfl,fC _,ai,aI _,by omega,az.refl _ _⟩
 case round=>
  obtain⟨G,z,rfl,rfl,h1,h2,h3,h4,V⟩:=hrel;by_cases ak:G<z
  ·have ae:(G+z)/2<m:=by omega
   obtain⟨U,off,rfl,d1,d2⟩:=yu.out _ ae;have c0:wr.cell? ⟨g,off+(G+z)/2*2,none⟩=some (.string (eU E ((G+z)/2))):=(aO (w:=w) (a:=⟨g,off+(G+z)/2*2,none⟩) (V.out.block g U (by simp))).trans d1;have c1:wr.cell? ⟨g,off+(G+z)/2*2+1,none⟩=some (.int .i64 (jl E ((G+z)/2))):=(aO (w:=w) (a:=⟨g,off+(G+z)/2*2+1,none⟩) (V.out.block g U (by simp))).trans d2;have W:=VF.out _ ae;have HC:=au (Tu.out (eU E ((G+z)/2)) (jl E ((G+z)/2)));clear d1 d2;by_cases af:(G+z)/2<k
   ·have ag:=W.1.2 af
    clear W;generalize vI (eU E ((G+z)/2)) nm=cv at *;generalize eU E ((G+z)/2)=nk at *;generalize jl E ((G+z)/2)=ik at *;go_wp2_with fail;refine(HC.out _).mono ?_;rintro e w2 ⟨rfl,J⟩;have fL:=au (V.out.trans' J);clear J;go_wp2_with fail;go_roundg (z-((G+z)/2+1));case measure=>omega
    case rel=>exact⟨(G+z)/2+1,z,by rw[show((G:Int)+(z:Int))/2+1=(((G+z)/2+1:Nat):Int) by omega],rfl,by omega,h2,h3,aI _,fL.out⟩
   ·have ag:¬vI (eU E ((G+z)/2)) nm<0:=λh=>af (W.1.1 h)
    clear W;generalize vI (eU E ((G+z)/2)) nm=cv at *;generalize eU E ((G+z)/2)=nk at *;generalize jl E ((G+z)/2)=ik at *;go_wp2_with fail;refine(HC.out _).mono ?_;rintro e w2 ⟨rfl,J⟩;have fL:=au (V.out.trans' J);clear J;go_wp2_with fail;go_roundg ((G+z)/2-G);case measure=>omega
    case rel=>exact⟨G,(G+z)/2,rfl,by rw[show((G:Int)+(z:Int))/2=(((G+z)/2:Nat):Int) by omega],h1,by omega,by omega,aI _,fL.out⟩
  ·obtain rfl:G=k:=by omega
   obtain rfl:z=G:=by omega
   rcases dG z m with ac|ac
   ·obtain⟨U,off,rfl,d1,d2⟩:=yu.out _ ac
    have c0:wr.cell? ⟨g,off+z*2,none⟩=some (.string (eU E z)):=(aO (w:=w) (a:=⟨g,off+z*2,none⟩) (V.out.block g U (by simp))).trans d1;have c1:wr.cell? ⟨g,off+z*2+1,none⟩=some (.int .i64 (jl E z)):=(aO (w:=w) (a:=⟨g,off+z*2+1,none⟩) (V.out.block g U (by simp))).trans d2;have W:=VF.out _ ac;have HC:=au (Tu.out (eU E z) (jl E z));clear d1 d2;rcases XI.out with ⟨e1,e2⟩|⟨e1,e2⟩
    ·have hz:(vI (eU E z) nm==0)=false:=by
      rw[cQ];exact λh=>(W.2.1 h).2 e2
     have mU:Hid (∀w',az [] w w'->kU w A M (.returned (.tuple #[.int .i64 (z:Int),.bool false])) w'):=λw' h=>by have :=I0.out w' h;rwa[e1] at this
     clear W XI e1 e2 VF Tu I0 aa yu;generalize vI (eU E z) nm=cv at *;generalize eU E z=nk at *;generalize jl E z=ik at *;go_wp2_with fail;refine(HC.out _).mono ?_;rintro e w2 ⟨rfl,J⟩;have fL:=au (V.out.trans' J);clear J;go_wp2_with fail;go_ret2;exact mU.out _ fL.out
    ·have hz:(vI (eU E z) nm==0)=true:=by
      rw[beq_iff_eq];exact W.2.2 ⟨rfl,e2⟩
     have mU:Hid (∀w',az [] w w'->kU w A M (.returned (.tuple #[.int .i64 (z:Int),.bool true])) w'):=λw' h=>by have :=I0.out w' h;rwa[e1] at this
     clear W XI e1 e2 VF Tu I0 aa yu;generalize vI (eU E z) nm=cv at *;generalize eU E z=nk at *;generalize jl E z=ik at *;go_wp2_with fail;refine(HC.out _).mono ?_;rintro e w2 ⟨rfl,J⟩;have fL:=au (V.out.trans' J);clear J;go_wp2_with fail;go_ret2;exact mU.out _ fL.out
   ·have mU:Hid (∀w',az [] w w'->kU w A M (.returned (.tuple #[.int .i64 (z:Int),.bool false])) w'):=λw' h=>by
     have :=I0.out w' h;rcases XI.out with ⟨e1,e2⟩|⟨e1,e2⟩
     ·rwa[e1] at this
     ·have :=aa.out e2;omega
    have ar:¬(z:Int)<(m:Int):=by omega
    clear XI VF Tu I0 aa yu;go_wp2_with fail;go_ret2;exact mU.out _ V.out
theorem I1 (V:bC w v g E)(U:iN E A M B nm)(J:E.length<=1000):
  Calls prog 183 #[v,.string nm] w (kU w A M):=by
 have z:=T7 V U J;unfold kU at z;have HB:=au z;have HP:Hid (∀w',az [] w w'->kU w A M (.returned (.tuple #[.int .i64 (A.length:Int),.bool (!M.isEmpty)])) w'):=λw' h=>⟨rfl,h⟩
 clear V U J z;generalize (A.length:Int)=k at *;generalize (!M.isEmpty)=b at *;go_enter func183,ntmps183;go_wp2_with fail;refine HB.out.mono ?_;rintro e w' ⟨rfl,G⟩;have W:=au G;clear G;go_wp2_with fail;go_ret2;exact HP.out _ W.out
def MJ:List (ByteArray×Int)->Int
 | []=>0
 |p::_=>p.2
def A5 (w:World) (M:List (ByteArray×Int)) (e:Ending) (w':World):Prop:=e= .returned (.tuple #[.int .i64 (MJ M),.bool (!M.isEmpty)])/\az [] w w'
theorem iN.mid(h:iN E A M B nm)(z:M≠[]):A.length<E.length/\jl E A.length=MJ M:=by
 obtain⟨i,rfl⟩:=h.one.resolve_left z;have G:A.length<E.length:=by rw[h.eq,aD,aD];simp;omega
 refine⟨G,?_⟩;rw[jl,h.eq,aj,aQ (aI _)];simp[MJ]
theorem Rs (n:bP){v:Value}{g:Nat}{A M B:List (ByteArray×Int)}{nm:ByteArray}(hB:n.B.length=13)(hE:bC w v g n.E)(hs:iN n.E A M B nm)(XH:n.E.length<=1000):
  Calls prog 156 #[.agg (aR n v),.string nm] w (A5 w M):=by
 have dt:az [] w (w.alloc (.cells (aR n v) 111)):=(az.refl [] w).alloc _;have Zu:=I1 (hE.keep dt (by simp)) hs XH;unfold kU at Zu;have J:=au hs.mid;have XI:Hid ((M.isEmpty=true/\M=[])\/(M.isEmpty=false/\M≠[])):=by
  show _\/_;cases M with
  |nil=>exact .inl ⟨rfl,rfl⟩
  |cons a b=>exact .inr ⟨rfl,by simp⟩
 have HP:Hid (∀w',az [] w w'->A5 w M (.returned (.tuple #[.int .i64 (MJ M),.bool (!M.isEmpty)])) w'):=λw' h=>⟨rfl,h⟩
 obtain⟨a,cap,rfl,ai,ac,yu⟩:=hE.open;have aa:=iX (.slice a n.E.length cap) hB;have V:=bh.new w (aR n (.slice a n.E.length cap)) 111;generalize aR n (.slice a n.E.length cap)=Z at *;have Zf:Z[17]? =some (.slice a n.E.length cap):=aa.f5;have af:(w.alloc (.cells Z 111)).cell? ⟨w.heap.size,17,none⟩=some (.slice a n.E.length cap):=by rw[V.cell];exact Zf
 have Oc:=au Zu;have oK:=au V;have fW:=au dt;have ag:=au Zf;unfold maxLen at ac;clear aa V dt Zu Zf hB hE hs;generalize hm:n.E.length=m at *;generalize ah:A.length=k at *;clear hm ah;go_enter func156,ntmps156;go_wp2_with fail;refine Oc.out.mono ?_;rintro e w2 ⟨rfl,z⟩;have fL:=au z;have aj:w2.cell? ⟨w.heap.size,17,none⟩=some (.slice a m cap):=by rw[(oK.out.keep z (by simp)).cell];exact ag.out
 have sy:=au (fW.out.trans' z);clear z af;rcases XI.out with ⟨U,W⟩|⟨U,W⟩
 ·have mU:Hid (∀w',az [] w w'->A5 w M (.returned (.tuple #[.int .i64 0,.bool false])) w'):=λw' h=>by
   have :=HP.out w' h;rw[U,show MJ M=0 by rw[W];rfl] at this;exact this
  rw[U];clear U W XI HP J yu;go_wp2_with fail;go_ret2;exact mU.out _ sy.out
 ·obtain⟨Iz,G⟩:=J.out W
  have mU:Hid (∀w',az [] w w'->A5 w M (.returned (.tuple #[.int .i64 (MJ M),.bool true])) w'):=λw' h=>by
   have :=HP.out w' h;rw[U] at this;exact this
  obtain⟨ae,off,rfl,-,d1⟩:=yu.out k Iz;rw[G] at d1;have c1:w2.cell? ⟨g,off+k*2+1,none⟩=some (.int .i64 (MJ M)):=(aO (w:=w) (a:=⟨g,off+k*2+1,none⟩) (sy.out.block g ae (by simp))).trans d1;rw[U];have Bp:(k:Int)<(m:Int):=by omega
  clear U W XI HP J yu d1 G;generalize MJ M=im at *;go_wp2_with fail;go_ret2;exact mU.out _ sy.out
theorem MK{a:Option Addr}{n:Nat}(h:bC w (.slice a n cap) g E)(k:Nat)(hk:k<=E.length):
  ∃W U,(∀z,(Instr.sliceAt 32 (.slice a n cap) none (some (.int .i64 (k:Int))) none).run prog z= .ok (.slice W k U) z)/\bC w (.slice W k U) g (E.take k):=by
 have V: prog.underlying 32 =some (.slice (prog.elem 32)):=by kernel_rfl
 have he: prog.elem 32 = 87 :=by kernel_rfl
 have hs:∀z:World,(sizeOf 87).run prog z= .ok 2 z:=λz=>by kernel_rfl
 obtain⟨a0,aa,hv,h1,h2,h3⟩:=h;cases hv;have G:(E.take k).length=k:=by rw[aJ];omega
 refine⟨if cap=0 then a else a.map (·.add (0*2)),cap-0,λz=> ?_,_,_,by rw[G],by omega,by omega,λh0=> ?_⟩
 ·rw[jh _ _ _ _ _ _ V,run_slice_h _ _ _ _ _ V .i64 (k:Int) (by omega) (by omega),he,hs]
  simp only[cm,sliced,aH,Nat.sub_zero]
 ·rw[G] at h0
  obtain⟨hg,off,rfl,hc⟩:=h3 (by omega);refine⟨hg,off,by rw[aB (by omega)];simp[add_plain],λj J=> ?_⟩;rw[G] at J;obtain⟨c0,c1⟩:=hc j (by omega);have e:(E.take k).getD j (ByteArray.empty,0)=E.getD j (ByteArray.empty,0):=by simp[J]
  rw[eU,jl,e];exact⟨c0,c1⟩
theorem Kk{a:Option Addr}{n:Nat}(h:bC w (.slice a n cap) g E)(k:Nat)(hk:k<=E.length):
  ∃V J,(∀z,(Instr.sliceAt 32 (.slice a n cap) (some (.int .i64 (k:Int))) none none).run prog z= .ok (.slice V (n-k) J) z)/\bC w (.slice V (n-k) J) g (E.drop k):=by
 have U: prog.underlying 32 =some (.slice (prog.elem 32)):=by kernel_rfl
 have he: prog.elem 32 = 87 :=by kernel_rfl
 have hs:∀z:World,(sizeOf 87).run prog z= .ok 2 z:=λz=>by kernel_rfl
 obtain⟨a0,aa,hv,h1,h2,h3⟩:=h;cases hv;have G:(E.drop k).length=E.length-k:=by rw[bE]
 refine⟨if cap=k then a else a.map (·.add (k*2)),cap-k,λz=> ?_,_,_,by rw[G],by omega,by omega,λh0=> ?_⟩
 ·rw[jh _ _ _ _ _ _ U,run_slice_l _ _ _ _ _ U .i64 (k:Int) (by omega) (by omega),he,hs]
  simp only[cm,sliced,aH]
 ·rw[G] at h0
  obtain⟨hg,off,rfl,hc⟩:=h3 (by omega);refine⟨hg,off+k*2,by rw[aB (by omega)];simp[add_plain],λj W=> ?_⟩;rw[G] at W;obtain⟨c0,c1⟩:=hc (k+j) (by omega);have e:(E.drop k).getD j (ByteArray.empty,0)=E.getD (k+j) (ByteArray.empty,0):=by simp
  rw[show off+k*2+j*2=off+(k+j)*2 by omega,eU,jl,e];exact⟨c0,c1⟩
def FZ (w:World) (g:Nat) (A B:List (ByteArray×Int)) (e:Ending) (w':World):Prop:=
 ∃x y,e= .returned (.tuple #[x,y])/\bC w x g A/\bC w y g B/\az [] w w'
theorem iN.takes(h:iN E A M B nm):E.take A.length=A/\E.drop (A.length+M.length)=B/\E.length=A.length+M.length+B.length/\(M.isEmpty=true->M.length=0)/\(M.isEmpty=false->M.length=1):=by
 refine⟨by rw[h.eq,List.take_left],by rw[h.eq,<-ba,<-aD,List.drop_left],by rw[h.eq,aD,aD];omega,λe=>by rw[List.isEmpty_iff.1 e];rfl,λe=> ?_⟩;rcases h.one with rfl|⟨i,rfl⟩
 ·cases e
 ·rfl
theorem I2 (hE:bC w v g E)(hs:iN E A M B nm)(XH:E.length<=1000):
  Calls prog 185 #[v,.string nm] w (FZ w g A B):=by
 have Zu:=I1 hE hs XH;unfold kU at Zu;obtain⟨t1,t2,t3,t4,t5⟩:=hs.takes;obtain⟨a,cap,hv,-,-,-⟩:=hE.open;subst hv;obtain⟨a1,c1,J,aa⟩:=MK hE A.length (by omega);obtain⟨a2,c2,G,W⟩:=Kk hE (A.length+M.length) (by omega);rw[t1] at aa;rw[t2] at W;have HP:Hid (∀w',az [] w w'->FZ w g A B (.returned (.tuple #[.slice a1 A.length c1,.slice a2 (E.length-(A.length+M.length)) c2])) w'):=λw' h=>⟨_,_,rfl,aa,W,h⟩
 have Oc:=au Zu;have T4:=au t4;have T5:=au t5;have T3:=au t3;have Zb:=au J;have Zc:=au G;clear Zu aa W hE hs t1 t2 t4 t5 J G;generalize hm:E.length=m at *;generalize hk:A.length=k at *;generalize IL:M.length=q at *;clear hm hk IL;have Iz:k+q<=m:=by have :=T3.out;omega
 clear t3;cases hME:M.isEmpty
 ·obtain rfl:=T5.out hME
  rw[hME] at Oc;have J:=Zb.out;have G:=Zc.out;rw[show((k+1:Nat):Int)=(k:Int)+1 by omega] at G;clear T4 T5 hME;have ac:IntKind.i64.wrap ((k:Int)+1)=(k:Int)+1:=eW _ (by omega);go_enter func185,ntmps185;go_wp2_with fail;refine Oc.out.mono ?_;rintro e w2 ⟨rfl,V⟩;have fL:=au V;clear V;go_wp2_with fail;refine dX (S:=λU=>az [] w U) (by kernel_rfl) (by kernel_rfl) (λd _ _ _ _ h=>by cases d<;>exact h) (fL.out.drew) (by kernel_rfl) ?_;repeat (first
   |(refine aK.cons (.slice a1 k c1) (bc.val rfl ?h) ?_;(case h=>(intro U z;clear z;go_simp;(try rw[J]);done));simp only[Act.put,ag,ah,ai])
   |(refine aK.cons (.slice a2 (m-(k+1)) c2) (bc.val rfl ?h) ?_;(case h=>(intro U z;clear z;go_simp;(try rw[G]);done));simp only[Act.put,ag,ah,ai])
   |(refine aK.cons ?_ (bc.val rfl ?h) ?_;(case h=>(intro U z;clear z;go_simp;rfl));simp only[Act.put,ag,ah,ai]))
  refine aK.done λU z=> ?_
  have qB:=au z;clear z;go_wp2_with fail;go_ret2;exact HP.out _ qB.out
 ·obtain rfl:=T4.out hME
  rw[hME] at Oc;have J:=Zb.out;have G:=Zc.out;rw[dR] at G;clear T4 T5 hME;go_enter func185,ntmps185;go_wp2_with fail;refine Oc.out.mono ?_;rintro e w2 ⟨rfl,V⟩;have fL:=au V;clear V;go_wp2_with fail;refine dX (S:=λU=>az [] w U) (by kernel_rfl) (by kernel_rfl) (λd _ _ _ _ h=>by cases d<;>exact h) (fL.out.drew) (by kernel_rfl) ?_;repeat (first
   |(refine aK.cons (.slice a1 k c1) (bc.val rfl ?h) ?_;(case h=>(intro U z;clear z;go_simp;(try rw[J]);done));simp only[Act.put,ag,ah,ai])
   |(refine aK.cons (.slice a2 (m-k) c2) (bc.val rfl ?h) ?_;(case h=>(intro U z;clear z;go_simp;(try rw[G]);done));simp only[Act.put,ag,ah,ai])
   |(refine aK.cons ?_ (bc.val rfl ?h) ?_;(case h=>(intro U z;clear z;go_simp;rfl));simp only[Act.put,ag,ah,ai]))
  refine aK.done λU z=> ?_
  have qB:=au z;clear z;go_wp2_with fail;go_ret2;exact HP.out _ qB.out
theorem zM{P:Program}(w:World)(t tn e:TypeId)(i:TypeInfo)(z:Value)(kq kn:IntKind)(size:Nat)(ht:P.underlying t=some (.slice e))(ac:P.underlying tn=some (.int kn))(hi:P.info? e=some i)(hz:i.zero=some z)(af:i.size=size)(ae:0<size)(W:z.cells.size=size)
  (k:Nat) (h0:0<k) (hk:k<=1000) (G:i.bytes<=64):
  ∃c w',(∀ty,(Builtin.append_ #[t,tn] ty #[.slice none 0 0,.int kq k]).run P w= .ok (.slice (some ⟨w.heap.size,0,none⟩) k c) w')/\k<=c/\w'.ownsRow w.heap.size e size (.slice (some ⟨w.heap.size,0,none⟩) 0 c) 0 []/\az [] w w':=by
 have V:(Builtin.firstCells i.size 0 (.slice none 0 0)).run P w.drew= .ok ([]:List Value).toArray w.drew:=by simp[Builtin.firstCells]
 have aa:Builtin.nextslicecap (0+k) 0<=4*1000+64:=by
  unfold Builtin.nextslicecap;split<;>omega
 have h1:k*i.bytes<=281474976710656:=cD (Nat.mul_le_mul hk G) (by omega);have h2:Builtin.nextslicecap (0+k) 0*i.bytes<=281474976710656:=cD (Nat.mul_le_mul aa G) (by omega);have h:=λty=>Lib.run_append_grow_zeros w t tn ty e i z kq kn ht ac hi hz none 0 0 [] V k h0 (by omega) (by omega) (by omega) h1 h2
 have J:=grownCap_ge w (0+k) 0 e;have U:=grownCap_le_maxLen w (0+k) 0 e (by unfold maxLen;omega);rw[aX] at J U;simp only[aX] at h;refine⟨_,_,h,J,⟨by simp,.inr ⟨w.heap.size,grownCap w k 0 e,_,rfl,aI _,bh.new w.drew _ _,fC _,U,?_,by simp⟩⟩,((az.refl [] w).drew).alloc _⟩;simp[nA,W];rw[<-Nat.add_mul]
 congr 1
 omega
theorem Tryz.info_ent9:(prog.info? 87).map (λi=>(i.zero,i.size,i.bytes))=some (some (.agg #[.string ⟨#[]⟩,.int .i64 0]),2,24):=by kernel_rfl
theorem XJ (k:Nat)(hk:k<=1000)(z:Int)(W:z=(k:Int))(w:World):Calls prog 208 #[.slice none 0 0,.int .i64 z] w λe w'=>
  ∃v,e= .returned v/\w'.ownsRow w.heap.size 87 2 v 0 []/\az [] w w':=by
 rcases eT k with rfl|h0
 ·obtain rfl:z=0:=by omega
  clear W hk;go_enter func208,ntmps208;go_wp2_with fail;go_ret;exact⟨_,rfl,⟨rfl,.inl ⟨rfl,rfl⟩⟩,az.refl _ _⟩
 ·obtain⟨i0,hi,G,U,V⟩:=cP Tryz.info_ent9
  obtain⟨c,w',hr,hc,h,J⟩:=zM (P:= prog) w 32 3 87 i0 _ .i64 .i64 2 underlying32 underlying3 hi G U (by omega) rfl k h0 hk (by rw[V];omega);have h1:¬z<0:=by omega
  have h2:0<z:=by omega
  have h3:wrap64 z=z:=by unfold wrap64;omega
  simp only[<-W] at hr;have HO:=au h;have HK:=au J;have aa:c≠0:=by omega
  have ac:(0:Int)<=(c:Int):=by omega
  clear h J W hi G U V hc;go_enter func208,ntmps208;go_wp2_with(at_builtin;refine wpList_append_run rfl (.tmp 20) (.tmp 21) 32 3 ?_ (.slice none 0 0) (.int .i64 z) ?_ ?_ (hr _) ?_;all_goals first|rfl|skip);go_ret;exact⟨_,rfl,HO.out,HK.out⟩
theorem Kl{a:Option Addr}{m c:Nat}(h:bC w (.slice a m c) g E)(V:m≠0):∃G,a=some G/\∀j u,(eH E)[j]? =some u->w.cell? (G.add j)=some u:=by
 obtain⟨a',c',J,h2,h3,h4⟩:=h;cases J;obtain⟨-,off,rfl,hc⟩:=h4 V;refine⟨_,rfl,λj u z=> ?_⟩;have U:j<(eH E).length:=(List.getElem?_eq_some_iff.1 z).1;rw[jV] at U;obtain⟨W,d1⟩:=hc (j/2) (by omega);obtain⟨e0,e1⟩:=py E (j/2) (by omega);rw[add_plain];rcases Nat.mod_two_eq_zero_or_one j with h|h
 ·rw[show off+j=off+j/2*2 by omega,W,<-e0,show j/2*2=j by omega,z]
 ·rw[show off+j=off+j/2*2+1 by omega,d1,<-e1,show j/2*2+1=j by omega,z]
def oU (Ls:List (List (ByteArray×Int))) (j:Nat):Nat:=(Ls.take j).flatten.length
theorem I3 (Ls:List (List (ByteArray×Int)))(j:Nat)(h:j<Ls.length):(Ls.take (j+1)).flatten=(Ls.take j).flatten++Ls.getD j []:=by
 rw[bJ h,List.flatten_append];simp[h]
theorem PL (Ls:List (List (ByteArray×Int)))(j:Nat)(h:j<Ls.length):oU Ls (j+1)=oU Ls j+(Ls.getD j []).length:=by
 unfold oU;rw[I3 Ls j h,aD]
theorem XK (Ls:List (List (ByteArray×Int)))(j:Nat):oU Ls j<=Ls.flatten.length:=by
 unfold oU;have :=cB List.flatten (eI j Ls);rw[List.flatten_append] at this;rw[<-this,aD];omega
theorem T8 (Ls:List (List (ByteArray×Int))):oU Ls Ls.length=Ls.flatten.length:=by
 unfold oU;rw[gA]
def I4 (w:World) (E:List (ByteArray×Int)) (e:Ending) (w':World):Prop:=∃v g,e= .returned v/\bC w' v g E/\w.heap.size<=g/\az [] w w'
theorem F3{gs T:Nat}{xs:List Value}{Ls:List (List (ByteArray×Int))}(hb:bh w gs xs.toArray T)(hl:xs.length=Ls.length)(hm:xs.length<=10)
  (hr:∀j,j<xs.length->∃g,bC w (xs.getD j (.slice none 0 0)) g (Ls.getD j [])) (hn:Ls.flatten.length<=1000):
  Calls prog 187 #[.slice (some ⟨gs,0,none⟩) xs.length xs.length] w (I4 w Ls.flatten):=by
 obtain⟨i0,hi,ar,ay,aA⟩:=cP Tryz.info_ent9;have HR:Hid (∀j,j<xs.length->∃a c g,xs.getD j (.slice none 0 0)= .slice a (Ls.getD j []).length c/\bC w (.slice a (Ls.getD j []).length c) g (Ls.getD j [])/\(Ls.getD j []).length<=c/\∀J,az [] w J->J.cell? ⟨gs,j,none⟩=some (.slice a (Ls.getD j []).length c)):=λj hj=>by
  obtain⟨g,hE⟩:=hr j hj;obtain⟨a,c,hv,h1,h2,-⟩:=hE.open;refine⟨a,c,g,hv,by rw[hv] at hE;exact hE,h1,λJ hk=> ?_⟩;rw[(hb.keep hk (by simp)).cell,aF,<-hv,aj,aG hj];rfl
 have af:Hid (∀j,j<xs.length->oU Ls (j+1)=oU Ls j+(Ls.getD j []).length/\(Ls.take (j+1)).flatten=(Ls.take j).flatten++Ls.getD j []):=λj hj=>⟨PL Ls j (by omega),I3 Ls j (by omega)⟩
 have Vx:Hid (∀j,oU Ls j<=1000):=λj=>cD (XK Ls j) hn
 have W:Hid (oU Ls xs.length=Ls.flatten.length/\(Ls.take xs.length).flatten=Ls.flatten):=by
  show _/\_;rw[hl];exact⟨T8 Ls,by rw[gA]⟩
 clear hr hb hl hn;generalize av:xs.length=m at *;clear av;have ac:=λ(k:Nat) (hk:k<=1000) (ki:Int) (Bp:ki=(k:Int)) J=>XJ k hk ki Bp J
 have HG:=au ac;clear ac;go_enter func187,ntmps187;go_wp2_with fail;go_loopg [3,11] m (λgh s3 KR J=>∃j:Nat,j+gh=m/\KR= .int .i64 (j:Int)/\s3= .int .i64 ((oU Ls j:Nat):Int)/\w=J)
 case atStart=>exact⟨0,by omega,rfl,rfl,rfl⟩
 case round=>
  obtain⟨j,hj,rfl,rfl,rfl⟩:=hrel;cases gk with
  |succ gg=>
   have ai:j<m:=by omega
   have OL:(j:Int)<(m:Int):=by omega
   have BI:(0:Int)<=(j:Int):=by omega
   obtain⟨a,c,g,-,-,aa,G⟩:=HR.out j ai;have c0:=G w (az.refl _ _);obtain⟨z,-⟩:=af.out j ai;have V:=Vx.out (j+1);have HQ:Hid (((oU Ls (j+1):Nat):Int)=((oU Ls j:Nat):Int)+(((Ls.getD j []).length:Nat):Int)):=by show _=_;omega
   rw[z] at V;clear z G aa;generalize oU Ls j=q at *;generalize (Ls.getD j []).length=l at *;have aC:¬(q:Int)+(l:Int)<0:=by omega
   go_wp2_with fail;go_roundg gg;case measure=>omega
   case rel=>exact⟨j+1,by omega,by go_num,by rw[HQ.out],rfl⟩
  |zero=>
   obtain rfl:j=m:=by omega
   have V:=Vx.out j;have ae:=HG.out (oU Ls j) V _ rfl w;clear HG;go_wp2_with fail;refine ae.mono ?_;rintro e w1 ⟨v0,rfl,h,ag⟩;have HO:=au h;have HK:=au ag;clear h ag ae;go_wp2_with fail;go_loopg [6,27] j (λgh s6 s27 J=>∃i:Nat,i+gh=j/\s27= .int .i64 (i:Int)/\Hid (J.ownsRow w.heap.size 87 2 s6 (oU Ls i) (eH (Ls.take i).flatten)/\az [] w J))
   case atStart=>exact⟨0,by omega,rfl,HO.out,HK.out⟩
   case round=>
    clear HO HK;obtain⟨i,aH,rfl,HP⟩:=hrel;obtain⟨h,U⟩:=HP.out;cases gk with
    |zero=>
     obtain rfl:i=j:=by omega
     have HM:Hid (I4 w Ls.flatten (.returned u6) wr):=by
      obtain⟨g,ho,hg⟩:=fp.of_row h;rw[W.out.1,W.out.2] at ho;by_cases h0:Ls.flatten.length=0
      ·exact⟨u6,w.heap.size,rfl,(ho.anyG h0 w.heap.size).ereads rfl,aI _,U⟩
      ·exact⟨u6,g,rfl,ho.ereads rfl,(hg (by rw[W.out.1];exact h0)).1,U⟩
     clear h U HP;go_wp2_with fail;go_ret;exact HM.out
    |succ gg=>
     have ah:i<j:=by omega
     have aB:(i:Int)<(j:Int):=by omega
     have aD:(0:Int)<=(i:Int):=by omega
     obtain⟨a,c,g,-,hE,aa,G⟩:=HR.out i ah;have e0:=G _ U;obtain⟨z,ak⟩:=af.out i ah;have ax:=Vx.out (i+1);rw[z] at ax;obtain⟨v',w',hr,ho,hg⟩:=lG (P:= prog) 32 87 32 i0 _ 2 24 underlying32 hi ar ay aA rfl (by omega) w.heap.size (oU Ls i) _ _ h a (Ls.getD i []).length c (eH (Ls.getD i [])) (jV _) (Kl (hE.keep U (by simp))) (uV _) (by unfold maxLen;omega) (by omega) U.size;have HN:Hid (w'.ownsRow w.heap.size 87 2 v' (oU Ls (i+1)) (eH (Ls.take (i+1)).flatten)/\az [] w w'):=by
      refine⟨?_,U.grown hg (cZ h)⟩;rw[z,ak,nr];exact ho
     clear h U HP ho hg G z ak hE aa;generalize (Ls.getD i []).length=l at *;go_wp2_with(at_builtin;refine wpList_append_run rfl (.tmp 31) (.tmp 32) 32 32 ?_ u6 (.slice a l c) ?_ ?_ hr ?_;all_goals first|rfl|skip);go_roundg gg;case measure=>omega
     case rel=>exact⟨i+1,by omega,by go_num,HN.out⟩
def kH (n:bP) (E:List (ByteArray×Int)):bP:={ n with S:=(E.length:Int),E:=E }
theorem PN (n:bP)(v u:Value)(E:List (ByteArray×Int))(h:n.B.length=13)(m:Int)(J:m=(E.length:Int)):((aR n v).setIfInBounds 17 u).setIfInBounds 3 (.int .i64 m)=aR (kH n E) u:=by
 subst J;have z:aR n v=(([.int .i64 n.F,.int .i64 n.K,.int .i64 n.L,.int .i64 n.S]:List Value)++(zs n.B++[v])).toArray:=rfl;have G:(([.int .i64 n.F,.int .i64 n.K,.int .i64 n.L,.int .i64 n.S]:List Value)++(zs n.B++[v])).set 17 u=([.int .i64 n.F,.int .i64 n.K,.int .i64 n.L,.int .i64 n.S]:List Value)++(zs n.B++[u]):=by
  rw[dx _ _ (by simp),dx _ _ (by rw[eF,h];simp),eF,h];rfl
 rw[z,ag,ag,G];rfl
theorem I5 (n:bP)(v:Value)(hB:n.B.length=13){a:Option Addr}{c:Nat}(E:List (ByteArray×Int))(m:Nat)(hm:m=E.length):
  Calls prog 186 #[.agg (aR n v),.slice a m c] w λe w'=>e= .returned (.agg (aR (kH n E) (.slice a m c)))/\az [] w w':=by
 have hl:(aR n v).size=18:=by rw[aR,bN,gU,hB]
 have U:(aR cr (.slice none 0 0)).size=18:=rfl;have aa:=iX v hB;have Zu:=PN n v (.slice a m c) E hB (m:Int) (by omega);have z:∀u∈mo (kH n E) (.slice a m c),u.oneCell'=true:=ku rfl;have ae:=eA;have ac:aR (kH n E) (.slice a m c)=(mo (kH n E) (.slice a m c)).toArray:=rfl;have h:(mo (kH n E) (.slice a m c)).length=18:=by rw[gU];show n.B.length+5=18;omega
 generalize aR cr (.slice none 0 0)=V at *;generalize aR n v=Z at *;generalize aR (kH n E) (.slice a m c)=Z1 at *;generalize mo (kH n E) (.slice a m c)=W at *;subst ac;have G:=(bh.new w ((Z.setIfInBounds 17 (.slice a m c)).setIfInBounds 3 (.int .i64 (m:Int))) 111).alloc (.cells V 111);have rI:=bh.new (w.alloc (.cells ((Z.setIfInBounds 17 (.slice a m c)).setIfInBounds 3 (.int .i64 (m:Int))) 111)) V 111;rw[show(w.alloc (.cells ((Z.setIfInBounds 17 (.slice a m c)).setIfInBounds 3 (.int .i64 (m:Int))) 111)).heap.size=w.heap.size+1 by simp] at rI;have J:az [] w ((w.alloc (.cells ((Z.setIfInBounds 17 (.slice a m c)).setIfInBounds 3 (.int .i64 (m:Int))) 111)).alloc (.cells V 111)):=((az.refl [] w).alloc _).alloc _;have p9:Hid ((loadVar 111 ⟨w.heap.size,0,none⟩).run prog ((w.alloc (.cells ((Z.setIfInBounds 17 (.slice a m c)).setIfInBounds 3 (.int .i64 (m:Int))) 111)).alloc (.cells V 111))= .ok (.agg W.toArray) ((w.alloc (.cells ((Z.setIfInBounds 17 (.slice a m c)).setIfInBounds 3 (.int .i64 (m:Int))) 111)).alloc (.cells V 111))):=
  bW _ 0 W underlying111 rfl (by rw[h];exact iY) λj _=>by rw[G.cell,Zu,aX,aF]
 obtain⟨w5,q1,q2,q3⟩:=bB (P:= prog) (ty:= 111) (cs:=W) (by rw[h];exact iY) rI (by rw[h];exact U) z;have HS:=au q1;have IH:Hid ((loadVar 111 ⟨w.heap.size+1,0,none⟩).run prog w5= .ok (.agg W.toArray) w5):=
  bW _ 0 W underlying111 rfl (by rw[h];exact iY) λj _=>by rw[q2.cell,aX,aF]
 have iZ:Hid (az [] w w5):=J.trans q3 (by intro x hx;rw[ay] at hx;omega);have TM:17<Z.size:=by omega
 have af:3<Z.size:=by omega
 clear G rI J aa Zu z hl U q1 q2 q3 hm hB h;go_enter func186,ntmps186;go_wp2_with(first|(with_reducible refine gL 111 p9.out ?_)|(with_reducible refine gS 111 HS.out ?_));exact aL (b9 results186 rfl IH.out) rfl ⟨rfl,iZ.out⟩
def uu (w:World) (n:bP) (L:List (ByteArray×Int)) (e:Ending) (w':World):Prop:=∃u g,e= .returned (.agg (aR (kH n L) u))/\bC w' u g L/\w.heap.size<=g/\az [] w w'
theorem ahY (w:World)(x:ByteArray)(i:Int)(g T:Nat)(h:bh w g #[.string x,.int .i64 i] T):bC w (.slice (some ⟨g,0,none⟩) 1 1) g [(x,i)]:=
 ⟨_,1,rfl,aI _,by unfold maxLen;omega,λ_=>⟨h.lt,0,rfl,λj z=>by
  obtain rfl:j=0:=by simpa using z
  exact⟨by rw[h.cell];rfl,by rw[h.cell];rfl⟩⟩⟩
theorem afZ (z:P 0)(h:P 1)(G:P 2):∀j,j<3->P j:=λj J=>by
 rcases (show j=0\/j=1\/j=2 by omega) with rfl|rfl|rfl
 ·exact z
 ·exact h
 ·exact G
theorem af0 (z:P 0)(h:P 1):∀j,j<2->P j:=λj G=>by
 rcases (show j=0\/j=1 by omega) with rfl|rfl
 ·exact z
 ·exact h
theorem iN.newLen(h:iN E A M B nm)(i:Int):(A++([(nm,i)]++B)).length<=E.length+1/\(A++B).length<=E.length:=by
 rw[h.eq];simp only[aD,bQ,b8];omega
theorem XL (n:bP){v:Value}{g:Nat}{A M B:List (ByteArray×Int)}{nm:ByteArray}(i:Int)(hB:n.B.length=13)(hE:bC w v g n.E)(hs:iN n.E A M B nm)(XH:n.E.length<=500):
  Calls prog 158 #[.agg (aR n v),.agg #[.string nm,.int .i64 i]] w (uu w n (A++([(nm,i)]++B))):=by
 have KS:=hs.newLen i;obtain⟨L,hL⟩:∃L,A++([(nm,i)]++B)=L:=⟨_,rfl⟩;rw[hL] at KS ⊢;have HL:=au hL;have av:(aR cr (.slice none 0 0)).size=18:=rfl;have aV:=eA;have aj:=((bh.new w (aR n v) 111).alloc (.cells #[.string nm,.int .i64 i] 87)).alloc (.cells (aR cr (.slice none 0 0)) 111);have ac:=(bh.new (w.alloc (.cells (aR n v) 111)) #[.string nm,.int .i64 i] 87).alloc (.cells (aR cr (.slice none 0 0)) 111);have af:=bh.new ((w.alloc (.cells (aR n v) 111)).alloc (.cells #[.string nm,.int .i64 i] 87)) (aR cr (.slice none 0 0)) 111;rw[show(w.alloc (.cells (aR n v) 111)).heap.size=w.heap.size+1 by simp] at ac;rw[show((w.alloc (.cells (aR n v) 111)).alloc (.cells #[.string nm,.int .i64 i] 87)).heap.size=w.heap.size+2 by simp] at af;have ae:az [] w (((w.alloc (.cells (aR n v) 111)).alloc (.cells #[.string nm,.int .i64 i] 87)).alloc (.cells (aR cr (.slice none 0 0)) 111)):=(((az.refl [] w).alloc _).alloc _).alloc _;have aC:=I2 (hE.keep ae (by simp)) hs (by omega);have AO:Hid (L.length<=1000):=by show _<=_;omega
 have aB:=iX v hB;have aa:∀u:Value,u.oneCell'=true->∀x∈mo (kH n L) u,x.oneCell'=true:=λu hu=>ku hu
 have XM:=au aa;have aK:Hid (∀U a c,Calls prog 186 #[.agg (aR n v),.slice a L.length c] U λe w'=>e= .returned (.agg (aR (kH n L) (.slice a L.length c)))/\az [] U w'):=λU a c=>I5 n v hB L _ rfl
 have aG:∀u,(mo (kH n L) u).length=18:=λu=>by rw[gU];show n.B.length+5=18;omega
 have EJ:=au aG;obtain⟨a,cap,rfl,aM,aJ,-⟩:=hE.open;have Zf:=aB.f5;have aS:Hid (∀U,bh U w.heap.size (aR n (.slice a n.E.length cap)) 111->(loadVar 111 ⟨w.heap.size,0,none⟩).run prog U= .ok (.agg (aR n (.slice a n.E.length cap))) U):=λU hb=>ct hb hB
 generalize aR cr (.slice none 0 0)=Z0 at *;generalize aR n (.slice a n.E.length cap)=Z at *;have aU:(((w.alloc (.cells Z 111)).alloc (.cells #[.string nm,.int .i64 i] 87)).alloc (.cells Z0 111)).cell? ⟨w.heap.size,17,none⟩=some (.slice a n.E.length cap):=by rw[aj.cell];exact Zf
 have ax:=au aC;have oK:=au aj;have tM:=au ac;have o7:=au af;have fL:=au ae;have H0:=au av;clear aC aj ac af ae aB aa aG av hE hs KS XH Zf hB aM aJ hL;go_enter func158,ntmps158;go_wp2_with fail;refine ax.out.mono ?_;rintro e G ⟨x,y,rfl,V,hy,J⟩;obtain⟨a1,c1,aO,-,-,-⟩:=V.open;obtain⟨a2,c2,aQ,-,-,-⟩:=hy.open;subst aO aQ;have aD:w.heap.size+3<=G.heap.size:=by have :=J.size;simp at this;omega
 have aA:=au aD;have oK:=au (oK.out.keep J (by simp));have tM:=au (tM.out.keep J (by simp));have o7:=au (o7.out.keep J (by simp));have mV:=au (fL.out.trans' J);have HX:=au (V.keep J (by simp));have HY:=au (hy.keep J (by simp));clear V hy J ax aD aU;go_wp2_with fail;refine jX (S:=λU=>az [w.heap.size+2] G U) [0,1,2,4] [3,5,6,7,8] (l:=[_,_,_,_]) (tl:=[_,_,_,_,_]) (by kernel_rfl) (by kernel_rfl) (by kernel_rfl) (by kernel_rfl) rfl rfl rfl rfl rfl (λd _ _ _ _ h=>by cases d<;>exact h) (az.refl _ _).drew ?_;refine cN.cons _ (YieldsIf.load rfl 111 (.tmp 2) rfl _ rfl λU V=>aS.out U (oK.out.keep V (by simp))) ?_;simp only[Act.put,ag];refine cN.cons ?_ (YieldsIf.val rfl ?h) ?_;(case h=>(intro U V;clear V;go_simp;rfl));simp only[Act.put];refine cN.cons _ (YieldsIf.load rfl 87 (.tmp 3) rfl _ rfl λU V=>zK (by rw[(tM.out.keep V (by simp)).cell];rfl) (by rw[(tM.out.keep V (by simp)).cell];rfl)) ?_;simp only[Act.put];refine cN.cons ?_ (YieldsIf.val rfl ?h) ?_;(case h=>(intro U V;clear V;go_simp;rfl));simp only[Act.put];refine cN.done ?_;unfold gI;go_wp2_with fail;refine⟨((az.refl _ _).drew).alloc _,?_⟩;unfold gI;go_wp2_with fail;refine⟨(((az.refl _ _).drew).alloc _).alloc _,?_⟩;unfold gI;have j6:az [] G (((G.alloc (.cells #[.string nm,.int .i64 i] 87)).alloc (.cells #[.slice a1 A.length c1,.slice (some ⟨G.heap.size,0,none⟩) 1 1,.slice a2 B.length c2] 32)).drew):=(((az.refl _ _).alloc _).alloc _).drew;have rI:bh (((G.alloc (.cells #[.string nm,.int .i64 i] 87)).alloc (.cells #[.slice a1 A.length c1,.slice (some ⟨G.heap.size,0,none⟩) 1 1,.slice a2 B.length c2] 32)).drew) G.heap.size #[.string nm,.int .i64 i] 87 :=((bh.new G _ _).alloc _).drew;have yP:bh (((G.alloc (.cells #[.string nm,.int .i64 i] 87)).alloc (.cells #[.slice a1 A.length c1,.slice (some ⟨G.heap.size,0,none⟩) 1 1,.slice a2 B.length c2] 32)).drew) (G.heap.size+1) ([.slice a1 A.length c1,.slice (some ⟨G.heap.size,0,none⟩) 1 1,.slice a2 B.length c2]:List Value).toArray 32 :=by
  have :=(bh.new (G.alloc (.cells #[.string nm,.int .i64 i] 87)) #[.slice a1 A.length c1,.slice (some ⟨G.heap.size,0,none⟩) 1 1,.slice a2 B.length c2] 32).drew;rwa[show(G.alloc (.cells #[.string nm,.int .i64 i] 87)).heap.size=G.heap.size+1 by simp] at this
 have ak:[A,[(nm,i)],B].flatten=L:=by rw[<-HL.out];simp
 have ar:=HX.out.keep j6 (by simp);have aI:=HY.out.keep j6 (by simp);have aN:=ahY _ nm i _ _ rI;have W:=F3 (Ls:=[A,[(nm,i)],B]) yP rfl (by simp)
  (afZ (P:=λj=>∃g,bC (((G.alloc (.cells #[.string nm,.int .i64 i] 87)).alloc (.cells #[.slice a1 A.length c1,.slice (some ⟨G.heap.size,0,none⟩) 1 1,.slice a2 B.length c2] 32)).drew) (([.slice a1 A.length c1,.slice (some ⟨G.heap.size,0,none⟩) 1 1,.slice a2 B.length c2]:List Value).getD j (.slice none 0 0)) g ([A,[(nm,i)],B].getD j [])) ⟨g,ar⟩ ⟨_,aN⟩ ⟨g,aI⟩)
  (by rw[ak];exact AO.out)
 rw[ak] at W;have Mt:=au W;have qG:=au j6;clear W j6 rI yP ak ar aI aN;go_wp2_with fail;refine Mt.out.mono ?_;rintro e w6 ⟨u,gu,rfl,hu,Zr,kG⟩;obtain⟨a6,c6,aT,-,-,-⟩:=hu.open;subst aT;have o8:=au (qG.out.trans' kG);have HU:=au hu;have aH:Hid (G.heap.size<=gu):=cD qG.out.size Zr;clear hu Zr kG Mt qG;have HV:=au (aK.out w6 a6 c6);have XN:=au (XM.out (.slice a6 L.length c6) rfl);have PO:=au (EJ.out (.slice a6 L.length c6));have QY:Hid (aR (kH n L) (.slice a6 L.length c6)=(mo (kH n L) (.slice a6 L.length c6)).toArray):=rfl;have LZ:Hid (∀w',bC w' (.slice a6 L.length c6) gu L->az [] w w'->uu w n L (.returned (.agg (aR (kH n L) (.slice a6 L.length c6)))) w'):=λw' h1 h2=>⟨_,gu,rfl,h1,by have :=aH.out;have :=aA.out;omega,h2⟩
 clear XM EJ aK;generalize aR (kH n L) (.slice a6 L.length c6)=Z6 at *;generalize mo (kH n L) (.slice a6 L.length c6)=ZL at *;generalize L.length=m at *;go_wp2_with fail;refine⟨o8.out.mono (by simp),?_⟩;unfold gI;go_wp2_with fail;refine HV.out.mono ?_;rintro e w7 ⟨rfl,zW⟩;have GD:=au (o8.out.trans' zW);have aP:=au (HU.out.keep zW (by simp));obtain⟨w8,q1,q2,q3⟩:=bB (P:= prog) (ty:= 111) (cs:=ZL) (by rw[PO.out];exact iY) (o7.out.keep GD.out (by simp)) (by rw[PO.out];exact H0.out) XN.out;rw[<-QY.out] at q1;have HS:=au q1;have Hc:Hid ((loadVar 111 ⟨w.heap.size+2,0,none⟩).run prog w8= .ok (.agg Z6) w8):=by
  rw[QY.out];exact bW _ 0 ZL underlying111 rfl (by rw[PO.out];exact iY) λj _=>by rw[q2.cell,aX,aF]
 have Pm:=au ((GD.out.mono (l':=[w.heap.size+2]) (by simp)).trans' q3);have HF:=au (LZ.out w8 (aP.out.keep q3 (by have :=aH.out;have :=aA.out;intro _ h;rw[ay] at h;omega)) (mV.out.trans Pm.out (by intro z hz;rw[ay] at hz;omega)));clear q1 q2 q3 zW HV LZ;go_wp2_with fail;refine⟨GD.out.mono (by simp),?_⟩;unfold gI;refine pn rfl 111 (.tmp 4) (.tmp 22) rfl ⟨w.heap.size+2,0,none⟩ rfl (.agg Z6) rfl w8 HS.out ?_;go_wp2_with fail;refine⟨Pm.out,?_⟩;unfold gI;go_wp2_with fail;exact aL (b9 results158 rfl Hc.out) rfl HF.out
def Ef:ByteArray:=⟨#[97]⟩
theorem dc{T:Nat}{h:Array Value}(J:bh w g h T)(U:h.size=18)(z:n.B.length=13)(G:v.oneCell'=true):
  ∃w',(storeVar 111 ⟨g,0,none⟩ (.agg (aR n v))).run prog w= .ok () w'/\bh w' g (aR n v) T/\az [g] w w':=
 bB (P:= prog) (ty:= 111) (cs:=mo n v) (by rw[gU,z];exact iY) J (by rw[U,gU,z]) (ku G)
theorem bC.one(h:bC w v g E):v.oneCell'=true:=by
 obtain⟨a,cap,rfl,-⟩:=h;rfl
end Go.Proofs.YtepbpdipenedhaaGreatDoor
