/- Lemmas. -/
import Derived.Test.YtcecbdeamjigiaaGreatDoorH14
import Derived.Laws.StructEq
namespace Go.Proofs.YtcecbdeamjigiaaGreatDoor
open Go.RowKit
open Go.RowKit
open Go.RowKit
open Go.RowKit
end Go.Proofs.YtcecbdeamjigiaaGreatDoor
namespace Go.Proofs.YtcecbdeamjigiaaGreatDoor
open Go.RowKit
theorem uQ {X Y:List Int}(h:∀c,c<256->c≠0->cT Y c=cT X c):bb Y=bb X:=by
 unfold bb fk;apply fR;intro c z;by_cases y:c=0
 ·subst y;simp
 ·rw[h c (bS.1 z) y]
end Go.Proofs.YtcecbdeamjigiaaGreatDoor
namespace Go.Proofs.YtcecbdeamjigiaaGreatDoor
open Go.RowKit
open Go.RowKit
end Go.Proofs.YtcecbdeamjigiaaGreatDoor
namespace Go.Proofs.YtcecbdeamjigiaaGreatDoor
open Go.RowKit
def nT (T:List (bM×Value)) (i:Nat):bM:=(T.getD i (cB,.slice none 0 0)).1
theorem aas {T:List (bM×Value)}{i:Nat}(y:i<T.length)(n:bM)(v:Value)(j:Nat):nT (T.set i (n,v)) j=if i=j then n else nT T j:=by
 unfold nT;rw[aj,er];by_cases h:i=j
 ·subst h;simp[y]
 ·rw[aA h,aA h,aj]
def WG:List (bM×Value):=List.replicate 32 (cB,.slice none 0 0)
def acD (T:List (bM×Value)):Prop:=∀i,i<32->0<(nT T i).F->bP (nT T i)
theorem vN {w:World}{g off:Nat}{s:ByteArray}{x:Int}(h:w.cell? ⟨g,off,none⟩=some (.string s))(y:w.cell? ⟨g,off+1,none⟩=some (.int .i64 x)):
  (loadVar 88 ⟨g,off,none⟩).run Tryz.prog w= .ok (.agg #[.string s,.int .i64 x]) w:=
 bT g off [.string s,.int .i64 x] Tryz.underlying88 rfl BL λj z=>by
  rcases (show j=0\/j=1 by have :j<2:=z;omega) with rfl|rfl
  ·exact h
  ·exact y
end Go.Proofs.YtcecbdeamjigiaaGreatDoor
