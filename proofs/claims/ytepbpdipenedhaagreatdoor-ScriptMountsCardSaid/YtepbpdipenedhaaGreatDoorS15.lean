/- Lemmas. -/
import Derived.Test.YtepbpdipenedhaaGreatDoorS14
import Derived.Laws.StructEq
namespace Go.Proofs.YtepbpdipenedhaaGreatDoor
open Go.RowKit
open Go.RowKit
open Go.RowKit
open Go.RowKit
end Go.Proofs.YtepbpdipenedhaaGreatDoor
namespace Go.Proofs.YtepbpdipenedhaaGreatDoor
open Go.RowKit
theorem vB {X Y:List Int}(h:∀c,c<256->c≠0->dx Y c=dx X c):bp Y=bp X:=by
 unfold bp fG;apply gF;intro c z;by_cases y:c=0
 ·subst y;simp
 ·rw[h c (bP.1 z) y]
end Go.Proofs.YtepbpdipenedhaaGreatDoor
namespace Go.Proofs.YtepbpdipenedhaaGreatDoor
open Go.RowKit
open Go.RowKit
end Go.Proofs.YtepbpdipenedhaaGreatDoor
namespace Go.Proofs.YtepbpdipenedhaaGreatDoor
open Go.RowKit
def nT (T:List (bN×Value)) (i:Nat):bN:=(T.getD i (cX,.slice none 0 0)).1
theorem ZX {T:List (bN×Value)}{i:Nat}(y:i<T.length)(n:bN)(v:Value)(j:Nat):nT (T.set i (n,v)) j=if i=j then n else nT T j:=by
 unfold nT;rw[aj,eB];by_cases h:i=j
 ·subst h;simp[y]
 ·rw[aA h,aA h,aj]
def We:List (bN×Value):=List.replicate 32 (cX,.slice none 0 0)
def aca (T:List (bN×Value)):Prop:=∀i,i<32->0<(nT T i).F->bR (nT T i)
theorem wu {w:World}{g off:Nat}{s:ByteArray}{x:Int}(y:w.cell? ⟨g,off,none⟩=some (.string s))(z:w.cell? ⟨g,off+1,none⟩=some (.int .i64 x)):
  (loadVar 87 ⟨g,off,none⟩).run Tryz.prog w= .ok (.agg #[.string s,.int .i64 x]) w:=
 bE g off [.string s,.int .i64 x] Tryz.underlying87 rfl BR λj h=>by
  rcases (show j=0\/j=1 by have :j<2:=h;omega) with rfl|rfl
  ·exact y
  ·exact z
end Go.Proofs.YtepbpdipenedhaaGreatDoor
