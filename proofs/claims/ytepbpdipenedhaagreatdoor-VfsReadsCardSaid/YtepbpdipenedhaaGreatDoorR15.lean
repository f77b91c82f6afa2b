/- Lemmas. -/
import Derived.Test.YtepbpdipenedhaaGreatDoorR14
import Derived.Laws.StructEq
namespace Go.Proofs.YtepbpdipenedhaaGreatDoor
open Go.RowKit
open Go.RowKit
open Go.RowKit
variable{w:World}{g:Nat}
end Go.Proofs.YtepbpdipenedhaaGreatDoor
namespace Go.Proofs.YtepbpdipenedhaaGreatDoor
open Go.RowKit
variable{w:World}{g:Nat}
theorem abk{T:Nat}{n:bP}{v:Value}(z:bh w g (aR n v) T)(x:Int):bh (w.setCell ⟨g,0,none⟩ (.int .i64 x)) g (aR { n with F:=x } v) T:=by
 have :=z.set 0 (.int .i64 x);have e:(aR n v).setIfInBounds 0 (.int .i64 x)=aR { n with F:=x } v:=by
  have h:aR n v=((.int .i64 n.F:Value)::([.int .i64 n.K,.int .i64 n.L,.int .i64 n.S]++(zs n.B++[v]))).toArray:=rfl;rw[h,ag,ah];rfl
 rw[e] at this;exact this
theorem sZ{X Y:List Int}(h:∀c,c<256->c≠0->dC Y c=dC X c):aZ Y=aZ X:=by
 unfold aZ gW;apply iE;intro c G;by_cases z:c=0
 ·subst z;simp
 ·rw[h c (bX.1 G) z]
end Go.Proofs.YtepbpdipenedhaaGreatDoor
namespace Go.Proofs.YtepbpdipenedhaaGreatDoor
open Go.RowKit
open Go.RowKit
variable{w:World}{g:Nat}
end Go.Proofs.YtepbpdipenedhaaGreatDoor
namespace Go.Proofs.YtepbpdipenedhaaGreatDoor
open Go.RowKit
variable{w:World}{g:Nat}
def nT (T:List (bP×Value)) (i:Nat):bP:=(T.getD i (cr,.slice none 0 0)).1
theorem adC{T:List (bP×Value)}{i:Nat}(z:i<T.length)(n:bP)(v:Value)(j:Nat):nT (T.set i (n,v)) j=if i=j then n else nT T j:=by
 unfold nT;rw[aj,fg];by_cases h:i=j
 ·subst h;simp[z]
 ·rw[aB h,aB h,aj]
def abl:List (bP×Value):=List.replicate 32 (cr,.slice none 0 0)
def afX (T:List (bP×Value)):Prop:=∀i,i<32->0<(nT T i).F->bZ (nT T i)
theorem zK{off:Nat}{s:ByteArray}{x:Int}(G:w.cell? ⟨g,off,none⟩=some (.string s))(h:w.cell? ⟨g,off+1,none⟩=some (.int .i64 x)):
  (loadVar 87 ⟨g,off,none⟩).run Tryz.prog w= .ok (.agg #[.string s,.int .i64 x]) w:=
 bW g off [.string s,.int .i64 x] Tryz.underlying87 rfl Fb λj z=>by
  rcases (show j=0\/j=1 by have :j<2:=z;omega) with rfl|rfl
  ·exact G
  ·exact h
end Go.Proofs.YtepbpdipenedhaaGreatDoor
