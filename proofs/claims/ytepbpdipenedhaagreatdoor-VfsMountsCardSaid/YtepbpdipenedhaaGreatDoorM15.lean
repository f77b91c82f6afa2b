/- Lemmas. -/
import Derived.Test.YtepbpdipenedhaaGreatDoorM14
import Derived.Laws.StructEq
namespace Go.Proofs.YtepbpdipenedhaaGreatDoor
open Go.RowKit
section
variable{w:World}{g:Nat}
theorem abW{T:Nat}{n:bT}{v:Value}(z:bh w g (aM n v) T)(x:Int):bh (w.setCell ⟨g,0,none⟩ (.int .i64 x)) g (aM { n with F:=x } v) T:=by
 have :=z.set 0 (.int .i64 x);have e:(aM n v).setIfInBounds 0 (.int .i64 x)=aM { n with F:=x } v:=by
  have h:aM n v=((.int .i64 n.F:Value)::([.int .i64 n.K,.int .i64 n.L,.int .i64 n.S]++(zs n.B++[v]))).toArray:=rfl;rw[h,ag,ah];rfl
 rw[e] at this;exact this
theorem uJ{X Y:List Int}(h:∀c,c<256->c≠0->dF Y c=dF X c):aZ Y=aZ X:=by
 unfold aZ gY;apply iH;intro c G;by_cases z:c=0
 ·subst z;simp
 ·rw[h c (bW.1 G) z]
end
section
open Go.RowKit
variable{w:World}{g:Nat}
end
section
variable{w:World}{g:Nat}
def nT (T:List (bT×Value)) (i:Nat):bT:=(T.getD i (cg,.slice none 0 0)).1
theorem aer{T:List (bT×Value)}{i:Nat}(z:i<T.length)(n:bT)(v:Value)(j:Nat):nT (T.set i (n,v)) j=if i=j then n else nT T j:=by
 unfold nT;rw[aj,eT];by_cases h:i=j
 ·subst h;simp[z]
 ·rw[aA h,aA h,aj]
def abX:List (bT×Value):=List.replicate 32 (cg,.slice none 0 0)
def ag0 (T:List (bT×Value)):Prop:=∀i,i<32->0<(nT T i).F->cm (nT T i)
theorem AE{off:Nat}{s:ByteArray}{x:Int}(G:w.cell? ⟨g,off,none⟩=some (.string s))(h:w.cell? ⟨g,off+1,none⟩=some (.int .i64 x)):
  (loadVar 87 ⟨g,off,none⟩).run Tryz.prog w= .ok (.agg #[.string s,x]) w:=
 b7 g off [.string s,.int .i64 x] Tryz.underlying87 rfl Ge λj z=>by
  rcases (show j=0\/j=1 by have :j<2:=z;omega) with rfl|rfl
  ·exact G
  ·exact h
end
end Go.Proofs.YtepbpdipenedhaaGreatDoor
