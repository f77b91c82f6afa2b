/- Lemmas. -/
import Derived.Test.YtimcfdnbpkiniaaGreatDoorM14
import Derived.Laws.StructEq
namespace Go.Proofs.YtimcfdnbpkiniaaGreatDoor
open Go.RowKit
section
variable{w:World}{g:Nat}
theorem ab2{T:Nat}{n:bT}{v:Value}(z:bh w g (aM n v) T)(x:Int):bh (w.setCell ⟨g,0,none⟩ (.int .i64 x)) g (aM { n with F:=x } v) T:=by
 have :=z.set 0 (.int .i64 x);have e:(aM n v).setIfInBounds 0 (.int .i64 x)=aM { n with F:=x } v:=by
  have h:aM n v=((.int .i64 n.F:Value)::([.int .i64 n.K,.int .i64 n.L,.int .i64 n.S]++(zs n.B++[v]))).toArray:=rfl;rw[h,ag,ah];rfl
 rw[e] at this;exact this
theorem uF{X Y:List Int}(h:∀c,c<256->c≠0->dG Y c=dG X c):aZ Y=aZ X:=by
 unfold aZ gY;apply iG;intro c G;by_cases z:c=0
 ·subst z;simp
 ·rw[h c (b7.1 G) z]
end
section
open Go.RowKit
variable{w:World}{g:Nat}
end
section
variable{w:World}{g:Nat}
def nT (T:List (bT×Value)) (i:Nat):bT:=(T.getD i (ck,.slice none 0 0)).1
theorem aex{T:List (bT×Value)}{i:Nat}(z:i<T.length)(n:bT)(v:Value)(j:Nat):nT (T.set i (n,v)) j=if i=j then n else nT T j:=by
 unfold nT;rw[aj,fh];by_cases h:i=j
 ·subst h;simp[z]
 ·rw[aA h,aA h,aj]
def ab3:List (bT×Value):=List.replicate 32 (ck,.slice none 0 0)
def ag4 (T:List (bT×Value)):Prop:=∀i,i<32->0<(nT T i).F->ct (nT T i)
theorem AG{off:Nat}{s:ByteArray}{x:Int}(z:w.cell? ⟨g,off,none⟩=some (.string s))(h:w.cell? ⟨g,off+1,none⟩=some (.int .i64 x)):
  (loadVar 99 ⟨g,off,none⟩).run Tryz.prog w= .ok (.agg #[.string s,x]) w:=
 bZ g off [.string s,.int .i64 x] Tryz.underlying99 rfl Gh λj G=>by
  rcases (show j=0\/j=1 by have :j<2:=G;omega) with rfl|rfl
  ·exact z
  ·exact h
end
end Go.Proofs.YtimcfdnbpkiniaaGreatDoor
