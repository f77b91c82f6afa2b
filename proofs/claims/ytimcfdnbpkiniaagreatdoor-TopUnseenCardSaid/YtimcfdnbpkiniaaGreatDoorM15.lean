/- Lemmas. -/
import Derived.Test.YtimcfdnbpkiniaaGreatDoorM14
import Derived.Laws.StructEq
namespace Go.Proofs.YtimcfdnbpkiniaaGreatDoor
open Go.RowKit
section

end
section
def nT (T:List (bS×Value)) (i:Nat):bS:=(T.getD i (bY,.slice none 0 0)).1
theorem aeJ {T:List (bS×Value)}{i:Nat}(z:i<T.length)(n:bS)(v:Value)(j:Nat):nT (T.set i (n,v)) j=if i=j then n else nT T j:=by
 unfold nT;rw[aj,gT];by_cases h:i=j
 ·subst h;simp[z]
 ·rw[aA h,aA h,aj]
def acg:List (bS×Value):=List.replicate 32 (bY,.slice none 0 0)
def ahi (T:List (bS×Value)):Prop:=∀i,i<32->0<(nT T i).F->cm (nT T i)
theorem YZ (s:ByteArray)(x:Int)(w:World):(Op.equalIn 10000 99 (.agg #[.string s,x]) (.agg #[.string s,x])).run Tryz.prog w= .ok true w:=by
 rw[run_equalIn_struct w 9999 99 _ _ (by kernel_rfl) (by kernel_rfl)]
 go_simp
theorem NS: Tryz.prog.eqGuardType Tryz.prog.depth 99 =false:=by kernel_rfl
theorem tv {w:World}{g off:Nat}{s:ByteArray}{x:Int}(G:w.cell? ⟨g,off,none⟩=some (.string s))(h:w.cell? ⟨g,off+1,none⟩=some (.int .i64 x)):
  (loadVar 99 ⟨g,off,none⟩).run Tryz.prog w= .ok (.agg #[.string s,x]) w:=
 bX g off [.string s,.int .i64 x] Tryz.underlying99 rfl F4 λj z=>by
  rcases (show j=0\/j=1 by have :j<2:=z;omega) with rfl|rfl
  ·exact G
  ·exact h
def ajD (n:bS) (k:Nat):Prop:=(0<=n.B.getD k 0/\n.B.getD k 0<=255)/\(0<n.B.getD k 0->n.K≠2/\64*(k:Int)<n.S/\∀j,j<k->n.B.getD j 0≠n.B.getD k 0)
theorem Vm {n:bS}(W:n.B.length=13)(h:cm n):∀k,k<13->ajD n k:=by
 intro k hk;rcases h.2.2 with ⟨hK,V,h2,z,J⟩|⟨hK,V,h2,z,J⟩
 ·have h5:=J k hk
  refine⟨by omega,λU=>⟨by omega,?_,λj hj=>h5.2 (by omega) j hj⟩⟩;rcases dF k (bF n.S.toNat) with G|G
  ·unfold bF at G;omega
  ·have T9:bF n.S.toNat<=13:=by unfold bF;omega
   rw[z,qf W T9,aA] at U;omega
 ·have e:n.B.getD k 0=0:=by
   rw[z,aj,bB];split<;>rfl
  exact⟨by omega,λU=>by omega⟩
end
section

end
end Go.Proofs.YtimcfdnbpkiniaaGreatDoor
