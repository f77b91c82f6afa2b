/- Lemmas. -/
import Derived.Test.YtimcfdnbpkiniaaGreatDoorM09
import Derived.LaidMore
import Derived.Stop.Joined
import Derived.Laws.IdiomArrays
set_option maxRecDepth 100000
namespace Go.Proofs.YtimcfdnbpkiniaaGreatDoor
open Go.Proofs.Tryz
open Go.ChangeShapes Go.WideShapes Go.ChangeAt Go.WideMaps Go.WideElems Go.RowKit
theorem Tryz.gTab: prog.globalNamed "math/bits.deBruijn64tab" =some 0 :=by kernel_rfl
theorem Tryz.tTab:(prog.globals[0]?).map (·.type)=some 284 :=by kernel_rfl
theorem Tryz.cells_u8: prog.cellsOf 5 =1:=by kernel_rfl
theorem ac7 {H:Type}:Rows.laid_math_bits_deBruijn64tab (H:=H)= .agg (Lib.deBruijn64tab.map λn:Nat=> .lit (.int .u8 (n:Int))):=rfl
theorem Pv {W:World}(h:laidMetH prog [("math/bits.deBruijn64tab",Rows.laid_math_bits_deBruijn64tab)] W):ku W:=by
 rw[MakeChecks.laidMetH_plain _ _ _ (by kernel_rfl)] at h;obtain⟨ps,⟨g0,t0,z,f0,p0,q0,V,af,ai,ak,_,_⟩,_,_⟩:=h;obtain rfl:=Option.some.inj (Tryz.gTab.symm.trans V);obtain rfl:=Option.some.inj (Tryz.tTab.symm.trans af);obtain⟨xs,m,rfl,hx,ac,hn,ae⟩:=DataW.trod_array underlying284 ak;rw[ac7] at hx;simp only[Prod.mk.injEq,DataW.agg.injEq] at hx;intro j hj;have G:=ae j hj;rw[Tryz.cells_u8,iE] at G;cases hxj:xs[j]? with
 |none=>rw[List.getElem?_eq_none_iff] at hxj;omega
 |some y=>
  rw[hxj] at G;have J:((z.toList.drop j).take 1).length=1:=by
   rw[aJ,bV];have ag: prog.cellsOf 284 =64:=by kernel_rfl
   rw[ag] at ac;omega
  obtain⟨c,hc⟩:∃c,(z.toList.drop j).take 1=[c]:=by
   match (z.toList.drop j).take 1,J with
   | [c],_=>exact⟨c,rfl⟩
  rw[hc] at G;obtain⟨k,e1,e2,_⟩:=DataW.trod_int underlying5 G;have hk:(xs.map (·.1))[j]? =some (.lit (.int .u8 k)):=by rw[bO,hxj,e2];rfl
  rw[<-hx.1,bO] at hk;have aa:j<Lib.deBruijn64tab.length:=hj;rw[aD aa] at hk;have ah:k=((Lib.deBruijn64tab.getD j 0:Nat):Int):=by
   have :((Lib.deBruijn64tab[j]:Nat):Int)=k:=by simpa using hk
   rw[<-this,aj,aD aa];rfl
  have U:=World.var?_cell V ai j;rw[U,<-ah];have h3:((z.toList.drop j).take 1)[0]? =some c:=by rw[hc];rfl
  rw[bU,aB,cj,dE,dw] at h3;rw[h3];simp only[List.cons.injEq,and_true] at e1;rw[e1]
theorem aa2 (os:Os)(args:Array Value):laidMetH prog [("math/bits.deBruijn64tab",Rows.laid_math_bits_deBruijn64tab)] ((World.doorLaid prog 400 os).forCall (λ_ _=>0) ⟨#[],args,[]⟩).memory:=
 laidMetH_of_parts3 (fuel:=8) (laidMet_of_run' 8 (by kernel_rfl) (by kernel_rfl)) (by kernel_rfl) (by kernel_rfl)
end Go.Proofs.YtimcfdnbpkiniaaGreatDoor
