/-
  Proved: CheckSound returns true for every list of inodes, every list of pairs, and either truth value, and leaves all that was there as it was. No condition but that math/bits' table holds what the program's text lays, which the card ties.
-/
import Derived.Test.YtphojondgfjmgaaGreatDoorG23
import Derived.Test.YtphojondgfjmgaaGreatDoorG19
import Derived.Test.YtphojondgfjmgaaGreatDoorTie
import Derived.Test.YtphojondgfjmgaaGreatDoorCards
import Derived.ChangeOld
import Derived.SevenTiedAt
namespace Go.Proofs.YtphojondgfjmgaaGreatDoor.checkSound
open Go.ChangeShapes Go.WideShapes Go.ChangeAt Go.RowKit
theorem own:ownKnob Tryz.prog.godebug=none:=by kernel_rfl
theorem laidOut:laidOutB Tryz.prog=true:=by kernel_rfl
section
variable {H:Type} {enc:TypeId×Value→H} {W:World} {base:Nat} {spare:Nat→Bool} {held:Bool}
set_option maxRecDepth 100000 in
theorem open_nins {fuel:Nat} {cs:List Value} {x:DataW H×List MemPlace} (h:DataW.trod enc Tryz.prog W base spare held fuel 22 cs=some x):∃v l,cs=[v]∧NIns W v l:=by
 obtain⟨a,len,cap,rfl,h1,h2,h3⟩:=open_rows (sz:=18) Tryz.underlying22 (by kernel_rfl) (by omega) h
 by_cases h0:len=0
 ·subst h0
  exact⟨_,[],rfl,by simp,a,cap,rfl,by simp,h2,λh=>absurd rfl h⟩
 ·obtain⟨g,off,rfl,hg,hx⟩:=h3 h0
  have hex:∀i,i<len→∃p:Ino×Value,(p.1.B.length=13∧∃ge,EReads W p.2 ge p.1.E)∧∀c,c<18→W.cell? ⟨g,off+(i*18+c),none⟩=(inoL p.1 p.2)[c]? :=λi hi=>by
   obtain⟨cs',y,n,hl,hc,ht⟩:=hx i hi
   obtain⟨m,u,ge,rfl,hB,hE⟩:=open_inoC ht
   exact⟨(m,u),⟨hB,ge,hE⟩,hc⟩
  obtain⟨f,hf⟩:∃f:Nat→Ino×Value,∀i,i<len→((f i).1.B.length=13∧∃ge,EReads W (f i).2 ge (f i).1.E)∧∀c,c<18→W.cell? ⟨g,off+(i*18+c),none⟩=(inoL (f i).1 (f i).2)[c]? :=
   ⟨λi=>if h:i<len then Classical.choose (hex i h) else (inoZ,.slice none 0 0),λi hi=>by simp only[dif_pos hi];exact Classical.choose_spec (hex i hi)⟩
  refine⟨_,(List.range len).map f,rfl,?_,_,cap,by simp,by simpa using h1,h2,λ_=>⟨g,off,rfl,hg,λj hj c hc=> ?_⟩⟩
  ·intro p hp
   simp only[List.mem_map,List.mem_range] at hp
   obtain⟨i,hi,rfl⟩:=hp
   exact(hf i hi).1
  ·have hj':j<len:=by simpa using hj
   have e1:nT ((List.range len).map f) j=(f j).1:=by unfold nT;simp[List.getD_eq_getElem?_getD,hj']
   have e2:vT ((List.range len).map f) j=(f j).2:=by unfold vT;simp[List.getD_eq_getElem?_getD,hj']
   rw[e1,e2]
   exact(hf j hj').2 c hc
end
set_option maxRecDepth 100000 in
theorem lifted (os:Os) (started:os.Started) (H:Type) (enc:TypeId×Value→H):
  ReturnsInHanded {} Tryz.checked os 3 .any (λw args=>(Rows.checkSoundSpec.pre enc Tryz.prog Tryz.f3 [] false w args∧laidMetH Tryz.prog [("math/bits.deBruijn64tab",Rows.laid_math_bits_deBruijn64tab)] w)∧sizedMet enc Tryz.prog Tryz.f3 (OpenSpec.ofChange Rows.checkSoundSpec) false w args)
   (Rows.checkSoundSpec.post enc Tryz.prog Tryz.f3 false true false false):=by
 refine returnsInHanded_of_change_and (C:= Tryz.checked) (X:=λw _=>laidMetH Tryz.prog [("math/bits.deBruijn64tab",Rows.laid_math_bits_deBruijn64tab)] w) (λ_ _ _ hh h=>h.of_heap hh) own started (by kernel_rfl) Tryz.func3
  (ChangeSpec.witness_shaped (enc:=enc) (C:= Tryz.checked) (os:=os) (X:=λw _=>laidMetH Tryz.prog [("math/bits.deBruijn64tab",Rows.laid_math_bits_deBruijn64tab)] w) false (World.doorLaid Tryz.prog 400 os) #[.slice none 0 0,.slice none 0 0,.bool false] 8 rfl (World.shaped_of_RefB (by kernel_rfl) (by kernel_rfl)) (by kernel_rfl) (by kernel_rfl) (by kernel_rfl) (door_met os _)) ?_
 intro W base args ds gs before hval0 hW _ _ hL _
 have hval:∀(j:Nat) t v,Tryz.f3.params[j]? =some t→args[j]? =some v→Value.okWide Tryz.prog W .any base t v:=hval0
 have hW':=hW
 obtain⟨p,q,hA0,hV,rfl,_,_⟩:=hW
 have hA:DataW.TrodAll enc Tryz.prog W 0 (λ_=>true) true Tryz.f3.params.toList args.toList ds p:=hA0
 rw[Tryz.params3] at hA hval
 obtain⟨v0,vs0,d0,ds0,p0,q0,hargs,rfl,rfl,h0,r0⟩:=trodAll_cons hA
 obtain⟨v1,vs1,d1,ds1,p1,q1,rfl,rfl,rfl,h1,r1⟩:=trodAll_cons r0
 obtain⟨v2,vs2,d2,ds2,p2,q2,rfl,rfl,rfl,h2,r2⟩:=trodAll_cons r1
 obtain⟨rfl,rfl,rfl⟩:=trodAll_nil r2
 obtain rfl:args= #[v0,v1,v2]:=by cases args;simp_all
 obtain⟨rfl,rfl⟩:=trodVars_none hV
 have lt0:∀x∈p0,x.block<W.heap.size:=by obtain⟨m,hm⟩:=h0;exact DataW.trod_lt m _ _ _ hm
 have lt1:∀x∈p1,x.block<W.heap.size:=by obtain⟨m,hm⟩:=h1;exact DataW.trod_lt m _ _ _ hm
 have lt2:∀x∈p2,x.block<W.heap.size:=by obtain⟨m,hm⟩:=h2;exact DataW.trod_lt m _ _ _ hm
 have k0:=h0
 have k1:=h1
 have k2:=h2
 obtain⟨a0,len0,cap0,rfl⟩:=okWide_slice Tryz.underlying22 (hval 0 22 v0 rfl rfl)
 obtain⟨l,hP⟩:∃l,NIns W (.slice a0 len0 cap0) l:=by
  obtain⟨m,hm⟩:=h0
  obtain⟨v,l,hv,hr⟩:=open_nins hm
  simp[Value.cells] at hv
  subst hv
  exact⟨l,hr⟩
 obtain⟨a1,len1,cap1,rfl⟩:=okWide_slice Tryz.underlying23 (hval 1 23 v1 rfl rfl)
 obtain⟨gb,ps,hPR,hps⟩:∃(g:Nat) (ps:List (Int×Int)),PReads W (.slice a1 len1 cap1) g ps∧okP ps:=by
  obtain⟨m,hm⟩:=h1
  obtain⟨v,g,ps,hv,hr,hk⟩:=open_pairs hm
  simp[Value.cells] at hv
  subst hv
  exact⟨g,ps,hr,hk⟩
 obtain⟨x2,rfl,_,_⟩:=open_bool Tryz.underlying4 (hval 2 4 v2 rfl rfl) h2
 clear hA0 hval0
 refine(checkSound_at hP (tab_of_laid hL) hPR hps x2).mono λe W' ⟨he,hkk⟩=> ?_
 have bel:Below W.heap.size W W':=hkk.below (Nat.le_refl _) (by simp)
 subst he
 exact⟨_,rfl,_,_,_,[],_,[],hW',trodAll_mk1 (shut_bool Tryz.underlying4 _),trodAll_cons_mk (Below.trod laidOut (by kernel_rfl) (of_decide_eq_true (by kernel_rfl)) k0 bel lt0) (trodAll_cons_mk (Below.trod laidOut (by kernel_rfl) (of_decide_eq_true (by kernel_rfl)) k1 bel lt1) (trodAll_cons_mk (Below.trod laidOut (by kernel_rfl) (of_decide_eq_true (by kernel_rfl)) k2 bel lt2) trodAll_mk0)),rfl,bel.frame _,λh=>by cases h⟩
theorem over:Rows.checkSoundRow.holds Tryz.pinned (OpenSpec.ofChange Rows.checkSoundSpec):=
 OpenClaim.holds_of_wide 3 Tryz.f3 rfl rfl rfl rfl rfl rfl rfl ⟨rfl,rfl,rfl,rfl,rfl⟩ rfl rfl rfl rfl rfl (by kernel_rfl) Tryz.func3 (by kernel_rfl)
  (of_decide_eq_true (by kernel_rfl)) (by unfold Func.isWrapper;first|(rw[if_pos (by decide+kernel)];kernel_rfl)|(rw[if_neg (by decide+kernel)];exact⟨rfl,rfl⟩))
  (λos started H enc _=>lifted os started H enc)
theorem proved:Rows.CheckSoundCardSaid:=
 Claim7.holds_tied_plain_at .later [] [.data] true _ false
  over (λ_ h=>by cases h) (by kernel_rfl) (λ_ h=>by cases h) checkSound_row_tie rfl ⟨rfl,rfl⟩ (by kernel_rfl) rfl
  (λf fn hf hfn=>by
   obtain rfl:f= 3 :=Option.some.inj ((show Tryz.prog.funcNamed "imago/imagolaw10.CheckSound" =some 3 by kernel_rfl).symm.trans hf) |>.symm
   obtain rfl:fn= Tryz.f3 :=(Option.some.inj (Tryz.func3.symm.trans hfn)).symm
   exact⟨by kernel_rfl,λj t ht=>by
    rw[Tryz.params3] at ht
    have hm:t∈[22,23,4]:=by simpa using Array.mem_of_getElem? ht
    have hall:([22,23,4].all λu=> !Tryz.prog.wantsStandIn u)=true:=by kernel_rfl
    exact(show Tryz.prog.wantsStandIn t=false by simpa using List.all_eq_true.1 hall t hm)⟩)
  (by kernel_rfl)
#print axioms proved
end Go.Proofs.YtphojondgfjmgaaGreatDoor.checkSound
