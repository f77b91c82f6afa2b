/-
  Layer 4 (tx): Put. Layer 4 (tx): Back. Layer 4 (tx): Mark. Layer 5 (palloc): the bits of a word as plain numbers: how many are set, which, and how the counting of math/bits comes to it. Nothing of the program is named here. Layer 5 (palloc): the bits of four words as plain lists: which blocks are used, which are free, what is put to set one, and to take some. Nothing of the program is named here. Layer 4 (tx): Block. Layer 5 (palloc): isBlock, bitsOf, maskOf, Used. Layer 5 (palloc): Set, freeIn. Layer 5 (palloc): the counting of bits (math/bits.OnesCount64), the lowest bit (math/bits.TrailingZeros64). Layer 5 (palloc): what puts leave (Onto), empty, Free. Layer 5 (palloc): firstFree. A row of numbers that is one's own: what may be appended to it.
-/
import Derived.Test.YtphojondgfjmgaaGreatDoorG00
import Derived.Deep.RegionLaw
import Derived.Deep.AppendLies
import Derived.BigRegion
import Derived.Deep.LoopGhost
import Derived.StillTailTactics
import Derived.Lib.TrailingZeros
import Derived.Laws.BitsAllLaws
import Derived.IntWalk
import Derived.WalkMore
namespace Go.Proofs.YtphojondgfjmgaaGreatDoor
open Go.RowKit
theorem Tryz.info_put:(Tryz.prog.info? 65).map (λi=>(i.zero,i.size,i.bytes))=some (some (.agg #[.int .i64 0,.int .u64 0]),2,16):=by kernel_rfl
def PutPost (w:World) (b gp:Nat) (B:List Int) (ps:List (Int×Int)) (e:Ending) (w':World):Prop:=
 e= .returned (.tuple #[])∧∃gp',(gp'=gp∨(w.heap.size≤gp'∧gp'<w'.heap.size))∧ShAt w' b gp' B ps∧Keeps [b,gp] w w'
def putN (ps:List (Int×Int)) (i x:Int):List (Int×Int):=if inB i=true then ps++[(i,x)] else ps
theorem put_done {w w1:World} {b gp gg2 cap2 a_n j:Nat} {B:List Int} {ps:List (Int×Int)} {x was:Int} {vp:Value} {o:Obj} (hb:Blk w b (shCells B (putAll B ps) vp) 63)
  (hg:∀k,vp.ownBlock=some k→k=gp) (lb:B.length=3128) (lx:(putAll B ps).length=3128) (hj:j<3128)
  (he:notesN B (ps++[((j:Int),x)])=notesN B ps++[((j:Int),was)]) (hpa:putAll B (ps++[((j:Int),x)])=(putAll B ps).set j x) (hin:inP (ps++[((j:Int),x)]) 3128)
  (hl:(notesN B (ps++[((j:Int),x)])).length=a_n+1)
  (hown:w1.ownsRow (b+1) 65 2 (.slice (some ⟨gg2,0,none⟩) (a_n+1) cap2) (a_n+1) (pcells (notesN B ps)++[.int .i64 (j:Int),.int .u64 was]))
  (hgrow:(w.alloc o).drew.grownBy w1 vp.ownBlock) (hat:vp.ownBlock=some gg2∨gg2=w.heap.size+1) (hne:vp.ownBlock≠some b):
  PutPost w b gp B (ps++[((j:Int),x)]) (.returned (.tuple #[])) ((w1.setCell ⟨b,6256,none⟩ (.slice (some ⟨gg2,0,none⟩) (a_n+1) cap2)).setCell ⟨b,3128+j,none⟩ (.int .u64 x)):=by
 have hk1:Keeps [gp] w w1:=((Keeps.refl [gp] w).alloc o).drew.trans (Keeps.of_grown (l:=[gp]) hgrow (by intro k hk;rw[hg k hk];simp)) (by simp)
 have hb1:Blk w1 b (shCells B (putAll B ps) vp) 63 :=by
  have h1:Blk (w.alloc o).drew b (shCells B (putAll B ps) vp) 63 :=hb.alloc o
  have hlt:=h1.lt
  unfold Blk at h1 ⊢
  rw[←h1]
  exact hgrow.block b hlt (λe=>hne e.symm)
 have hbg:b≠gg2:=by have :=ownsRow_block hown gg2 rfl;omega
 have hk2:∀(u v:Value),Keeps [b] w1 ((w1.setCell ⟨b,6256,none⟩ u).setCell ⟨b,3128+j,none⟩ v):=λu v=>((Keeps.refl [b] _).setCell (by simp) _).setCell (by simp) _
 refine⟨rfl,gg2,?_,⟨⟨lb,?_,.slice (some ⟨gg2,0,none⟩) (a_n+1) cap2,?_,?_,?_⟩,hin⟩,?_⟩
 ·rcases hat with e|e
  ·exact .inl (hg _ e)
  ·refine .inr ⟨by omega,?_⟩
   have :=(hown.lt gg2 rfl).2
   simpa[World.setCell] using this
 ·rw[hpa,List.length_set];exact lx
 ·have :=(hb1.set 6256 (.slice (some ⟨gg2,0,none⟩) (a_n+1) cap2)).set (3128+j) (.int .u64 x)
  rw[shCells_set2 _ lb lx,shCells_set1 _ lb (by omega)] at this
  rw[hpa]
  exact this
 ·rw[hl,he,pcells_append]
  exact ownsRow_keep hown (hk2 _ _) (by intro k hk;cases hk;simpa using Ne.symm hbg)
 ·intro k hk;cases hk;rfl
 ·exact(hk1.mono (by simp)).trans (hk2 _ _) (by simp)
set_option maxHeartbeats 2000000 in
theorem txPut_at {w:World} {b gp:Nat} {B:List Int} {ps:List (Int×Int)} (h:ShAt w b gp B ps) (hn:ps.length≤1000000) (i x:Int):
  Calls Tryz.prog 8 #[.pointer (some ⟨b,0,none⟩),.int .i64 i,.int .u64 x] w (PutPost w b gp B (putN ps i x)):=by
 have HI:=Lib.hid (txIsPlace_at i w)
 unfold putN
 cases hi:inB i
 ·rw[hi] at HI
  rw[if_neg (by simp)]
  have HM:Hid (PutPost w b gp B ps (.returned (.tuple #[])) w):=⟨rfl,gp,.inl rfl,h,Keeps.refl _ _⟩
  clear hi h
  go_enter Tryz.func8,Tryz.ntmps8
  go_wp2_with(go_at_call 22;refine HI.out.mono ?_;rintro e w' ⟨rfl,rfl⟩)
  go_end0
  exact HM.out
 ·rw[hi] at HI
  rw[if_pos rfl]
  obtain⟨h0,h1⟩:=inB_iff.1 hi
  clear hi
  obtain⟨j,rfl⟩:=Int.eq_ofNat_of_zero_le h0
  obtain⟨⟨lb,lx,vp,hb,hr,hg⟩,inp⟩:=h
  obtain⟨i0,hi,hz0,hz1,hz2⟩:=info_parts Tryz.info_put
  have hj:j<3128:=by omega
  have c1:w.cell? ⟨b,6256,none⟩=some vp:=by rw[hb.cell,shCells_2 _ lb lx]
  have c2:w.cell? ⟨b,3128+j,none⟩=some (.int .u64 ((putAll B ps).getD j 0)):=by rw[hb.cell,shCells_1 _ lb (by omega)]
  have f1:w.frozen? ⟨b,6256,none⟩=false:=hb.frozen _
  have f2:w.frozen? ⟨b,3128+j,none⟩=false:=hb.frozen _
  have F1:∀o,(w.alloc o).drew.frozen? ⟨b,6256,none⟩=false:=λo=>(hb.alloc o).frozen _
  have F2:∀o,(w.alloc o).drew.frozen? ⟨b,3128+j,none⟩=false:=λo=>(hb.alloc o).frozen _
  have hbl:=hb.lt
  have E2:∀o,(w.alloc o).drew.cell? ⟨b,3128+j,none⟩=some (.int .u64 ((putAll B ps).getD j 0)):=λo=>by rw[←c2];exact World.cell?_of_block (w:=w) (Below.heap_alloc _ _ _ hb.lt)
  have n1:¬3128+j=6256:=by omega
  have E1:∀o,(w.alloc o).drew.cell? ⟨b,6256,none⟩=some vp:=λo=>by rw[←c1];exact World.cell?_of_block (w:=w) (Below.heap_alloc _ _ _ hb.lt)
  have hne:vp.ownBlock≠some b:=λe=>by have :=ownsRow_block hr b e;omega
  obtain⟨a,cap,hv,q1,q2⟩:=ownsRow_val hr
  rw[notesN_len] at hr hv q1
  have HE:=Lib.hid (notesN_snoc B ps (j:Int) x)
  have HPA:Hid (putAll B (ps++[((j:Int),x)])=(putAll B ps).set j x):=by show putAll B _=_;rw[putAll_append];rfl
  have HIN:Hid (inP (ps++[((j:Int),x)]) 3128):=inP_append inp (inP_one h0 h1)
  have HL:Hid ((notesN B (ps++[((j:Int),x)])).length=ps.length+1):=by show List.length _=_;rw[notesN_len];simp
  rw[Int.toNat_natCast] at HE
  subst hv
  have HB:=Lib.hid hb
  have HR:=Lib.hid hr
  have HG:=Lib.hid hg
  have LB:=Lib.hid lb
  have LX:=Lib.hid lx
  clear hb hr hg lb lx inp
  generalize (putAll B ps).getD j 0=was at *
  generalize hps:ps.length=n at *
  have HPS:=Lib.hid hps
  clear hps
  unfold maxLen at q2
  go_enter Tryz.func8,Tryz.ntmps8
  go_wp2_with fail
  refine HI.out.mono ?_;rintro e w' ⟨rfl,rfl⟩
  go_wp2_with fail
  go_region_law ((refine step_append_lies _ (by rfl) _ _ _ (by rfl) (b+1) 65 i0 _ 2 16 Tryz.underlying60 hi hz0 hz1 hz2 rfl (by omega) (.slice a n cap) n _ (by rfl) ((HR.out.alloc _).drew) ⟨w.heap.size,0,none⟩ 1 1 [.int .i64 (j:Int),.int .u64 was] (by rfl) (by rfl) (new_cells w [_,_] _ _ rfl) (by simp[Value.oneCell']) (by omega) (by unfold maxLen;omega) (by omega) (by simp;omega) (w.heap.size+1) (by simp) ?_;intro gg2 cap2 w1 hown1 hgrow hat hlt;have hc1:=(hgrow.cell_far ⟨b,6256,none⟩ (by simp;omega) (Ne.symm hne)).trans (E1 _);have hf1:=(hgrow.frozen_far ⟨b,6256,none⟩ (by simp;omega) (Ne.symm hne)).trans (F1 _);have hc2:=(hgrow.cell_far ⟨b,3128+j,none⟩ (by simp;omega) (Ne.symm hne)).trans (E2 _);have hf2:=(hgrow.frozen_far ⟨b,3128+j,none⟩ (by simp;omega) (Ne.symm hne)).trans (F2 _)))
  all_goals
   have HM:=Lib.hid (put_done HB.out HG.out LB.out LX.out hj HE.out HPA.out HIN.out HL.out hown1 hgrow hat hne)
   clear hown1 hgrow hat hlt hc1
   go_wp2_with fail
   go_end0
   exact HM.out
theorem ShRaw.setW {w:World} {b gp:Nat} {B X:List Int} {us:List (Int×Int)} (h:ShRaw w b gp B X us) (i:Nat) (hi:i<3128) (x:Int):ShRaw (w.setCell ⟨b,3128+i,none⟩ (.int .u64 x)) b gp B (X.set i x) us:=by
 obtain⟨lb,lx,vp,h1,h2,h3⟩:=h
 refine⟨lb,by rw[List.length_set];exact lx,vp,?_,?_,h3⟩
 ·have :=h1.set (3128+i) (.int .u64 x)
  rwa[shCells_set1 _ lb (by omega)] at this
 ·refine ownsRow_keep h2 (l:=[b]) ((Keeps.refl [b] _).setCell (by simp) _) λk hk=> ?_
  have :=ownsRow_block h2 k hk
  simp;omega
theorem ShRaw.drew {w:World} {b gp:Nat} {B X:List Int} {us:List (Int×Int)} (h:ShRaw w b gp B X us):ShRaw w.drew b gp B X us:=h.keep ((Keeps.refl [] w).drew) (by simp) (by simp)
theorem ShRaw.note {w:World} {b gp:Nat} {B X:List Int} {us:List (Int×Int)} (h:ShRaw w b gp B X us) {k:Nat} (hk:k<us.length):
  ∃cap,w.cell? ⟨b,6256,none⟩=some (.slice (some ⟨gp,0,none⟩) us.length cap)∧us.length≤cap∧cap≤maxLen∧w.cell? ⟨gp,k*2,none⟩=some (.int .i64 (patN us k))∧w.cell? ⟨gp,k*2+1,none⟩=some (.int .u64 (pwdN us k)):=by
 obtain⟨lb,lx,vp,h1,h2,h3⟩:=h
 obtain⟨g,ho,hg⟩:=Owns.of_row h2
 obtain⟨hlt,⟨cap,hv,q1,q2⟩,hc,-⟩:=ho.cell (by omega)
 obtain rfl:g=gp:=h3 g (hg (by omega)).2
 subst hv
 refine⟨cap,by rw[h1.cell,shCells_2 _ lb lx],q1,q2,?_,?_⟩
 ·rw[hc _ (by omega)];exact(pcells_get us k hk).1
 ·rw[hc _ (by omega)];exact(pcells_get us k hk).2
theorem ShRaw.slice {w:World} {b gp:Nat} {B X:List Int} {us:List (Int×Int)} (h:ShRaw w b gp B X us):
  ∃a cap,w.cell? ⟨b,6256,none⟩=some (.slice a us.length cap)∧w.frozen? ⟨b,6256,none⟩=false∧us.length≤cap∧cap≤maxLen:=by
 obtain⟨lb,lx,vp,h1,h2,h3⟩:=h
 obtain⟨a,cap,rfl,q1,q2⟩:=ownsRow_val h2
 exact⟨a,cap,by rw[h1.cell,shCells_2 _ lb lx],h1.frozen _,q1,q2⟩
theorem pcells_take (us:List (Int×Int)) (m:Nat) (h:m≤us.length):(pcells us).take (m*2)=pcells (us.take m):=by
 have e:pcells us=pcells (us.take m)++pcells (us.drop m):=by rw[←pcells_append,List.take_append_drop]
 rw[e,List.take_left' (by rw[pcells_len,List.length_take,Nat.min_eq_left h])]
theorem ShRaw.cut {w:World} {b gp:Nat} {B X:List Int} {us:List (Int×Int)} (h:ShRaw w b gp B X us) (m:Nat) (hm:m≤us.length) {a:Option Addr} {n cap:Nat} (hc:w.cell? ⟨b,6256,none⟩=some (.slice a n cap)):
  ShRaw (w.setCell ⟨b,6256,none⟩ (.slice a m cap)) b gp B X (us.take m):=by
 obtain⟨lb,lx,vp,h1,h2,h3⟩:=h
 rw[h1.cell,shCells_2 _ lb lx] at hc
 cases hc
 refine⟨lb,lx,.slice a m cap,?_,?_,?_⟩
 ·have :=h1.set 6256 (.slice a m cap)
  rwa[shCells_set2 _ lb lx] at this
 ·have hk:Keeps [b] w (w.setCell ⟨b,6256,none⟩ (.slice a m cap)):=(Keeps.refl [b] _).setCell (by simp) _
  obtain⟨h4,h5⟩:=h2
  rw[List.length_take,Nat.min_eq_left hm]
  refine⟨by rw[pcells_len,List.length_take,Nat.min_eq_left hm],?_⟩
  rcases h5 with ⟨e,e'⟩|⟨g,cap',cur,e,hg,hh,q2,q3,q4,q5⟩
  ·cases e
   obtain rfl:m=0:=by omega
   exact .inl ⟨rfl,rfl⟩
  ·cases e
   refine .inr ⟨g,cap,cur,rfl,hg,?_,by omega,q3,q4,?_⟩
   ·rw[←hh]
    exact hk.block g (Array.getElem?_eq_some_iff.1 hh).1 (by simp;omega)
   ·rw[←pcells_take _ _ hm,←q5,List.take_take,Nat.min_eq_left (by omega)]
 ·intro k hk
  cases a with
  |none=>cases hk
  |some ad=>exact h3 k hk
def BackPost (w:World) (b gp:Nat) (B:List Int) (ps:List (Int×Int)) (e:Ending) (w':World):Prop:=
 e= .returned (.tuple #[])∧ShAt w' b gp B ps∧Keeps [b] w w'
set_option maxRecDepth 100000 in
set_option maxHeartbeats 4000000 in
theorem txBack_at {w:World} {b gp:Nat} {B:List Int} {ps:List (Int×Int)} (h:ShAt w b gp B ps) (m:Int):
  Calls Tryz.prog 42 #[.pointer (some ⟨b,0,none⟩),.int .i64 m] w (BackPost w b gp B (ps.take (backN m ps.length))):=by
 have HIN:=Lib.hid h.inp
 have HRAW:Hid (ShRaw w b gp B (putAll B (ps.take ps.length)) (notesN B ps)):=by rw[List.take_of_length_le (Nat.le_refl _)];exact h.raw
 obtain⟨a,cap,c0,f0,q1,q2⟩:=h.raw.slice
 have hm:=backN_le m ps.length
 have hmm:=backN_int m ps.length
 clear h
 rw[notesN_len] at *
 unfold maxLen at q2
 generalize backN m ps.length=q at *
 generalize hps:ps.length=n at *
 have HPS:=Lib.hid hps
 clear hps
 have HNL:Hid ((notesN B ps).length=n):=by rw[←HPS.out];exact notesN_len B ps
 have hcase:(m<0∧q=0)∨(0≤m∧m≤(n:Int)∧m=(q:Int))∨((n:Int)<m∧0≤m∧q=n):=by omega
 clear hmm
 rcases hcase with ⟨k1,rfl⟩|⟨k1,k2,rfl⟩|⟨k1,k2,rfl⟩
 ·go_enter Tryz.func42,Tryz.ntmps42
  go_wp2_with fail
  clear c0 f0
  go_loopg [5] (n-0) (λgh s5 wx=>∃k:Nat,k=0+gh∧k≤n∧s5= .int .i64 ((k:Int)-1)∧Hid (ShRaw wx b gp B (putAll B (ps.take k)) (notesN B ps)∧Keeps [b] w wx))
  case atStart=>exact⟨n,by omega,by omega,rfl,HRAW.out,Keeps.refl _ _⟩
  case round=>
   obtain⟨k,hk,hkn,rfl,HR⟩:=hrel
   cases gk with
   |zero=>
    obtain rfl:k=0:=by omega
    have hlt:¬((0:Int)≤((0:Nat):Int)-1):=by omega
    obtain⟨hr,hkp⟩:=HR.out
    obtain⟨a,cap,c0,f0,q1,q2⟩:=hr.slice
    have HC:=Lib.hid (hr.cut 0 (by rw[HNL.out];omega) c0)
    rw[HNL.out] at c0 q1
    unfold maxLen at q2
    rw[notesN_take _ _ _ (by rw[HPS.out];omega)] at HC
    have HT:=Lib.hid (inP_take HIN.out 0)
    have HKP:=Lib.hid hkp
    have b1:(0:Int)≤(n:Int):=by omega
    have b2:(0:Int)≤(cap:Int):=by omega
    clear hr hkp HR hk
    go_wp2_with fail
    go_end0
    exact⟨rfl,⟨HC.out,HT.out⟩,HKP.out.setCell (by simp) _⟩
   |succ g=>
    obtain⟨k,rfl⟩:∃k',k=k'+1:=⟨k-1,by omega⟩
    have ek:((k+1:Nat):Int)-1=(k:Int):=by omega
    rw[ek]
    clear ek
    have hlt:(0:Int)≤(k:Int):=by omega
    have hk0:(0:Int)≤(k:Int):=by omega
    have hk1:(k:Int)<(n:Int):=by omega
    obtain⟨hr,hkp⟩:=HR.out
    obtain⟨cap',c0,q1,q2,c1,c2⟩:=hr.note (k:=k) (by rw[HNL.out];omega)
    obtain⟨e1,e2⟩:=notesN_get B ps k (by rw[HPS.out];omega)
    obtain⟨x0,x1⟩:=inP_get HIN.out (k:=k) (by rw[HPS.out];omega)
    have HU:=Lib.hid (undo_put B ps k (by rw[HPS.out];omega))
    rw[e1] at c1
    rw[e2] at c2
    clear e1 e2
    rw[HNL.out] at c0 q1
    unfold maxLen at q2
    generalize patN ps k=x at *
    generalize (putAll B (ps.take k)).getD x.toNat 0=was at *
    obtain⟨j,rfl⟩:=Int.eq_ofNat_of_zero_le x0
    rw[Int.toNat_natCast] at HU
    have x2:(j:Int)<3128:=x1
    have hj:j<3128:=by omega
    have d1:=hr.cell1 hj
    have d2:wr.frozen? ⟨b,3128+j,none⟩=false:=by obtain⟨lb,lx,vp,h1,h2,h3⟩:=hr;exact h1.frozen _
    have HS:=Lib.hid (hr.drew.setW j hj was)
    have HKP:=Lib.hid hkp
    generalize (putAll B (ps.take (k+1))).getD j 0=old at *
    clear hr hkp HR x1
    go_wp2_with fail
    go_still_tail 20,(by kernel_rfl)
    go_wp2_with fail
    go_roundg g
    case measure=>omega
    case rel=>
     refine⟨k,by omega,by omega,by first|rfl|go_num,?_,HKP.out.drew.setCell (by simp) _⟩
     have :=HS.out
     rw[HU.out] at this
     exact this
 ·go_enter Tryz.func42,Tryz.ntmps42
  go_wp2_with fail
  clear c0 f0
  go_loopg [5] (n-q) (λgh s5 wx=>∃k:Nat,k=q+gh∧k≤n∧s5= .int .i64 ((k:Int)-1)∧Hid (ShRaw wx b gp B (putAll B (ps.take k)) (notesN B ps)∧Keeps [b] w wx))
  case atStart=>exact⟨n,by omega,by omega,rfl,HRAW.out,Keeps.refl _ _⟩
  case round=>
   obtain⟨k,hk,hkn,rfl,HR⟩:=hrel
   cases gk with
   |zero=>
    obtain rfl:q=k:=by omega
    have hlt:¬((q:Int)≤(q:Int)-1):=by omega
    obtain⟨hr,hkp⟩:=HR.out
    obtain⟨a,cap,c0,f0,q1,q2⟩:=hr.slice
    have HC:=Lib.hid (hr.cut q (by rw[HNL.out];omega) c0)
    rw[HNL.out] at c0 q1
    unfold maxLen at q2
    rw[notesN_take _ _ _ (by rw[HPS.out];omega)] at HC
    have HT:=Lib.hid (inP_take HIN.out q)
    have HKP:=Lib.hid hkp
    have b1:(q:Int)≤(n:Int):=by omega
    have b2:(q:Int)≤(cap:Int):=by omega
    clear hr hkp HR hk
    go_wp2_with fail
    go_end0
    exact⟨rfl,⟨HC.out,HT.out⟩,HKP.out.setCell (by simp) _⟩
   |succ g=>
    obtain⟨k,rfl⟩:∃k',k=k'+1:=⟨k-1,by omega⟩
    have ek:((k+1:Nat):Int)-1=(k:Int):=by omega
    rw[ek]
    clear ek
    have hlt:(q:Int)≤(k:Int):=by omega
    have hk0:(0:Int)≤(k:Int):=by omega
    have hk1:(k:Int)<(n:Int):=by omega
    obtain⟨hr,hkp⟩:=HR.out
    obtain⟨cap',c0,q1,q2,c1,c2⟩:=hr.note (k:=k) (by rw[HNL.out];omega)
    obtain⟨e1,e2⟩:=notesN_get B ps k (by rw[HPS.out];omega)
    obtain⟨x0,x1⟩:=inP_get HIN.out (k:=k) (by rw[HPS.out];omega)
    have HU:=Lib.hid (undo_put B ps k (by rw[HPS.out];omega))
    rw[e1] at c1
    rw[e2] at c2
    clear e1 e2
    rw[HNL.out] at c0 q1
    unfold maxLen at q2
    generalize patN ps k=x at *
    generalize (putAll B (ps.take k)).getD x.toNat 0=was at *
    obtain⟨j,rfl⟩:=Int.eq_ofNat_of_zero_le x0
    rw[Int.toNat_natCast] at HU
    have x2:(j:Int)<3128:=x1
    have hj:j<3128:=by omega
    have d1:=hr.cell1 hj
    have d2:wr.frozen? ⟨b,3128+j,none⟩=false:=by obtain⟨lb,lx,vp,h1,h2,h3⟩:=hr;exact h1.frozen _
    have HS:=Lib.hid (hr.drew.setW j hj was)
    have HKP:=Lib.hid hkp
    generalize (putAll B (ps.take (k+1))).getD j 0=old at *
    clear hr hkp HR x1
    go_wp2_with fail
    go_still_tail 20,(by kernel_rfl)
    go_wp2_with fail
    go_roundg g
    case measure=>omega
    case rel=>
     refine⟨k,by omega,by omega,by first|rfl|go_num,?_,HKP.out.drew.setCell (by simp) _⟩
     have :=HS.out
     rw[HU.out] at this
     exact this
 ·go_enter Tryz.func42,Tryz.ntmps42
  go_wp2_with fail
  clear c0 f0
  go_loopg [5] (q-q) (λgh s5 wx=>∃k:Nat,k=q+gh∧k≤q∧s5= .int .i64 ((k:Int)-1)∧Hid (ShRaw wx b gp B (putAll B (ps.take k)) (notesN B ps)∧Keeps [b] w wx))
  case atStart=>exact⟨q,by omega,by omega,rfl,HRAW.out,Keeps.refl _ _⟩
  case round=>
   obtain⟨k,hk,hkn,rfl,HR⟩:=hrel
   cases gk with
   |zero=>
    obtain rfl:q=k:=by omega
    have hlt:¬((q:Int)≤(q:Int)-1):=by omega
    obtain⟨hr,hkp⟩:=HR.out
    obtain⟨a,cap,c0,f0,q1,q2⟩:=hr.slice
    have HC:=Lib.hid (hr.cut q (by rw[HNL.out];omega) c0)
    rw[HNL.out] at c0 q1
    unfold maxLen at q2
    rw[notesN_take _ _ _ (by rw[HPS.out];omega)] at HC
    have HT:=Lib.hid (inP_take HIN.out q)
    have HKP:=Lib.hid hkp
    have b1:(q:Int)≤(q:Int):=by omega
    have b2:(q:Int)≤(cap:Int):=by omega
    clear hr hkp HR hk
    go_wp2_with fail
    go_end0
    exact⟨rfl,⟨HC.out,HT.out⟩,HKP.out.setCell (by simp) _⟩
   |succ g=>omega
set_option maxHeartbeats 400000 in
theorem txMark_raw {w:World} {b gp:Nat} {B X:List Int} {us:List (Int×Int)} (h:ShRaw w b gp B X us):
  Calls Tryz.prog 40 #[.pointer (some ⟨b,0,none⟩)] w λe w'=>e= .returned (.int .i64 (us.length:Int))∧w=w':=by
 obtain⟨lb,lx,vp,h1,h2,h3⟩:=h
 have hc:w.cell? ⟨b,6256,none⟩=some vp:=by rw[h1.cell,shCells_2 _ lb lx]
 obtain⟨a,cap,rfl,q1,q2⟩:=ownsRow_val h2
 clear h1 h2 h3 lb lx
 generalize us.length=n at *
 go_enter Tryz.func40,Tryz.ntmps40
 go_wp2
 go_ret
 exact⟨rfl,rfl⟩
theorem txMark_at {w:World} {b gp:Nat} {B:List Int} {ps:List (Int×Int)} (h:ShAt w b gp B ps):
  Calls Tryz.prog 40 #[.pointer (some ⟨b,0,none⟩)] w λe w'=>e= .returned (.int .i64 (ps.length:Int))∧w=w':=by
 have :=txMark_raw h.raw
 rw[notesN_len] at this
 exact this
end Go.Proofs.YtphojondgfjmgaaGreatDoor
namespace Go.Proofs.YtphojondgfjmgaaGreatDoor
def ones (n x:Nat):Nat:=((List.range n).filter λj=>x.testBit j).length
def bitL (x:Nat):List Nat:=(List.range 64).filter λj=>x.testBit j
theorem ones_bitL (x:Nat):ones 64 x=(bitL x).length:=rfl
theorem testBit_byte (b a j:Nat) (hb:b<256):(b+256*a).testBit j=if j<8 then b.testBit j else a.testBit (j-8):=by
 have :=Nat.testBit_two_pow_mul_add a (b:=b) (i:=8) (by simpa using hb) j
 rw[Nat.add_comm]
 simpa using this
theorem and_byte (b m a M:Nat) (hb:b<256) (hm:m<256):(b+256*a) &&& (m+256*M)=(b &&& m)+256*(a &&& M):=by
 apply Nat.eq_of_testBit_eq
 intro j
 have hbm:b &&& m<256:=Nat.lt_of_le_of_lt Nat.and_le_left hb
 rw[Nat.testBit_and,testBit_byte b a j hb,testBit_byte m M j hm,testBit_byte _ _ j hbm]
 split<;>simp[Nat.testBit_and]
theorem filter_range_add (p:Nat→Bool) (m n:Nat):(List.range (m+n)).filter p=(List.range m).filter p++((List.range n).filter λj=>p (m+j)).map (m+·):=by
 rw[List.range_add,List.filter_append,List.filter_map]
 rfl
theorem ones_byte (n b a:Nat) (hb:b<256):ones (8+n) (b+256*a)=ones 8 b+ones n a:=by
 unfold ones
 rw[filter_range_add,List.length_append,List.length_map]
 congr 1
 ·congr 1
  apply List.filter_congr
  intro j hj
  rw[List.mem_range] at hj
  rw[testBit_byte b a j hb,if_pos hj]
 ·congr 1
  apply List.filter_congr
  intro j _
  rw[testBit_byte b a _ hb,if_neg (by omega),Nat.add_sub_cancel_left]
def rep (m:Nat):Nat→Nat
 |0=>0
 |n+1=>m+256*rep m n
def q1 (b:Nat):Nat:=(b/2 &&& 85)+(b &&& 85)
def q2 (b:Nat):Nat:=(b/4 &&& 51)+(b &&& 51)
def q3 (b:Nat):Nat:=(b/16+b)%16
def st1 (n x:Nat):Nat:=(x/2 &&& rep 85 n)+(x &&& rep 85 n)
def st2 (n x:Nat):Nat:=(x/4 &&& rep 51 n)+(x &&& rep 51 n)
def st3 (n x:Nat):Nat:=(x/16+x) &&& rep 15 n
theorem q1_carry:∀b:Fin 256,∀c:Fin 2,(b.val/2+128*c.val) &&& 85=b.val/2 &&& 85:=by decide+kernel
theorem q2_carry:∀b:Fin 256,∀c:Fin 4,(b.val/4+64*c.val) &&& 51=b.val/4 &&& 51:=by decide+kernel
theorem q_all:∀b:Fin 256,q1 b.val<256∧q2 (q1 b.val)<256∧q2 (q1 b.val)/16≤4∧q2 (q1 b.val)%16≤4∧q3 (q2 (q1 b.val))=ones 8 b.val∧ones 8 b.val≤8:=by decide+kernel
theorem st1_succ (n b a:Nat) (hb:b<256):st1 (n+1) (b+256*a)=q1 b+256*st1 n a:=by
 unfold st1 q1
 have e:(b+256*a)/2=(b/2+128*(a%2))+256*(a/2):=by omega
 have c:=q1_carry ⟨b,hb⟩ ⟨a%2,by omega⟩
 simp only at c
 rw[e,rep,and_byte _ _ _ _ (by omega) (by omega),and_byte _ _ _ _ hb (by omega),c]
 omega
theorem st2_succ (n b a:Nat) (hb:b<256):st2 (n+1) (b+256*a)=q2 b+256*st2 n a:=by
 unfold st2 q2
 have e:(b+256*a)/4=(b/4+64*(a%4))+256*(a/4):=by omega
 have c:=q2_carry ⟨b,hb⟩ ⟨a%4,by omega⟩
 simp only at c
 rw[e,rep,and_byte _ _ _ _ (by omega) (by omega),and_byte _ _ _ _ hb (by omega),c]
 omega
theorem and15 (x:Nat):x &&& 15=x%16:=by
 have :=Nat.and_two_pow_sub_one_eq_mod x 4
 simpa using this
theorem st3_succ (n b a:Nat) (h1:b/16≤4) (h2:b%16≤4) (h3:a%16≤4):st3 (n+1) (b+256*a)=q3 b+256*st3 n a:=by
 unfold st3 q3
 have e:(b+256*a)/16+(b+256*a)=(b/16+b+16*(a%16))+256*(a/16+a):=by omega
 rw[e,rep,and_byte _ _ _ _ (by omega) (by omega),and15]
 omega
theorem st1_zero:st1 0 0=0:=rfl
theorem st2_zero:st2 0 0=0:=rfl
theorem st3_zero:st3 0 0=0:=rfl
def by8 (a b c d e f g h:Nat):Nat:=a+256*(b+256*(c+256*(d+256*(e+256*(f+256*(g+256*(h+256*0)))))))
theorem by8_split (x:Nat) (hx:x<18446744073709551616):∃a b c d e f g h,(a<256∧b<256∧c<256∧d<256∧e<256∧f<256∧g<256∧h<256)∧x=by8 a b c d e f g h:=by
 refine⟨x%256,x/256%256,x/65536%256,x/16777216%256,x/4294967296%256,x/1099511627776%256,x/281474976710656%256,x/72057594037927936,?_,?_⟩
 ·omega
 ·unfold by8;omega
theorem step_lt {a y K:Nat} (ha:a<256) (hy:y<K):a+256*y<256*K:=by omega
theorem step_le {a y K:Nat} (ha:a≤68) (hy:y≤K):a+256*y≤68+256*K:=by omega
theorem by8_lt {a b c d e f g h:Nat} (ha:a<256) (hb:b<256) (hc:c<256) (hd:d<256) (he:e<256) (hf:f<256) (hg:g<256) (hh:h<256):by8 a b c d e f g h<18446744073709551616:=
 Nat.lt_of_lt_of_le (step_lt ha (step_lt hb (step_lt hc (step_lt hd (step_lt he (step_lt hf (step_lt hg (step_lt hh (Nat.zero_lt_one))))))))) (by decide)
theorem by8_le {a b c d e f g h:Nat} (ha:a≤68) (hb:b≤68) (hc:c≤68) (hd:d≤68) (he:e≤68) (hf:f≤68) (hg:g≤68) (hh:h≤68):by8 a b c d e f g h≤4919131752989213764:=
 Nat.le_trans (step_le ha (step_le hb (step_le hc (step_le hd (step_le he (step_le hf (step_le hg (step_le hh (Nat.le_refl 0))))))))) (by decide)
set_option maxHeartbeats 2000000 in
theorem by8_sum (a3 b3 c3 d3 e3 f3 g3 h3:Nat) (A6:a3≤8) (B6:b3≤8) (C6:c3≤8) (D6:d3≤8) (E6:e3≤8) (F6:f3≤8) (G6:g3≤8) (H6:h3≤8):∃x4 x5 x6,by8 a3 b3 c3 d3 e3 f3 g3 h3+by8 a3 b3 c3 d3 e3 f3 g3 h3/256=x4∧x4+x4/65536=x5∧x5+x5/4294967296=x6∧
  x4<9223372036854775808∧x5<9223372036854775808∧x6<9223372036854775808∧x6%128=a3+(b3+(c3+(d3+(e3+(f3+(g3+(h3+0))))))):=by
 refine⟨_,_,_,rfl,rfl,rfl,?_⟩
 unfold by8
 have k3:(a3+256*(b3+256*(c3+256*(d3+256*(e3+256*(f3+256*(g3+256*(h3+256*0))))))))/256=b3+256*(c3+256*(d3+256*(e3+256*(f3+256*(g3+256*h3))))):=by omega
 rw[k3]
 clear k3
 generalize hy:a3+256*(b3+256*(c3+256*(d3+256*(e3+256*(f3+256*(g3+256*(h3+256*0)))))))+(b3+256*(c3+256*(d3+256*(e3+256*(f3+256*(g3+256*h3))))))=y
 have hy':y=(a3+b3+256*(b3+c3))+65536*((c3+d3+256*(d3+e3))+65536*((e3+f3+256*(f3+g3))+65536*(g3+h3+256*h3))):=by omega
 clear hy
 have k4:y/65536=(c3+d3+256*(d3+e3))+65536*((e3+f3+256*(f3+g3))+65536*(g3+h3+256*h3)):=by omega
 rw[k4]
 subst hy'
 clear k4
 generalize hz:a3+b3+256*(b3+c3)+65536*(c3+d3+256*(d3+e3)+65536*(e3+f3+256*(f3+g3)+65536*(g3+h3+256*h3)))+(c3+d3+256*(d3+e3)+65536*(e3+f3+256*(f3+g3)+65536*(g3+h3+256*h3)))=z
 have hz':z=(a3+b3+c3+d3+256*(b3+c3+d3+e3)+65536*(c3+d3+e3+f3+256*(d3+e3+f3+g3)))+4294967296*((e3+f3+g3+h3)+256*(f3+g3+h3)+65536*(g3+h3+256*h3)):=by omega
 clear hz
 have k5:z/4294967296=(e3+f3+g3+h3)+256*(f3+g3+h3)+65536*(g3+h3+256*h3):=by omega
 rw[k5]
 refine⟨by omega,by omega,by omega,?_⟩
 omega
theorem count_steps (x:Nat) (hx:x<18446744073709551616):∃x1 x2 x3 x4 x5 x6,st1 8 x=x1∧st2 8 x1=x2∧st3 8 x2=x3∧x3+x3/256=x4∧x4+x4/65536=x5∧x5+x5/4294967296=x6∧
  x1<18446744073709551616∧x2<18446744073709551616∧x2/16+x2<18446744073709551616∧x3<18446744073709551616∧x4<9223372036854775808∧x5<9223372036854775808∧x6<9223372036854775808∧x6%128=ones 64 x:=by
 obtain⟨a,b,c,d,e,f,g,h,⟨ha,hb,hc,hd,he,hf,hg,hh⟩,rfl⟩:=by8_split x hx
 have A:=q_all ⟨a,ha⟩;have B:=q_all ⟨b,hb⟩;have C:=q_all ⟨c,hc⟩;have D:=q_all ⟨d,hd⟩
 have E:=q_all ⟨e,he⟩;have F:=q_all ⟨f,hf⟩;have G:=q_all ⟨g,hg⟩;have H:=q_all ⟨h,hh⟩
 simp only at A B C D E F G H
 have hs1:st1 8 (by8 a b c d e f g h)=by8 (q1 a) (q1 b) (q1 c) (q1 d) (q1 e) (q1 f) (q1 g) (q1 h):=by
  unfold by8
  rw[st1_succ _ _ _ ha,st1_succ _ _ _ hb,st1_succ _ _ _ hc,st1_succ _ _ _ hd,st1_succ _ _ _ he,st1_succ _ _ _ hf,st1_succ _ _ _ hg,st1_succ _ _ _ hh,st1_zero]
 have hs2:st2 8 (by8 (q1 a) (q1 b) (q1 c) (q1 d) (q1 e) (q1 f) (q1 g) (q1 h))=by8 (q2 (q1 a)) (q2 (q1 b)) (q2 (q1 c)) (q2 (q1 d)) (q2 (q1 e)) (q2 (q1 f)) (q2 (q1 g)) (q2 (q1 h)):=by
  unfold by8
  rw[st2_succ _ _ _ A.1,st2_succ _ _ _ B.1,st2_succ _ _ _ C.1,st2_succ _ _ _ D.1,st2_succ _ _ _ E.1,st2_succ _ _ _ F.1,st2_succ _ _ _ G.1,st2_succ _ _ _ H.1,st2_zero]
 have hs3:st3 8 (by8 (q2 (q1 a)) (q2 (q1 b)) (q2 (q1 c)) (q2 (q1 d)) (q2 (q1 e)) (q2 (q1 f)) (q2 (q1 g)) (q2 (q1 h)))=by8 (ones 8 a) (ones 8 b) (ones 8 c) (ones 8 d) (ones 8 e) (ones 8 f) (ones 8 g) (ones 8 h):=by
  unfold by8
  rw[st3_succ _ _ _ A.2.2.1 A.2.2.2.1 (by omega),st3_succ _ _ _ B.2.2.1 B.2.2.2.1 (by omega),st3_succ _ _ _ C.2.2.1 C.2.2.2.1 (by omega),st3_succ _ _ _ D.2.2.1 D.2.2.2.1 (by omega),
   st3_succ _ _ _ E.2.2.1 E.2.2.2.1 (by omega),st3_succ _ _ _ F.2.2.1 F.2.2.2.1 (by omega),st3_succ _ _ _ G.2.2.1 G.2.2.2.1 (by omega),st3_succ _ _ _ H.2.2.1 H.2.2.2.1 (by omega),st3_zero,
   A.2.2.2.2.1,B.2.2.2.2.1,C.2.2.2.2.1,D.2.2.2.2.1,E.2.2.2.2.1,F.2.2.2.2.1,G.2.2.2.2.1,H.2.2.2.2.1]
 have ho:ones 64 (by8 a b c d e f g h)=ones 8 a+(ones 8 b+(ones 8 c+(ones 8 d+(ones 8 e+(ones 8 f+(ones 8 g+(ones 8 h+0))))))):=by
  unfold by8
  rw[show(64:Nat)=8+(8+(8+(8+(8+(8+(8+(8+0))))))) from rfl,ones_byte _ _ _ ha,ones_byte _ _ _ hb,ones_byte _ _ _ hc,ones_byte _ _ _ hd,ones_byte _ _ _ he,ones_byte _ _ _ hf,ones_byte _ _ _ hg,ones_byte _ _ _ hh]
  rfl
 obtain⟨x4,x5,x6,p4,p5,p6,b4,b5,b6,hm⟩:=by8_sum _ _ _ _ _ _ _ _ A.2.2.2.2.2 B.2.2.2.2.2 C.2.2.2.2.2 D.2.2.2.2.2 E.2.2.2.2.2 F.2.2.2.2.2 G.2.2.2.2.2 H.2.2.2.2.2
 have l2:by8 (q2 (q1 a)) (q2 (q1 b)) (q2 (q1 c)) (q2 (q1 d)) (q2 (q1 e)) (q2 (q1 f)) (q2 (q1 g)) (q2 (q1 h))≤4919131752989213764:=by
  apply by8_le
  ·have :=A.2.2.1;have :=A.2.2.2.1;omega
  ·have :=B.2.2.1;have :=B.2.2.2.1;omega
  ·have :=C.2.2.1;have :=C.2.2.2.1;omega
  ·have :=D.2.2.1;have :=D.2.2.2.1;omega
  ·have :=E.2.2.1;have :=E.2.2.2.1;omega
  ·have :=F.2.2.1;have :=F.2.2.2.1;omega
  ·have :=G.2.2.1;have :=G.2.2.2.1;omega
  ·have :=H.2.2.1;have :=H.2.2.2.1;omega
 refine⟨_,_,_,x4,x5,x6,hs1,hs2,hs3,p4,p5,p6,by8_lt A.1 B.1 C.1 D.1 E.1 F.1 G.1 H.1,?_,?_,?_,b4,b5,b6,?_⟩
 ·clear A B C D E F G H hs1 hs2 hs3 ho p4 p5 p6 hm;omega
 ·clear A B C D E F G H hs1 hs2 hs3 ho p4 p5 p6 hm;omega
 ·clear A B C D E F G H hs1 hs2 hs3 ho p5 p6 hm;omega
 ·rw[ho];exact hm
theorem filter_range_cut (p q:Nat→Bool) (n c:Nat) (hc:c<n) (hlow:∀j,j<c→p j=false∧q j=false) (hp:p c=true) (hq:q c=false) (hup:∀j,c<j→p j=q j):
  (List.range n).filter p=c::(List.range n).filter q:=by
 obtain⟨d,rfl⟩:∃d,n=c+(1+d):=⟨n-c-1,by omega⟩
 have e1:∀r:Nat→Bool,(∀j,j<c→r j=false)→(List.range c).filter r=[]:=by
  intro r hr
  rw[List.filter_eq_nil_iff]
  intro j hj
  rw[List.mem_range] at hj
  simp[hr j hj]
 rw[filter_range_add p,filter_range_add q,e1 p λj h=>(hlow j h).1,e1 q λj h=>(hlow j h).2,filter_range_add _ 1 d,filter_range_add _ 1 d]
 have s1:(List.range 1).filter (λj=>p (c+j))=[0]:=by simp[List.range_succ,hp]
 have s2:(List.range 1).filter (λj=>q (c+j))=[]:=by simp[List.range_succ,hq]
 have s3:(List.range d).filter (λj=>p (c+(1+j)))=(List.range d).filter (λj=>q (c+(1+j))):=List.filter_congr λj _=>hup _ (by omega)
 rw[s1,s2,s3]
 simp
theorem testBit_pow_mul (k m j:Nat):(2^k*m).testBit j=(decide (k≤j)&&m.testBit (j-k)):=by
 rw[Nat.mul_comm,Nat.testBit_mul_two_pow]
theorem bitL_next (x:Nat) (h0:x≠0) (hx:x<18446744073709551616):Lib.ctz 64 x<64∧bitL x=Lib.ctz 64 x::bitL (x &&& (x-1)):=by
 have hx':x<2^64:=hx
 obtain⟨m,hm,hk⟩:=Lib.ctzFrom_spec 64 x (by omega) hx'
 have e:Lib.ctz 64 x=Lib.ctzFrom 64 x:=by simp[Lib.ctz,h0]
 rw[e]
 refine⟨hk,?_⟩
 generalize Lib.ctzFrom 64 x=k at *
 clear e
 have hp:0<2^k:=Nat.two_pow_pos k
 have e1:x-1=2^k*(2*m)+(2^k-1):=by
  rw[hm,Nat.mul_add,Nat.mul_one];omega
 have t0:∀j,(2^k*(2*m)).testBit j=(decide (k<j)&&m.testBit (j-k-1)):=by
  intro j
  rw[testBit_pow_mul]
  by_cases h:k<j
  ·obtain⟨d,rfl⟩:∃d,j=k+(d+1):=⟨j-k-1,by omega⟩
   have e2:k+(d+1)-k=d+1:=by omega
   rw[e2,Nat.testBit_succ,show 2*m/2=m by omega]
   simp
  ·have :k≤j→(2*m).testBit (j-k)=false:=by
    intro hkj
    rw[show j-k=0 by omega,Nat.testBit_zero]
    simp
   by_cases h2:k≤j
   ·simp[this h2,h]
   ·simp[h2,h]
 have tx:∀j,x.testBit j=(decide (j=k)||(decide (k<j)&&m.testBit (j-k-1))):=by
  intro j
  rw[hm,testBit_pow_mul]
  by_cases h:k<j
  ·obtain⟨d,rfl⟩:∃d,j=k+(d+1):=⟨j-k-1,by omega⟩
   have e2:k+(d+1)-k=d+1:=by omega
   rw[e2,Nat.testBit_succ,show(2*m+1)/2=m by omega]
   simp
  ·by_cases h2:k=j
   ·subst h2;simp[Nat.testBit_zero]
   ·have h3:¬k≤j:=by omega
    have h4:¬j=k:=by omega
    simp[h,h3,h4]
 have ty:∀j,(x &&& (x-1)).testBit j=(decide (k<j)&&m.testBit (j-k-1)):=by
  intro j
  rw[Nat.testBit_and,tx,e1,Nat.testBit_two_pow_mul_add _ (by omega)]
  by_cases h:j<k
  ·have h2:¬j=k:=by omega
   have h3:¬k<j:=by omega
   simp[h2,h3]
  ·rw[if_neg h]
   by_cases h2:k<j
   ·obtain⟨d,rfl⟩:∃d,j=k+(d+1):=⟨j-k-1,by omega⟩
    have e2:k+(d+1)-k=d+1:=by omega
    rw[e2,Nat.testBit_succ,show 2*m/2=m by omega]
    simp
   ·obtain rfl:j=k:=by omega
    simp[Nat.testBit_zero]
 unfold bitL
 refine filter_range_cut _ _ 64 k hk ?_ ?_ ?_ ?_
 ·intro j hj
  rw[tx,ty]
  have h2:¬j=k:=by omega
  have h3:¬k<j:=by omega
  simp[h2,h3]
 ·rw[tx];simp
 ·rw[ty];simp
 ·intro j hj
  rw[tx,ty]
  have h2:¬j=k:=by omega
  simp[h2]
theorem bitL_zero:bitL 0=[]:=by simp[bitL]
def In64 (X:List Int):Prop:=∀i,0≤X.getD i 0∧X.getD i 0<18446744073709551616
theorem In64.set {X:List Int} (h:In64 X) (i:Nat) (x:Int) (h0:0≤x) (h1:x<18446744073709551616):In64 (X.set i x):=by
 intro j
 rw[List.getD_eq_getElem?_getD,List.getElem?_set]
 split
 ·split
  ·exact⟨h0,h1⟩
  ·exact⟨by simp,by simp⟩
 ·rw[←List.getD_eq_getElem?_getD];exact h j
theorem In64.put {ps:List (Int×Int)}:∀{X:List Int},In64 X→(∀p∈ps,0≤p.2∧p.2<18446744073709551616)→In64 (putAll X ps):=by
 induction ps with
 |nil=>intro X h _;exact h
 |cons p ps ih=>
  intro X h hp
  show In64 (putAll (X.set p.1.toNat p.2) ps)
  have :=hp p (by simp)
  exact ih (h.set _ _ this.1 this.2) λq hq=>hp q (by simp[hq])
def bw (X:List Int) (k:Nat):Nat:=(X.getD (816+k) 0).toNat
theorem bw_lt {X:List Int} (h:In64 X) (k:Nat):bw X k<18446744073709551616:=by have :=h (816+k);unfold bw;omega
theorem bw_cast {X:List Int} (h:In64 X) (k:Nat):((bw X k:Nat):Int)=X.getD (816+k) 0:=by have :=h (816+k);unfold bw;omega
def usedN (X:List Int) (b:Nat):Bool:=(bw X (b/64)).testBit (b%64)
def frW (X:List Int) (k:Nat):Nat:=if k=0 then (18446744073709551615-bw X 0) &&& (18446744073709551615-1) else 18446744073709551615-bw X k
theorem testBit_not (x j:Nat) (hx:x<18446744073709551616):(18446744073709551615-x).testBit j=(decide (j<64) && !x.testBit j):=by
 have :=Nat.testBit_two_pow_sub_succ (x:=x) (n:=64) hx j
 rw[←this]
 congr 1
 show _=18446744073709551616-(x+1)
 omega
theorem frW_lt (X:List Int) (k:Nat):frW X k<18446744073709551616:=by
 unfold frW
 split
 ·have :(18446744073709551615-bw X 0) &&& (18446744073709551615-1)≤18446744073709551615-bw X 0:=Nat.and_le_left
  omega
 ·omega
theorem testBit_frW {X:List Int} (h:In64 X) (k j:Nat):(frW X k).testBit j=(decide (j<64) && !(bw X k).testBit j && !(decide (k=0)&&decide (j=0))):=by
 unfold frW
 split
 ·rename_i hk
  subst hk
  rw[Nat.testBit_and,testBit_not _ _ (bw_lt h 0),testBit_not _ _ (by omega),show(1:Nat)=2^0 from rfl,Nat.testBit_two_pow]
  by_cases h1:j<64<;>by_cases h2:j=0<;>simp[h1,h2]<;>(intro;omega)
 ·rename_i hk
  rw[testBit_not _ _ (bw_lt h k)]
  simp[hk]
def freeTo (X:List Int) (n:Nat):List Nat:=(List.range n).filter λb=>b != 0 && !usedN X b
def freeL (X:List Int):List Nat:=freeTo X 256
theorem freeTo_word {X:List Int} (h:In64 X) (k:Nat):freeTo X (64*(k+1))=freeTo X (64*k)++(bitL (frW X k)).map (64*k+·):=by
 unfold freeTo bitL
 rw[show 64*(k+1)=64*k+64 by omega,filter_range_add]
 congr 2
 apply List.filter_congr
 intro j hj
 rw[List.mem_range] at hj
 rw[testBit_frW h,usedN,show(64*k+j)/64=k by omega,show(64*k+j)%64=j by omega]
 by_cases h1:k=0<;>by_cases h2:j=0
 ·subst h1;subst h2;simp
 ·simp[h1,h2,hj]
 ·have h3:¬(64*k=0):=by omega
  simp[h1,h2,h3]
 ·have :¬(64*k+j=0):=by omega
  simp[h1,h2,hj]
theorem freeTo_mem {X:List Int} {n b:Nat}:b∈freeTo X n↔b<n∧b≠0∧usedN X b=false:=by
 unfold freeTo
 rw[List.mem_filter,List.mem_range]
 simp
theorem freeTo_nodup (X:List Int) (n:Nat):(freeTo X n).Nodup:=List.Pairwise.filter _ List.nodup_range
theorem freeL_len (X:List Int):(freeL X).length≤255:=by
 unfold freeL freeTo
 rw[show(256:Nat)=1+255 from rfl,filter_range_add,List.length_append]
 have h1:((List.range 1).filter λb=>b != 0 && !usedN X b).length=0:=by simp[List.range_succ]
 have h2:=List.length_filter_le (λj=>(1+j) != 0 && !usedN X (1+j)) (List.range 255)
 rw[List.length_map,h1]
 simp only[List.length_range] at h2
 omega
theorem freeTo_len {X:List Int} (h:In64 X) (k:Nat):(freeTo X (64*(k+1))).length=(freeTo X (64*k)).length+ones 64 (frW X k):=by
 rw[freeTo_word h,List.length_append,List.length_map,ones_bitL]
def setW (x j:Nat) (u:Bool):Nat:=if u=true then (x &&& (18446744073709551615-2^j)) ||| 2^j else x &&& (18446744073709551615-2^j)
theorem pow_lt64 {j:Nat} (hj:j<64):2^j<18446744073709551616:=Nat.lt_of_lt_of_le (Nat.pow_lt_pow_right (by decide) hj) (by decide)
theorem setW_lt {x j:Nat} (hx:x<18446744073709551616) (hj:j<64) (u:Bool):setW x j u<18446744073709551616:=by
 have h1:x &&& (18446744073709551615-2^j)<2^64:=Nat.lt_of_le_of_lt Nat.and_le_left hx
 unfold setW
 split
 ·exact Nat.or_lt_two_pow h1 (pow_lt64 hj)
 ·exact h1
theorem testBit_setW {x j:Nat} (hx:x<18446744073709551616) (hj:j<64) (u:Bool) (i:Nat):(setW x j u).testBit i=if i=j then u else x.testBit i:=by
 have h64:¬i<64→x.testBit i=false:=by
  intro h
  apply Nat.testBit_lt_two_pow
  exact Nat.lt_of_lt_of_le hx (Nat.pow_le_pow_right (n:=2) (i:=64) (by decide) (by omega))
 have h1:(x &&& (18446744073709551615-2^j)).testBit i=(x.testBit i && !decide (i=j)):=by
  rw[Nat.testBit_and,testBit_not _ _ (pow_lt64 hj),Nat.testBit_two_pow]
  by_cases h:i<64
  ·by_cases h2:i=j
   ·simp[h2]
   ·have :¬j=i:=λe=>h2 e.symm
    simp[h,h2,this]
  ·simp[h64 h]
 unfold setW
 split
 ·rename_i hu
  rw[Nat.testBit_or,h1,Nat.testBit_two_pow,hu]
  by_cases h2:i=j
  ·simp[h2]
  ·have :¬j=i:=λe=>h2 e.symm
   simp[h2,this]
 ·rename_i hu
  rw[h1]
  have :u=false:=by simpa using hu
  subst this
  by_cases h2:i=j<;>simp[h2]
def setPs (X:List Int) (b:Nat) (u:Bool):List (Int×Int):=if b=0∨256≤b then [] else [((816+b/64:Nat),(setW (bw X (b/64)) (b%64) u:Nat))]
theorem setPs_in {X:List Int} (h:In64 X) (b:Nat) (u:Bool):∀p∈setPs X b u,0≤p.2∧p.2<18446744073709551616:=by
 intro p hp
 unfold setPs at hp
 split at hp
 ·simp at hp
 ·rw[List.mem_singleton] at hp
  subst hp
  have :=setW_lt (bw_lt h (b/64)) (Nat.mod_lt b (by decide:0<64)) u
  exact⟨by simp,by show((_:Nat):Int)<_;omega⟩
theorem getD_setI (l:List Int) (i j:Nat) (x:Int) (hi:i<l.length):(l.set i x).getD j 0=if i=j then x else l.getD j 0:=by
 rw[List.getD_eq_getElem?_getD,List.getElem?_set]
 by_cases e:i=j
 ·subst e;simp[hi]
 ·rw[if_neg e,if_neg e,List.getD_eq_getElem?_getD]
theorem usedN_set {X:List Int} (h:In64 X) (hl:X.length=3128) (b:Nat) (h0:b≠0) (hb:b<256) (u:Bool) (c:Nat):usedN (putAll X (setPs X b u)) c=if c=b then u else usedN X c:=by
 unfold setPs
 rw[if_neg (by omega),putAll_one,Int.toNat_natCast]
 unfold usedN bw
 rw[getD_setI _ _ _ _ (by omega)]
 by_cases e:816+b/64=816+c/64
 ·rw[if_pos e,Int.toNat_natCast,show(X.getD (816+b/64) 0).toNat=bw X (b/64) from rfl,testBit_setW (bw_lt h (b/64)) (Nat.mod_lt b (by decide:0<64))]
  have e2:c/64=b/64:=by omega
  rw[e2]
  by_cases e3:c=b
  ·rw[if_pos e3,if_pos (by rw[e3])]
  ·rw[if_neg e3,if_neg (by omega)];rfl
 ·rw[if_neg e,if_neg (by intro e2;subst e2;exact e rfl)]
def emptyTo (b k:Nat):List (Int×Int):=(List.range k).map λ(j:Nat)=>(((1080+b*8+j:Nat):Int),(0:Int))
def emptyPs (b:Nat):List (Int×Int):=emptyTo b 8
theorem emptyTo_succ (b k:Nat):emptyTo b (k+1)=emptyTo b k++[(((1080+b*8+k:Nat):Int),(0:Int))]:=by
 unfold emptyTo
 rw[List.range_succ,List.map_append]
 rfl
theorem emptyTo_len (b k:Nat):(emptyTo b k).length=k:=by simp[emptyTo]
theorem emptyPs_mem {b:Nat} {p:Int×Int} (h:p∈emptyPs b):∃j,j<8∧p=(((1080+b*8+j:Nat):Int),(0:Int)):=by
 unfold emptyPs emptyTo at h
 rw[List.mem_map] at h
 obtain⟨j,hj,rfl⟩:=h
 exact⟨j,List.mem_range.1 hj,rfl⟩
theorem usedN_other {X:List Int} {ps:List (Int×Int)} (h:∀p∈ps,1080≤p.1) (c:Nat) (hc:c<256):usedN (putAll X ps) c=usedN X c:=by
 unfold usedN bw
 rw[putAll_other _ _ _ λp hp=>by have :=h p hp;omega]
def takePs (X:List Int):List Nat→List (Int×Int)
 | []=>[]
 |b::l=>(setPs X b true++emptyPs b)++takePs (putAll X (setPs X b true++emptyPs b)) l
theorem take1_in {X:List Int} (h:In64 X) (b:Nat):∀p∈setPs X b true++emptyPs b,0≤p.2∧p.2<18446744073709551616:=by
 intro p hp
 rw[List.mem_append] at hp
 rcases hp with hp|hp
 ·exact setPs_in h b true p hp
 ·obtain⟨j,-,rfl⟩:=emptyPs_mem hp
  exact⟨Int.le_refl 0,by show(0:Int)<_;omega⟩
theorem usedN_take1 {X:List Int} (h:In64 X) (hl:X.length=3128) (b:Nat) (h0:b≠0) (hb:b<256) (c:Nat) (hc:c<256):usedN (putAll X (setPs X b true++emptyPs b)) c=(usedN X c||decide (c=b)):=by
 rw[putAll_append,usedN_other (λp hp=>by obtain⟨j,-,rfl⟩:=emptyPs_mem hp;show(1080:Int)≤((_:Nat):Int);omega) c hc,usedN_set h hl b h0 hb]
 by_cases e:c=b<;>simp[e]
theorem setPs_len (X:List Int) (b:Nat) (h0:b≠0) (hb:b<256) (u:Bool):(setPs X b u).length=1:=by
 unfold setPs
 rw[if_neg (by omega)]
 rfl
theorem takePs_len (l:List Nat):∀X:List Int,(∀b∈l,b≠0∧b<256)→(takePs X l).length=9*l.length:=by
 induction l with
 |nil=>intro X _;rfl
 |cons b l ih=>
  intro X h
  obtain⟨h0,h1⟩:=h b (by simp)
  show((setPs X b true++emptyPs b)++takePs _ l).length=_
  rw[List.length_append,List.length_append,setPs_len X b h0 h1,emptyPs,emptyTo_len,ih _ λc hc=>h c (by simp[hc])]
  simp only[List.length_cons]
  omega
theorem takePs_snoc (l:List Nat) (b:Nat):∀X:List Int,takePs X (l++[b])=takePs X l++(setPs (putAll X (takePs X l)) b true++emptyPs b):=by
 induction l with
 |nil=>intro X;show(setPs X b true++emptyPs b)++[]=[]++_;rw[List.append_nil];rfl
 |cons c l ih=>
  intro X
  have e:putAll X (takePs X (c::l))=putAll (putAll X (setPs X c true++emptyPs c)) (takePs (putAll X (setPs X c true++emptyPs c)) l):=putAll_append _ _ _
  rw[e]
  show(setPs X c true++emptyPs c)++takePs (putAll X (setPs X c true++emptyPs c)) (l++[b])=((setPs X c true++emptyPs c)++takePs (putAll X (setPs X c true++emptyPs c)) l)++_
  rw[ih,List.append_assoc (setPs X c true++emptyPs c)]
theorem takePs_state (l:List Nat):∀X:List Int,In64 X→X.length=3128→(∀b∈l,b≠0∧b<256)→
  In64 (putAll X (takePs X l))∧(putAll X (takePs X l)).length=3128∧∀c,c<256→usedN (putAll X (takePs X l)) c=(usedN X c||decide (c∈l)):=by
 induction l with
 |nil=>intro X h hl _;exact⟨h,hl,λc _=>by simp[takePs,putAll]⟩
 |cons b l ih=>
  intro X h hl hb
  obtain⟨h0,h1⟩:=hb b (by simp)
  have hX:In64 (putAll X (setPs X b true++emptyPs b)):=h.put (take1_in h b)
  obtain⟨k1,k2,k3⟩:=ih (putAll X (setPs X b true++emptyPs b)) hX (by rw[putAll_len];exact hl) λc hc=>hb c (by simp[hc])
  have e:putAll X (takePs X (b::l))=putAll (putAll X (setPs X b true++emptyPs b)) (takePs (putAll X (setPs X b true++emptyPs b)) l):=putAll_append _ _ _
  rw[e]
  refine⟨k1,k2,λc hc=> ?_⟩
  rw[k3 c hc,usedN_take1 h hl b h0 h1 c hc]
  by_cases e1:c=b<;>by_cases e2:c∈l<;>simp[e1,e2]
theorem filter_drop_take {l:List Nat} (hn:l.Nodup) (n:Nat):l.filter (λc=> !decide (c∈l.take n))=l.drop n:=by
 have h1:l.filter (λc=> !decide (c∈l.take n))=(l.take n++l.drop n).filter (λc=> !decide (c∈l.take n)):=by rw[List.take_append_drop]
 rw[h1,List.filter_append]
 have hd:∀c,c∈l.take n→c∈l.drop n→False:=by
  rw[←List.take_append_drop n l] at hn
  intro c h2 h3
  exact(List.nodup_append.1 hn).2.2 c h2 c h3 rfl
 have e1:(l.take n).filter (λc=> !decide (c∈l.take n))=[]:=by
  rw[List.filter_eq_nil_iff];intro c hc;simp[hc]
 have e2:(l.drop n).filter (λc=> !decide (c∈l.take n))=l.drop n:=by
  rw[List.filter_eq_self];intro c hc
  have :c∉l.take n:=λh=>hd c h hc
  simp[this]
 rw[e1,e2,List.nil_append]
theorem freeL_take {X:List Int} (h:In64 X) (hl:X.length=3128) (n:Nat):In64 (putAll X (takePs X ((freeL X).take n)))∧(putAll X (takePs X ((freeL X).take n))).length=3128∧freeL (putAll X (takePs X ((freeL X).take n)))=(freeL X).drop n:=by
 have hm:∀b∈(freeL X).take n,b≠0∧b<256:=λb hb=>by
  have :=freeTo_mem.1 (List.mem_of_mem_take hb)
  exact⟨this.2.1,this.1⟩
 obtain⟨k1,k2,k3⟩:=takePs_state ((freeL X).take n) X h hl hm
 refine⟨k1,k2,?_⟩
 have hd:=filter_drop_take (freeTo_nodup X 256) n
 have e:∀Y,freeTo Y 256=(List.range 256).filter (λb=>b != 0 && !usedN Y b):=λ_=>rfl
 have k3':∀c,c<256→usedN (putAll X (takePs X (List.take n (freeTo X 256)))) c=(usedN X c||decide (c∈List.take n (freeTo X 256))):=k3
 clear k3 k1 k2 hm
 show freeTo (putAll X (takePs X (List.take n (freeTo X 256)))) 256=List.drop n (freeTo X 256)
 generalize List.take n (freeTo X 256)=L at *
 rw[←hd,e X,e,List.filter_filter]
 apply List.filter_congr
 intro c hc
 rw[List.mem_range] at hc
 rw[k3' c hc]
 by_cases e1:c∈L<;>simp[e1]
end Go.Proofs.YtphojondgfjmgaaGreatDoor
namespace Go.Proofs.YtphojondgfjmgaaGreatDoor
open Go.RowKit
def blockN (b:Int):Int:=if b<0∨256≤b then -1 else 1080+b*8
set_option maxHeartbeats 400000 in
theorem txBlock_at (b:Int) (w:World):Calls Tryz.prog 80 #[.int .i64 b] w λe w'=>e= .returned (.int .i64 (blockN b))∧w=w':=by
 rcases (show b<0∨256≤b∨(0≤b∧b<256) by omega) with h|h|⟨h1,h2⟩
 ·rw[blockN,if_pos (.inl h)]
  go_enter Tryz.func80,Tryz.ntmps80
  go_wp2
  go_ret
  exact⟨rfl,rfl⟩
 ·rw[blockN,if_pos (.inr h)]
  have h0:¬b<0:=by omega
  go_enter Tryz.func80,Tryz.ntmps80
  go_wp2
  go_ret
  exact⟨rfl,rfl⟩
 ·rw[blockN,if_neg (by omega)]
  go_enter Tryz.func80,Tryz.ntmps80
  go_wp2
  go_ret
  exact⟨rfl,rfl⟩
theorem ret_intP {k:IntKind} {a b:Int} (h:a=b):Ending.returned (.int k a)= .returned (.int k b):=by rw[h]
def isBl (b:Int):Bool:=decide (0≤b)&&decide (b<256)
theorem isBl_iff {b:Int}:isBl b=true↔0≤b∧b<256:=by simp[isBl]
set_option maxHeartbeats 400000 in
theorem paIsBlock_at (i:Int) (w:World):Calls Tryz.prog 36 #[.int .i64 i] w λe w'=>e= .returned (.bool (isBl i))∧w=w':=by
 by_cases h0:0≤i
 ·by_cases h1:i<256
  ·rw[isBl_iff.2 ⟨h0,h1⟩]
   go_enter Tryz.func36,Tryz.ntmps36
   go_wp2
   go_ret
   exact⟨rfl,rfl⟩
  ·rw[show isBl i=false by simp[isBl];omega]
   go_enter Tryz.func36,Tryz.ntmps36
   go_wp2
   go_ret
   exact⟨rfl,rfl⟩
 ·rw[show isBl i=false by simp[isBl];omega]
  go_enter Tryz.func36,Tryz.ntmps36
  go_wp2
  go_ret
  exact⟨rfl,rfl⟩
set_option maxHeartbeats 400000 in
theorem paBitsOf_at (b:Nat) (hb:b<256) (w:World):Calls Tryz.prog 37 #[.int .i64 (b:Int)] w λe w'=>e= .returned (.int .i64 ((816+b/64:Nat):Int))∧w=w':=by
 have h0:(0:Int)≤(b:Int):=by omega
 have h1:(b:Int)<256:=by omega
 go_enter Tryz.func37,Tryz.ntmps37
 go_wp2
 go_ret
 exact⟨ret_intP (by omega),rfl⟩
def mskN (b:Nat):Nat:=2^(b%64)
theorem mskN_lt (b:Nat):mskN b<18446744073709551616:=pow_lt64 (Nat.mod_lt _ (by decide))
theorem mskN_shl (b:Nat):IntKind.u64.wrap (2^(b%64))=((mskN b:Nat):Int):=by
 have h:=mskN_lt b
 have e:((2:Int)^(b%64))=((2^(b%64):Nat):Int):=by simp
 rw[IntKind.wrap_u64,e]
 unfold mskN at *
 generalize 2^(b%64)=x at *
 omega
set_option maxHeartbeats 400000 in
theorem paMaskOf_at (b:Nat) (hb:b<256) (w:World):Calls Tryz.prog 38 #[.int .i64 (b:Int)] w λe w'=>e= .returned (.int .u64 ((mskN b:Nat):Int))∧w=w':=by
 have h0:(0:Int)≤(b:Int):=by omega
 have h1:(b:Int)<256:=by omega
 have H:=Lib.hid (mskN_shl b)
 go_enter Tryz.func38,Tryz.ntmps38
 go_wp2
 go_ret
 exact⟨ret_intP H.out,rfl⟩
theorem and_pow (x j:Nat):x &&& 2^j=if x.testBit j=true then 2^j else 0:=by
 apply Nat.eq_of_testBit_eq
 intro i
 rw[Nat.testBit_and,Nat.testBit_two_pow]
 by_cases e:j=i
 ·subst e
  cases h:x.testBit j<;>simp
 ·cases h:x.testBit j<;>simp[e]
theorem and_mskN (x b:Nat):(x &&& mskN b≠0)↔x.testBit (b%64)=true:=by
 unfold mskN
 rw[and_pow]
 have :=Nat.two_pow_pos (b%64)
 cases x.testBit (b%64)<;>simp<;>omega
theorem getN_bits {B:List Int} {ps:List (Int×Int)} (h:In64 (putAll B ps)) (k:Nat) (hk:k<2000):getN B ps ((816+k:Nat):Int)=((bw (putAll B ps) k:Nat):Int):=by
 unfold getN
 rw[if_pos (by omega),bw_cast h,Int.toNat_natCast]
theorem setW_mskN (x b:Nat):setW x (b%64) false=x &&& (18446744073709551615-mskN b)∧setW x (b%64) true=(x &&& (18446744073709551615-mskN b)) ||| mskN b:=⟨rfl,rfl⟩
set_option maxHeartbeats 2000000 in
theorem paSet_at {w:World} {b gp:Nat} {B:List Int} {ps:List (Int×Int)} (h:ShAt w b gp B ps) (h64:In64 (putAll B ps)) (hn:ps.length≤1000000) (i:Int) (u:Bool):
  Calls Tryz.prog 20 #[.pointer (some ⟨b,0,none⟩),.int .i64 i,.bool u] w (PutPost w b gp B (ps++setPs (putAll B ps) i.toNat u)):=by
 have HI:=Lib.hid (paIsBlock_at i w)
 by_cases hz:i=0
 ·subst hz
  have HM:Hid (PutPost w b gp B (ps++setPs (putAll B ps) (0:Int).toNat u) (.returned (.tuple #[])) w):=by
   show PutPost _ _ _ _ _ _ _
   rw[show setPs (putAll B ps) (0:Int).toNat u=[] by simp[setPs],List.append_nil]
   exact⟨rfl,gp,.inl rfl,h,Keeps.refl _ _⟩
  clear h
  go_enter Tryz.func20,Tryz.ntmps20
  go_wp2_with fail
  go_end0
  exact HM.out
 have e0:(i==0)=false:=by simpa using hz
 cases hi:isBl i
 ·rw[hi] at HI
  have HM:Hid (PutPost w b gp B (ps++setPs (putAll B ps) i.toNat u) (.returned (.tuple #[])) w):=by
   show PutPost _ _ _ _ _ _ _
   have :¬(0≤i∧i<256):=λe=>by rw[isBl_iff.2 e] at hi;cases hi
   rw[show setPs (putAll B ps) i.toNat u=[] by unfold setPs;rw[if_pos (by omega)],List.append_nil]
   exact⟨rfl,gp,.inl rfl,h,Keeps.refl _ _⟩
  clear hi h hz
  go_enter Tryz.func20,Tryz.ntmps20
  go_wp2_with fail
  refine HI.out.mono ?_;rintro e w' ⟨rfl,rfl⟩
  go_wp2_with fail
  go_end0
  exact HM.out
 ·rw[hi] at HI
  obtain⟨h0,h1⟩:=isBl_iff.1 hi
  clear hi
  obtain⟨j,rfl⟩:=Int.eq_ofNat_of_zero_le h0
  have hj:j<256:=by omega
  have hj0:¬(j=0∨256≤j):=by omega
  clear hz
  have HB:=Lib.hid (paBitsOf_at j hj w)
  have HM:=Lib.hid (paMaskOf_at j hj w)
  have HG:=Lib.hid (txGet_at h ((816+j/64:Nat):Int))
  rw[getN_bits h64 (j/64) (by omega)] at HG
  have hx:=bw_lt h64 (j/64)
  have hm:=mskN_lt j
  have ha:=u64_andNot_nat (bw (putAll B ps) (j/64)) (mskN j) hx hm
  have hy:bw (putAll B ps) (j/64) &&& (18446744073709551615-mskN j)<18446744073709551616:=Nat.lt_of_le_of_lt Nat.and_le_left hx
  have hin:inB ((816+j/64:Nat):Int)=true:=inB_iff.2 ⟨by omega,by omega⟩
  obtain⟨s0,s1⟩:=setW_mskN (bw (putAll B ps) (j/64)) j
  cases u
  ·have HP:Hid (Calls Tryz.prog 8 #[.pointer (some ⟨b,0,none⟩),.int .i64 ((816+j/64:Nat):Int),.int .u64 ((bw (putAll B ps) (j/64) &&& (18446744073709551615-mskN j):Nat):Int)] w (PutPost w b gp B (ps++setPs (putAll B ps) (j:Int).toNat false))):=by
    have :=txPut_at h hn ((816+j/64:Nat):Int) ((bw (putAll B ps) (j/64) &&& (18446744073709551615-mskN j):Nat):Int)
    unfold putN at this
    rw[if_pos hin] at this
    unfold setPs
    rw[Int.toNat_natCast,if_neg hj0,s0]
    exact this
   clear h h64 hn hx hm hin s0 s1 hj0 hy
   generalize ps++setPs (putAll B ps) (j:Int).toNat false=qs at *
   generalize bw (putAll B ps) (j/64) &&& (18446744073709551615-mskN j)=y at *
   generalize bw (putAll B ps) (j/64)=x at *
   generalize mskN j=m at *
   go_enter Tryz.func20,Tryz.ntmps20
   go_wp2_with fail
   refine HI.out.mono ?_;rintro e w' ⟨rfl,rfl⟩
   go_wp2_with fail
   refine HB.out.mono ?_;rintro e w' ⟨rfl,rfl⟩
   go_wp2_with fail
   refine HG.out.mono ?_;rintro e w' ⟨rfl,rfl⟩
   go_wp2_with fail
   refine HM.out.mono ?_;rintro e w' ⟨rfl,rfl⟩
   go_wp2_with fail
   refine HB.out.mono ?_;rintro e w' ⟨rfl,rfl⟩
   go_wp2_with fail
   refine HP.out.mono ?_;rintro e w' hp
   have HQ:=Lib.hid hp
   obtain⟨rfl,-⟩:=hp
   go_wp2_with fail
   go_end0
   exact HQ.out
  ·have ho:=u64_or_nat (bw (putAll B ps) (j/64) &&& (18446744073709551615-mskN j)) (mskN j) hy hm
   have HP:Hid (Calls Tryz.prog 8 #[.pointer (some ⟨b,0,none⟩),.int .i64 ((816+j/64:Nat):Int),.int .u64 (((bw (putAll B ps) (j/64) &&& (18446744073709551615-mskN j)) ||| mskN j:Nat):Int)] w (PutPost w b gp B (ps++setPs (putAll B ps) (j:Int).toNat true))):=by
    have :=txPut_at h hn ((816+j/64:Nat):Int) (((bw (putAll B ps) (j/64) &&& (18446744073709551615-mskN j)) ||| mskN j:Nat):Int)
    unfold putN at this
    rw[if_pos hin] at this
    unfold setPs
    rw[Int.toNat_natCast,if_neg hj0,s1]
    exact this
   clear h h64 hn hx hm hin s0 s1 hj0 hy
   generalize ps++setPs (putAll B ps) (j:Int).toNat true=qs at *
   generalize (bw (putAll B ps) (j/64) &&& (18446744073709551615-mskN j)) ||| mskN j=z at *
   generalize bw (putAll B ps) (j/64) &&& (18446744073709551615-mskN j)=y at *
   generalize bw (putAll B ps) (j/64)=x at *
   generalize mskN j=m at *
   go_enter Tryz.func20,Tryz.ntmps20
   go_wp2_with fail
   refine HI.out.mono ?_;rintro e w' ⟨rfl,rfl⟩
   go_wp2_with fail
   refine HB.out.mono ?_;rintro e w' ⟨rfl,rfl⟩
   go_wp2_with fail
   refine HG.out.mono ?_;rintro e w' ⟨rfl,rfl⟩
   go_wp2_with fail
   refine HM.out.mono ?_;rintro e w' ⟨rfl,rfl⟩
   go_wp2_with fail
   refine HM.out.mono ?_;rintro e w' ⟨rfl,rfl⟩
   go_wp2_with fail
   refine HB.out.mono ?_;rintro e w' ⟨rfl,rfl⟩
   go_wp2_with fail
   refine HP.out.mono ?_;rintro e w' hp
   have HQ:=Lib.hid hp
   obtain⟨rfl,-⟩:=hp
   go_wp2_with fail
   go_end0
   exact HQ.out
theorem xor_all (x:Nat) (hx:x<18446744073709551616):18446744073709551615 ^^^ x=18446744073709551615-x:=by
 apply Nat.eq_of_testBit_eq
 intro j
 rw[Nat.testBit_xor,testBit_not x j hx,show(18446744073709551615:Nat)=2^64-1 from rfl,Nat.testBit_two_pow_sub_one]
 by_cases h:j<64
 ·simp[h]
 ·have :x.testBit j=false:=by
   apply Nat.testBit_lt_two_pow
   exact Nat.lt_of_lt_of_le hx (Nat.pow_le_pow_right (n:=2) (i:=64) (by decide) (by omega))
  simp[h,this]
theorem xor_int (x:Nat) (hx:x<18446744073709551616):bits .xor .u64 IntKind.u64.max (x:Int)=((18446744073709551615-x:Nat):Int):=by
 rw[←xor_all x hx]
 exact u64_xor_nat 18446744073709551615 x (by decide) hx
set_option maxHeartbeats 1000000 in
theorem paFreeIn_at {w:World} {b gp:Nat} {B:List Int} {ps:List (Int×Int)} (h:ShAt w b gp B ps) (h64:In64 (putAll B ps)) (k:Nat) (hk:k<4):
  Calls Tryz.prog 107 #[.pointer (some ⟨b,0,none⟩),.int .i64 (k:Int)] w λe w'=>e= .returned (.int .u64 ((frW (putAll B ps) k:Nat):Int))∧w=w':=by
 have HG:=Lib.hid (txGet_at h ((816+k:Nat):Int))
 rw[getN_bits h64 k (by omega)] at HG
 have hx:=xor_int _ (bw_lt h64 k)
 have ek:IntKind.i64.wrap (816+(k:Int))=((816+k:Nat):Int):=by rw[IntWalk.i64_in _ (by omega)];omega
 by_cases h0:k=0
 ·subst h0
  have HM:Hid (Calls Tryz.prog 38 #[.int .i64 0] w (λe w'=>e= .returned (.int .u64 1)∧w=w')):=paMaskOf_at 0 (by decide) w
  have ha:bits .andNot .u64 (((18446744073709551615-bw (putAll B ps) 0:Nat)):Int) 1=((frW (putAll B ps) 0:Nat):Int):=by
   rw[frW,if_pos rfl]
   exact u64_andNot_nat (18446744073709551615-bw (putAll B ps) 0) 1 (by omega) (by decide)
  generalize frW (putAll B ps) 0=f at *
  generalize 18446744073709551615-bw (putAll B ps) 0=y at *
  generalize bw (putAll B ps) 0=x at *
  clear h h64
  go_enter Tryz.func107,Tryz.ntmps107
  go_wp2_with fail
  refine HG.out.mono ?_;rintro e w' ⟨rfl,rfl⟩
  go_wp2_with fail
  refine HM.out.mono ?_;rintro e w' ⟨rfl,rfl⟩
  go_wp2_with fail
  go_ret
  exact⟨rfl,rfl⟩
 ·have e0:((k:Int)==0)=false:=by simp;omega
  have hf:18446744073709551615-bw (putAll B ps) k=frW (putAll B ps) k:=by rw[frW,if_neg h0]
  rw[hf] at hx
  clear hf
  generalize frW (putAll B ps) k=f at *
  generalize bw (putAll B ps) k=x at *
  clear h h64
  go_enter Tryz.func107,Tryz.ntmps107
  go_wp2_with fail
  refine HG.out.mono ?_;rintro e w' ⟨rfl,rfl⟩
  go_wp2_with fail
  go_ret
  exact⟨rfl,rfl⟩
theorem rep_85:rep 85 8=6148914691236517205:=by decide
theorem rep_51:rep 51 8=3689348814741910323:=by decide
theorem rep_15:rep 15 8=1085102592571150095:=by decide
theorem wrapU (n:Nat) (h:n<18446744073709551616):IntKind.u64.wrap (n:Int)=(n:Int):=by rw[IntKind.wrap_u64];omega
theorem and_half (x d m:Nat) (hx:x<18446744073709551616) (hm:m<18446744073709551616):bits .and .u64 ((x:Int)/(d:Int)) (m:Int)=((x/d &&& m:Nat):Int):=
 u64_and_nat (x/d) m (Nat.lt_of_le_of_lt (Nat.div_le_self x d) hx) hm
theorem i64_and127 (x:Nat) (h:x<9223372036854775808):bits .and .i64 (x:Int) 127=((x%128:Nat):Int):=by
 show IntKind.i64.wrap ((BitVec.ofInt 64 (x:Int) &&& BitVec.ofInt 64 127).toNat:Int)=_
 have h1:BitVec.ofInt 64 127=BitVec.ofNat 64 127:=by decide
 rw[BitVec.toNat_and,ofInt_u64 x (by omega),h1,BitVec.toNat_ofNat,show(127%2^64:Nat)=2^7-1 from rfl,Nat.and_two_pow_sub_one_eq_mod]
 rw[IntWalk.i64_in _ (by omega)]
theorem count_walk (x:Nat) (hx:x<18446744073709551616):∃x1 x2 x3 x4 x5 x6:Nat,
  IntKind.u64.wrap (bits .and .u64 ((x:Int)/2) 6148914691236517205+bits .and .u64 (x:Int) 6148914691236517205)=(x1:Int)∧
  IntKind.u64.wrap (bits .and .u64 ((x1:Int)/4) 3689348814741910323+bits .and .u64 (x1:Int) 3689348814741910323)=(x2:Int)∧
  bits .and .u64 (IntKind.u64.wrap ((x2:Int)/16+(x2:Int))) 1085102592571150095=(x3:Int)∧
  IntKind.u64.wrap ((x3:Int)+(x3:Int)/256)=(x4:Int)∧
  IntKind.u64.wrap ((x4:Int)+(x4:Int)/65536)=(x5:Int)∧
  IntKind.u64.wrap ((x5:Int)+(x5:Int)/4294967296)=(x6:Int)∧
  IntKind.i64.wrap (x6:Int)=(x6:Int)∧bits .and .i64 (x6:Int) 127=((ones 64 x:Nat):Int):=by
 obtain⟨x1,x2,x3,x4,x5,x6,s1,s2,s3,s4,s5,s6,b1,b2,b2',b3,b4,b5,b6,hm⟩:=count_steps x hx
 unfold st1 at s1
 unfold st2 at s2
 unfold st3 at s3
 rw[rep_85] at s1
 rw[rep_51] at s2
 rw[rep_15] at s3
 refine⟨x1,x2,x3,x4,x5,x6,?_,?_,?_,?_,?_,?_,?_,?_⟩
 ·rw[show(bits .and .u64 ((x:Int)/2) 6148914691236517205)=_ from and_half x 2 6148914691236517205 hx (by decide),show(bits .and .u64 (x:Int) 6148914691236517205)=_ from u64_and_nat x 6148914691236517205 hx (by decide),←Int.natCast_add,s1]
  exact wrapU _ b1
 ·rw[show(bits .and .u64 ((x1:Int)/4) 3689348814741910323)=_ from and_half x1 4 3689348814741910323 b1 (by decide),show(bits .and .u64 (x1:Int) 3689348814741910323)=_ from u64_and_nat x1 3689348814741910323 b1 (by decide),←Int.natCast_add,s2]
  exact wrapU _ b2
 ·rw[show(x2:Int)/16+(x2:Int)=((x2/16+x2:Nat):Int) by omega,wrapU _ b2',←s3]
  exact u64_and_nat (x2/16+x2) 1085102592571150095 b2' (by decide)
 ·rw[show(x3:Int)+(x3:Int)/256=((x4:Nat):Int) by omega]
  exact wrapU _ (by omega)
 ·rw[show(x4:Int)+(x4:Int)/65536=((x5:Nat):Int) by omega]
  exact wrapU _ (by omega)
 ·rw[show(x5:Int)+(x5:Int)/4294967296=((x6:Nat):Int) by omega]
  exact wrapU _ (by omega)
 ·exact IntWalk.i64_in _ (by omega)
 ·rw[i64_and127 _ b6,hm]
set_option maxHeartbeats 1000000 in
theorem ones_at (x:Nat) (hx:x<18446744073709551616) (w:World):Calls Tryz.prog 106 #[.int .u64 (x:Int)] w λe w'=>e= .returned (.int .i64 ((ones 64 x:Nat):Int))∧w=w':=by
 obtain⟨x1,x2,x3,x4,x5,x6,E1,E2,E3,E4,E5,E6,E7,E8⟩:=count_walk x hx
 generalize ones 64 x=r at *
 clear hx
 go_enter Tryz.func106,Tryz.ntmps106
 go_wp2
 go_ret
 exact⟨rfl,rfl⟩
def TabAt (w:World):Prop:=∀j,j<64→w.cell? ⟨0,j,none⟩=some (.int .u8 ((Lib.deBruijn64tab.getD j 0:Nat):Int))
theorem tz_key (x a:Nat) (hx:x<18446744073709551616) (hx0:x≠0) (hlow:x &&& (18446744073709551616-x)=a):
  IntKind.u64.wrap (bits .and .u64 (x:Int) (IntKind.u64.wrap (-(x:Int)))*285870213051353865)/288230376151711744=((a*285870213051353865%18446744073709551616/288230376151711744:Nat):Int):=by
 have e1:IntKind.u64.wrap (-(x:Int))=((18446744073709551616-x:Nat):Int):=by rw[IntKind.wrap_u64];omega
 rw[e1,u64_and_nat x _ hx (by omega),hlow,IntKind.wrap_u64]
 omega
set_option maxHeartbeats 1000000 in
theorem tz_core (x k idx:Nat) (w:World) (hx0:((x:Int)==0)=false)
  (key:IntKind.u64.wrap (bits .and .u64 (x:Int) (IntKind.u64.wrap (-(x:Int)))*285870213051353865)/288230376151711744=(idx:Int))
  (hi:idx<64) (hk:k<64) (hcell:w.cell? ⟨0,idx,none⟩=some (.int .u8 k)):
  Calls Tryz.prog 108 #[.int .u64 (x:Int)] w λe w'=>e= .returned (.int .i64 (k:Int))∧w=w':=by
 go_enter Tryz.func108,Tryz.ntmps108
 go_wp2_with(simp only[key])
 go_ret
 exact⟨rfl,rfl⟩
theorem tz_at (x:Nat) (hx:x<18446744073709551616) (h0:x≠0) (w:World) (hT:TabAt w):Calls Tryz.prog 108 #[.int .u64 (x:Int)] w λe w'=>e= .returned (.int .i64 ((Lib.ctz 64 x:Nat):Int))∧w=w':=by
 obtain⟨hlow,hk⟩:=Lib.lowest_bit 64 x h0 hx
 obtain⟨hi,htab⟩:=Lib.deBruijn64_at _ hk
 have hcell:=hT _ hi
 rw[htab] at hcell
 exact tz_core x _ _ w (by simp;omega) (tz_key x _ hx h0 hlow) hi hk hcell
def Onto (w:World) (b gp:Nat) (B:List Int) (ps:List (Int×Int)) (w':World):Prop:=
 ∃gp',(gp'=gp∨(w.heap.size≤gp'∧gp'<w'.heap.size))∧ShAt w' b gp' B ps∧Keeps [b,gp] w w'
theorem Onto.refl {w:World} {b gp:Nat} {B:List Int} {ps:List (Int×Int)} (h:ShAt w b gp B ps):Onto w b gp B ps w:=⟨gp,.inl rfl,h,Keeps.refl _ _⟩
theorem Onto.post {w w':World} {b gp:Nat} {B:List Int} {ps:List (Int×Int)} (h:Onto w b gp B ps w'):PutPost w b gp B ps (.returned (.tuple #[])) w':=⟨rfl,h⟩
theorem Onto.trans {w w1 w2:World} {b gp gp1:Nat} {B:List Int} {qs:List (Int×Int)} (hg:gp1=gp∨(w.heap.size≤gp1∧gp1<w1.heap.size)) (hk:Keeps [b,gp] w w1) (h:Onto w1 b gp1 B qs w2):Onto w b gp B qs w2:=by
 obtain⟨gp2,h1,h2,h3⟩:=h
 have z1:=hk.size
 have z2:=h3.size
 refine⟨gp2,by omega,h2,hk.trans h3 λx hx=> ?_⟩
 simp only[List.mem_cons,List.not_mem_nil,or_false] at hx ⊢
 omega
theorem Onto.mono {w w1 w2:World} {b gp:Nat} {B:List Int} {qs:List (Int×Int)} (hk:Keeps [] w w1) (hgp:gp<w.heap.size) (h:Onto w1 b gp B qs w2):Onto w b gp B qs w2:=by
 obtain⟨gp2,h1,h2,h3⟩:=h
 have z1:=hk.size
 exact⟨gp2,by omega,h2,(hk.mono (by simp)).trans h3 λx hx=> .inl hx⟩
theorem emptyPut (ps:List (Int×Int)) (c k:Nat) (hc:c<256) (hk:k<8):putN (ps++emptyTo c k) ((1080+c*8+k:Nat):Int) 0=ps++emptyTo c (k+1):=by
 unfold putN
 rw[if_pos (inB_iff.2 ⟨by omega,by omega⟩),emptyTo_succ,List.append_assoc]
set_option maxHeartbeats 1000000 in
theorem paEmpty_at {w:World} {b gp:Nat} {B:List Int} {ps:List (Int×Int)} (h:ShAt w b gp B ps) (hn:ps.length≤999000) (c:Nat) (hc:c<256):
  Calls Tryz.prog 96 #[.pointer (some ⟨b,0,none⟩),.int .i64 (c:Int)] w (PutPost w b gp B (ps++emptyPs c)):=by
 have HS:=Lib.hid h
 have HN:=Lib.hid hn
 have HBL:∀w',Hid (Calls Tryz.prog 80 #[.int .i64 (c:Int)] w' λe w''=>e= .returned (.int .i64 ((1080+c*8:Nat):Int))∧w'=w''):=λw'=>by
  have :=txBlock_at (c:Int) w'
  rw[show blockN (c:Int)=((1080+c*8:Nat):Int) by unfold blockN;rw[if_neg (by omega)];omega] at this
  exact this
 clear h hn
 go_enter Tryz.func96,Tryz.ntmps96
 go_wp2_with fail
 go_loopg [5] 8 (λgh s5 wx=>∃k:Nat,k+gh=8∧s5= .int .i64 (k:Int)∧Hid (Onto w b gp B (ps++emptyTo c k) wx))
 case atStart=>exact⟨0,by omega,rfl,by show Onto _ _ _ _ _ _;rw[show emptyTo c 0=[] from rfl,List.append_nil];exact Onto.refl HS.out⟩
 case round=>
  obtain⟨k,hk,rfl,HR⟩:=hrel
  cases gk with
  |zero=>
   obtain rfl:k=8:=by omega
   clear hk
   go_wp2_with fail
   go_end0
   exact Onto.post HR.out
  |succ gg=>
   have hk8:k<8:=by omega
   have hlt:(k:Int)<8:=by omega
   have hk0:(0:Int)≤(k:Int):=by omega
   have HP:Hid (∀x:Int,x=((1080+c*8+k:Nat):Int)→Calls Tryz.prog 8 #[.pointer (some ⟨b,0,none⟩),.int .i64 x,.int .u64 0] wr λe w'=>e= .returned (.tuple #[])∧Hid (Onto w b gp B (ps++emptyTo c (k+1)) w')):=by
    intro x hx
    subst hx
    obtain⟨gp1,h1,h2,h3⟩:=HR.out
    refine(txPut_at h2 (by rw[List.length_append,emptyTo_len];have :=HN.out;omega) _ 0).mono ?_
    rintro e w' ⟨rfl,h4⟩
    rw[emptyPut ps c k hc hk8] at h4
    exact⟨rfl,Onto.trans h1 h3 h4⟩
   have HB:=HBL wr
   clear HR HBL
   go_wp2_with fail
   refine HB.out.mono ?_;rintro e w' ⟨rfl,rfl⟩
   go_wp2_with fail
   refine(HP.out _ (by omega)).mono ?_;rintro e w' ⟨rfl,HQ⟩
   go_wp2_with fail
   go_roundg gg
   case measure=>omega
   case rel=>exact⟨k+1,by omega,by go_num,HQ⟩
theorem freeTo_le (X:List Int) (n:Nat):(freeTo X n).length≤n:=by
 unfold freeTo
 have :=List.length_filter_le (λb=>b != 0 && !usedN X b) (List.range n)
 simpa using this
set_option maxHeartbeats 1000000 in
theorem paFree_at {w:World} {b gp:Nat} {B:List Int} {ps:List (Int×Int)} (h:ShAt w b gp B ps) (h64:In64 (putAll B ps)):
  Calls Tryz.prog 94 #[.pointer (some ⟨b,0,none⟩)] w λe w'=>e= .returned (.int .i64 (((freeL (putAll B ps)).length:Nat):Int))∧w=w':=by
 have HS:=Lib.hid h
 have H64:=Lib.hid h64
 clear h h64
 go_enter Tryz.func94,Tryz.ntmps94
 go_wp2_with fail
 go_loop [3,5] (λs3 s5=>∃k:Nat,k≤4∧s5= .int .i64 (k:Int)∧s3= .int .i64 (((freeTo (putAll B ps) (64*k)).length:Nat):Int)) (λ_ s5=>4-(intOf s5).toNat)
 case atStart=>exact⟨0,by omega,rfl,rfl⟩
 case round=>
  obtain⟨k,hk,rfl,rfl⟩:=hrel
  by_cases hlt:k<4
  ·have hlt':(k:Int)<4:=by omega
   have hk0:(0:Int)≤(k:Int):=by omega
   have HL:=Lib.hid (freeTo_len H64.out k)
   have hle:=freeTo_le (putAll B ps) (64*k)
   have hle2:=freeTo_le (putAll B ps) (64*(k+1))
   have e:=HL.out
   have HI:=Lib.hid (paFreeIn_at HS.out H64.out k hlt)
   have HO:=Lib.hid (ones_at (frW (putAll B ps) k) (frW_lt (putAll B ps) k) w)
   have ho:ones 64 (frW (putAll B ps) k)≤256:=by omega
   rw[e] at hle2
   clear e hle2
   generalize ones 64 (frW (putAll B ps) k)=o at *
   generalize hf:frW (putAll B ps) k=f at *
   clear hf
   generalize hq:(freeTo (putAll B ps) (64*k)).length=q at *
   clear hq
   go_wp2_with fail
   refine HI.out.mono ?_;rintro e w' ⟨rfl,rfl⟩
   go_wp2_with fail
   refine HO.out.mono ?_;rintro e w' ⟨rfl,rfl⟩
   go_wp2_with fail
   go_round
   case rel=>exact⟨k+1,by omega,by go_num,by rw[HL.out];go_num⟩
   case measure=>simp[intOf];omega
  ·obtain rfl:k=4:=by omega
   go_wp2_with fail
   go_ret
   exact⟨rfl,rfl⟩
def i64s (l:List Nat):List Value:=l.map λx:Nat=>Value.int .i64 (x:Int)
theorem i64s_len (l:List Nat):(i64s l).length=l.length:=by simp[i64s]
theorem i64s_get {l:List Nat} {j:Nat} (h:j<l.length):(i64s l)[j]? =some (.int .i64 ((l.getD j 0:Nat):Int)):=by simp[i64s,h]
theorem i64s_append (l m:List Nat):i64s (l++m)=i64s l++i64s m:=by simp[i64s]
theorem Tryz.info_int:(Tryz.prog.info? 3).map (λi=>(i.zero,i.size,i.bytes))=some (some (.int .i64 0),1,8):=by kernel_rfl
theorem make_ints (n:Nat) (hn:n≤100000) (w:World):(Instr.makeSlice 40 (.int .i64 0) (.int .i64 (n:Int))).run Tryz.prog w=
  .ok (.slice (some ⟨w.heap.size,0,none⟩) 0 n) (w.alloc (.cells (madeCells #[.int .i64 0] n) 3)):=by
 obtain⟨i0,hi,hz0,hz1,hz2⟩:=info_parts Tryz.info_int
 have :=run_make (P:= Tryz.prog) w 40 3 i0 _ Tryz.underlying40 hi hz0 .i64 .i64 0 (n:Int) (by omega) (by omega) (by rw[hz2];omega) (by omega)
 rw[hz1,Int.toNat_natCast,Nat.mul_one] at this
 exact this
theorem freeTo_prefix (X:List Int) (k m:Nat) (h:k≤m):∃r,freeTo X m=freeTo X k++r:=by
 obtain⟨d,rfl⟩:∃d,m=k+d:=⟨m-k,by omega⟩
 exact⟨_,filter_range_add _ k d⟩
theorem bitL_none {y:Nat} (hy:y<18446744073709551616) (h:bitL y=[]):y=0:=by
 by_cases h0:y=0
 ·exact h0
 ·have :=(bitL_next y h0 hy).2
  rw[h] at this
  cases this
def MadeInts (w:World) (l:List Nat) (e:Ending) (w':World):Prop:=
 ∃v g,e= .returned v∧Reads w' v g (i64s l)∧w.heap.size≤g∧g<w'.heap.size∧Keeps [] w w'
def Grows (w:World) (n:Nat) (l:List Nat) (v:Value) (wx:World):Prop:=
 wx.ownsRow w.heap.size 3 1 v l.length (i64s l)∧Keeps [] w wx∧l.length≤n∧v≠.slice none 0 0
theorem Grows.made {w wx:World} {n:Nat} {l:List Nat} {v:Value} (h:Grows w n l v wx):MadeInts w l (.returned v) wx:=by
 obtain⟨h1,h2,h3,h4⟩:=h
 obtain⟨h5,h6⟩:=h1
 rcases h6 with ⟨rfl,-⟩|⟨g,cap,cur,rfl,hg,hh,h7,h8,h9,h10⟩
 ·exact absurd rfl h4
 ·have hlt:g<wx.heap.size:=(Array.getElem?_eq_some_iff.1 hh).1
  exact⟨_,g,rfl,Owns.reads ⟨h5,_,cap,rfl,h7,h8,λ_=>⟨rfl,cur,hh,h9,h10⟩⟩,hg,hlt,h2⟩
theorem TabAt.keep {w w':World} (h:TabAt w) (hk:Keeps [] w w'):TabAt w':=λj hj=>by
 have h1:=h j hj
 rw[World.cell?_of_block (w:=w) (hk.block _ (lt_of_cell h1) (by simp))]
 exact h1
theorem low_step (y:Nat) (hy:y<18446744073709551616) (h0:y≠0):bits .and .u64 (y:Int) (IntKind.u64.wrap ((y:Int)-1))=((y &&& (y-1):Nat):Int)∧y &&& (y-1)<18446744073709551616:=by
 have e:IntKind.u64.wrap ((y:Int)-1)=((y-1:Nat):Int):=by rw[IntKind.wrap_u64];omega
 rw[e]
 exact⟨u64_and_nat y (y-1) hy (by omega),Nat.lt_of_le_of_lt Nat.and_le_left hy⟩
set_option maxRecDepth 100000 in
set_option maxHeartbeats 4000000 in
theorem paFirstFree_at {w:World} {b gp:Nat} {B:List Int} {ps:List (Int×Int)} (h:ShAt w b gp B ps) (h64:In64 (putAll B ps)) (hT:TabAt w) (n:Nat) (hn:n≤100000):
  Calls Tryz.prog 95 #[.pointer (some ⟨b,0,none⟩),.int .i64 (n:Int)] w (MadeInts w ((freeL (putAll B ps)).take n)):=by
 obtain⟨i0,hi,hz0,hz1,hz2⟩:=info_parts Tryz.info_int
 have HS:=Lib.hid h
 have H64:=Lib.hid h64
 have HT:=Lib.hid hT
 clear h h64 hT
 have hmk:=make_ints n hn w
 have HG0:Hid (Grows w n [] (.slice (some ⟨w.heap.size,0,none⟩) 0 n) (w.alloc (.cells (madeCells #[.int .i64 0] n) 3))):=by
  refine⟨⟨rfl,.inr ⟨w.heap.size,n,madeCells #[.int .i64 0] n,rfl,Nat.le_refl _,Blk.new _ _ _,by simp,by unfold maxLen;omega,by simp[madeCells],by simp[i64s]⟩⟩,(Keeps.refl _ _).alloc _,by simp,by simp⟩
 go_enter Tryz.func95,Tryz.ntmps95
 go_wp2_with fail
 go_step3
 go_wp2_with fail
 go_step3
 go_wp2_with fail
 clear hmk
 go_loopg [5,10] 4 (λgh s5 s10 wx=>∃k:Nat,k+gh=4∧s10= .int .i64 (k:Int)∧Hid (Grows w n (freeTo (putAll B ps) (64*k)) s5 wx))
 case atStart=>exact⟨0,by omega,rfl,HG0.out⟩
 case round=>
  obtain⟨k,hk,rfl,HR⟩:=hrel
  cases gk with
  |zero=>
   obtain rfl:k=4:=by omega
   clear hk
   have HM:Hid (MadeInts w ((freeL (putAll B ps)).take n) (.returned u5) wr):=by
    show MadeInts _ _ _ _
    have e:freeL (putAll B ps)=freeTo (putAll B ps) (64*4):=rfl
    rw[e,List.take_of_length_le HR.out.2.2.1]
    exact HR.out.made
   go_wp2_with fail
   rw[Exit.noGoto_ret]
   go_ret
   exact HM.out
  |succ gg=>
   have hk4:k<4:=by omega
   have hlt:(k:Int)<4:=by omega
   have hk0:(0:Int)≤(k:Int):=by omega
   have HF:=Lib.hid (paFreeIn_at (HS.out.keep HR.out.2.1 (by simp) (by simp)) H64.out k hk4)
   have HY:=Lib.hid (frW_lt (putAll B ps) k)
   go_wp2_with fail
   refine HF.out.mono ?_;rintro e w' ⟨rfl,rfl⟩
   clear HF
   go_wp2_with fail
   clear hk0 hlt
   go_loopg [5,7] (bitL (frW (putAll B ps) k)).length (λgh s5 s7 wx=>∃(y:Nat) (pre:List Nat),gh=(bitL y).length∧s7= .int .u64 (y:Int)∧
    Hid (y<18446744073709551616∧bitL (frW (putAll B ps) k)=pre++bitL y∧Grows w n (freeTo (putAll B ps) (64*k)++pre.map (64*k+·)) s5 wx))
   case atStart=>exact⟨_,[],rfl,rfl,HY.out,rfl,by rw[List.map_nil,List.append_nil];exact HR.out⟩
   case round=>
    clear HR HY
    obtain⟨y,pre,hgh,rfl,HR⟩:=hrel
    cases gk with
    |zero=>
     have hy:y=0:=bitL_none HR.out.1 (List.eq_nil_of_length_eq_zero hgh.symm)
     subst hy
     have HR2:Hid (Grows w n (freeTo (putAll B ps) (64*(k+1))) u5 wr):=by
      show Grows _ _ _ _ _
      obtain⟨-,h2,h3⟩:=HR.out
      rw[freeTo_word H64.out,h2,bitL_zero,List.append_nil]
      exact h3
     clear HR hgh
     have hlt:(k:Int)<4:=by omega
     have hk0:(0:Int)≤(k:Int):=by omega
     go_wp2_with fail
     go_roundg gg
     case measure=>omega
     case rel=>exact⟨k+1,by omega,by go_num,HR2⟩
    |succ g2=>
     have hy0:y≠0:=by
      intro e
      subst e
      rw[bitL_zero] at hgh
      cases hgh
     obtain⟨hc,hb⟩:=bitL_next y hy0 HR.out.1
     have e0:((y:Int)==0)=false:=by simp;omega
     have e1:((y:Int) != 0)=true:=by simp;omega
     by_cases hfull:(freeTo (putAll B ps) (64*k)++pre.map (64*k+·)).length=n
     ·have HM:Hid (MadeInts w ((freeL (putAll B ps)).take n) (.returned u5) wr):=by
       show MadeInts _ _ _ _
       obtain⟨-,h2,h3⟩:=HR.out
       obtain⟨r,hr⟩:=freeTo_prefix (putAll B ps) (64*(k+1)) 256 (by omega)
       have e:freeL (putAll B ps)=freeTo (putAll B ps) 256:=rfl
       rw[freeTo_word H64.out,h2,List.map_append] at hr
       rw[e,hr,←List.append_assoc (freeTo (putAll B ps) (64*k)),List.append_assoc,List.take_left' hfull]
       exact h3.made
      obtain⟨a,cap,rfl,q1,q2⟩:=ownsRow_val HR.out.2.2.1
      rw[hfull] at HM ⊢
      clear HR hgh hb hc hy0
      go_wp2_with fail
      rw[Exit.noGoto_ret]
      go_ret
      exact HM.out
     ·obtain⟨f1,f2,⟨f3,f4,f5,f6⟩⟩:=HR.out
      have HTZ:=Lib.hid (tz_at y f1 hy0 wr (HT.out.keep f4))
      obtain⟨hlow,hlow2⟩:=low_step y f1 hy0
      have HLT:=Lib.hid hlow2
      have hlen:(freeTo (putAll B ps) (64*k)++pre.map (64*k+·)).length+1≤n:=by omega
      have HPRE:Hid (bitL (frW (putAll B ps) k)=(pre++[Lib.ctz 64 y])++bitL (y &&& (y-1))):=by
       show _=_
       rw[f2,hb,List.append_assoc]
       rfl
      have HMEAS:Hid (g2=(bitL (y &&& (y-1))).length):=by
       show _=_
       rw[hb,List.length_cons] at hgh
       omega
      have HLST:Hid (freeTo (putAll B ps) (64*k)++(pre++[Lib.ctz 64 y]).map (64*k+·)=(freeTo (putAll B ps) (64*k)++pre.map (64*k+·))++[64*k+Lib.ctz 64 y]):=by
       show _=_
       rw[List.map_append,List.append_assoc]
       rfl
      obtain⟨a,cap,rfl,q1,q2⟩:=ownsRow_val f3
      have HOWN:=Lib.hid f3
      have HKP:=Lib.hid f4
      have hws:=f4.size
      clear f1 f2 f3 f4 f5 f6 HR hgh hb hlow2
      generalize freeTo (putAll B ps) (64*k)++pre.map (64*k+·)=L at *
      generalize y &&& (y-1)=z at *
      generalize Lib.ctz 64 y=c at *
      have HI:Hid (i64s (L++[64*k+c])=i64s L++[.int .i64 ((k:Int)*64+(c:Int))]):=by
       show _=_
       rw[i64s_append]
       have :((64*k+c:Nat):Int)=(k:Int)*64+(c:Int):=by omega
       simp only[i64s,List.map_cons,List.map_nil,this]
      have HLL:Hid ((L++[64*k+c]).length=L.length+1):=by show _=_;simp
      have hlt:(k:Int)<4:=by omega
      have hk0:(0:Int)≤(k:Int):=by omega
      have hc0:(0:Int)≤(c:Int):=by omega
      have hc1:(c:Int)<64:=by omega
      generalize L.length=q at *
      have e2:(q==n)=false:=by simpa using hfull
      have e3:((q:Int)==(n:Int))=false:=by simp;omega
      go_wp2_with fail
      refine HTZ.out.mono ?_;rintro e w' ⟨rfl,rfl⟩
      go_wp2_with(at_builtin;refine wpList_append_own _ rfl _ _ 40 rfl w.heap.size 3 i0 (.int .i64 0) 1 8 Tryz.underlying40 hi hz0 hz1 hz2 rfl (by decide) (.slice a q cap) q _ rfl (HOWN.out.alloc _) ⟨wr.heap.size,0,none⟩ 1 1 [.int .i64 ((k:Int)*64+(c:Int))] rfl rfl ?c1 ?c2 (by unfold maxLen;omega) (by omega) (by simp;omega) ?_)
      case c1=>exact new_cells _ [_] _ _ rfl
      case c2=>simp[Value.oneCell']
      intro v' w1 hown1 hgrow hnil
      have HO1:=Lib.hid hown1
      have HK1:=Lib.hid ((HKP.out.alloc _).grown hgrow (ownsRow_block HOWN.out))
      have HNIL:Hid (v'≠.slice none 0 0):=hnil
      clear hown1 hgrow hnil
      go_wp2_with fail
      go_roundg g2
      case measure=>omega
      case rel=>
       refine⟨z,pre++[c],HMEAS.out,rfl,HLT.out,HPRE.out,?_⟩
       rw[HLST.out]
       refine⟨?_,HK1.out,by rw[HLL.out];exact hlen,HNIL.out⟩
       rw[HI.out,HLL.out]
       exact HO1.out
def RowI (w:World) (v:Value) (g:Nat) (own:List Nat):Prop:=w.ownsRow g 3 1 v own.length (i64s own)∧∀k,v.ownBlock=some k→k=g
theorem RowI.reads {w:World} {v:Value} {g:Nat} {own:List Nat} (h:RowI w v g own):Reads w v g (i64s own):=by
 obtain⟨h1,h2⟩:=h
 obtain⟨h0,h5⟩:=h1
 rcases h5 with ⟨rfl,h6⟩|⟨g',cap,cur,rfl,hg,hh,h7,h8,h9,h10⟩
 ·have h7:i64s own=[]:=List.eq_nil_of_length_eq_zero (by rw[i64s_len];exact h6)
  exact⟨none,0,by rw[h7];rfl,by simp[h7],by simp[maxLen],λh=>absurd h7 h⟩
 ·obtain rfl:=h2 g' rfl
  have :=Owns.reads (w:=w) (g:=g') ⟨h0,_,cap,rfl,h7,h8,λ_=>⟨rfl,cur,hh,h9,h10⟩⟩
  exact this
theorem RowI.keep {w w':World} {v:Value} {g:Nat} {own:List Nat} (h:RowI w v g own) {l:List Nat} (hk:Keeps l w w') (hg:g∉l):RowI w' v g own:=
 ⟨ownsRow_keep h.1 hk λk hk'=>by rw[h.2 k hk'];exact hg,h.2⟩
theorem RowI.nil (w:World) (g:Nat):RowI w (.slice none 0 0) g []:=⟨⟨rfl,.inl ⟨rfl,rfl⟩⟩,λk hk=>by cases hk⟩
theorem RowI.of_row {w:World} {base:Nat} {v:Value} {own:List Nat} (h:w.ownsRow base 3 1 v own.length (i64s own)):∃g,RowI w v g own∧base≤g:=by
 obtain⟨h0,h5⟩:=h
 rcases h5 with ⟨rfl,h6⟩|⟨g',cap,cur,rfl,hg,hh,h7,h8,h9,h10⟩
 ·exact⟨base,⟨⟨h0,.inl ⟨rfl,h6⟩⟩,λk hk=>by cases hk⟩,Nat.le_refl _⟩
 ·exact⟨g',⟨⟨h0,.inr ⟨g',cap,cur,rfl,Nat.le_refl _,hh,h7,h8,h9,h10⟩⟩,λk hk=>by cases hk;rfl⟩,hg⟩
theorem RowI.away {w w':World} {v:Value} {g lo:Nat} {own:List Nat} (h:RowI w v g own) (hlo:lo≤g) {l:List Nat} (hk:Keeps l w w') (hl:∀x∈l,w.heap.size≤x):∃g',RowI w' v g' own∧lo≤g':=by
 have h1:=h.1
 obtain⟨h0,h5⟩:=h1
 rcases h5 with ⟨rfl,h6⟩|⟨g',cap,cur,rfl,hg,hh,h7,h8,h9,h10⟩
 ·exact⟨lo,⟨⟨h0,.inl ⟨rfl,h6⟩⟩,λk hk=>by cases hk⟩,Nat.le_refl _⟩
 ·obtain rfl:=h.2 g' rfl
  have hlt:g'<w.heap.size:=(Array.getElem?_eq_some_iff.1 hh).1
  exact⟨g',h.keep hk (λhm=>by have :=hl _ hm;omega),hlo⟩
end Go.Proofs.YtphojondgfjmgaaGreatDoor
