/-
  An inode (api.Inode), and a list of its entries, as an argument is read; so pairs. Operations on inodes, as an argument is read. Layer 6: the laws' sheet. A region that draws its order: operations whose values are known ahead come in whatever order, beside a chain of last ones (a call, whose answer is known only when it was made, and what asks of it). Nothing of the program is named here. Layer 8: the law InodePlays.
-/
import Derived.Test.YtphojondgfjmgaaGreatDoorG09
import Derived.Test.YtphojondgfjmgaaGreatDoorG00
import Derived.Test.YtphojondgfjmgaaGreatDoorG18
import Derived.Test.YtphojondgfjmgaaGreatDoorG14
import Derived.Test.YtphojondgfjmgaaGreatDoorG08
import Derived.Test.YtphojondgfjmgaaGreatDoorG07
import Derived.Test.YtphojondgfjmgaaGreatDoorG17
import Derived.Test.YtphojondgfjmgaaGreatDoorG15
import Derived.Test.YtphojondgfjmgaaGreatDoorG03
namespace Go.Proofs.YtphojondgfjmgaaGreatDoor
open Go.ChangeShapes Go.WideShapes Go.ChangeAt Go.RowKit
section
variable {H:Type} {enc:TypeId×Value→H} {W:World} {base:Nat} {spare:Nat→Bool} {held:Bool}
set_option maxRecDepth 100000 in
theorem open_entry {fuel:Nat} {cs:List Value} {x:DataW H×List MemPlace} (h:DataW.trod enc Tryz.prog W base spare held fuel 85 cs=some x):
  ∃(s:ByteArray) (y:Int),cs=[.string s,.int .i64 y]:=by
 obtain⟨xs,n,-,-,hl,hlen,hf⟩:=DataW.trod_struct Tryz.underlying85 h
 rw[show Tryz.prog.cellsOf 85 =2 by kernel_rfl] at hl
 match cs,hl with
 | [c0,c1],_=>
  have f0:DataW.trod enc Tryz.prog W base spare held n 9 (([c0,c1].drop 0).take (Tryz.prog.cellsOf 9))=xs[0]? :=hf 0 _ rfl
  have f1:DataW.trod enc Tryz.prog W base spare held n 3 (([c0,c1].drop 1).take (Tryz.prog.cellsOf 3))=xs[1]? :=hf 1 _ rfl
  simp only[show Tryz.prog.cellsOf 9 =1 by kernel_rfl,show Tryz.prog.cellsOf 3 =1 by kernel_rfl,List.drop_zero,List.drop_succ_cons,List.take_succ_cons,List.take_zero] at f0 f1
  match xs,hlen with
  | [y0,y1],_=>
   simp only[List.getElem?_cons_zero,List.getElem?_cons_succ] at f0 f1
   obtain⟨s,e0,-⟩:=DataW.trod_string Tryz.underlying9 f0
   obtain⟨n1,e1,-,w1⟩:=DataW.trod_int Tryz.underlying3 f1
   simp only[List.cons.injEq,and_true] at e0 e1
   subst e0 e1
   exact⟨s,n1,rfl⟩
set_option maxRecDepth 100000 in
theorem open_ents {fuel:Nat} {cs:List Value} {x:DataW H×List MemPlace} (h:DataW.trod enc Tryz.prog W base spare held fuel 35 cs=some x):
  ∃v g E,cs=[v]∧EReads W v g E:=by
 obtain⟨a,len,cap,rfl,h1,h2,h3⟩:=open_rows (sz:=2) Tryz.underlying35 (by kernel_rfl) (by omega) h
 by_cases h0:len=0
 ·subst h0
  exact⟨_,0,[],rfl,⟨a,cap,rfl,by simp,h2,λh=>absurd rfl h⟩⟩
 ·obtain⟨g,off,rfl,hg,hx⟩:=h3 h0
  have hex:∀i,i<len→∃p:ByteArray×Int,W.cell? ⟨g,off+i*2,none⟩=some (.string p.1)∧W.cell? ⟨g,off+i*2+1,none⟩=some (.int .i64 p.2):=λi hi=>by
   obtain⟨cs',y,n,hl,hc,ht⟩:=hx i hi
   obtain⟨q,z,rfl⟩:=open_entry ht
   exact⟨(q,z),hc 0 (by omega),hc 1 (by omega)⟩
  obtain⟨f,hf⟩:∃f:Nat→ByteArray×Int,∀i,i<len→W.cell? ⟨g,off+i*2,none⟩=some (.string (f i).1)∧W.cell? ⟨g,off+i*2+1,none⟩=some (.int .i64 (f i).2):=
   ⟨λi=>if h:i<len then Classical.choose (hex i h) else (ByteArray.empty,0),λi hi=>by simp only[dif_pos hi];exact Classical.choose_spec (hex i hi)⟩
  refine⟨_,g,(List.range len).map f,rfl,⟨_,cap,by simp,by simpa using h1,h2,λ_=>⟨hg,off,rfl,λj hj=> ?_⟩⟩⟩
  have hj':j<len:=by simpa using hj
  have e1:enm ((List.range len).map f) j=(f j).1:=by simp[enm,List.getD_eq_getElem?_getD,hj']
  have e2:eno ((List.range len).map f) j=(f j).2:=by simp[eno,List.getD_eq_getElem?_getD,hj']
  rw[e1,e2]
  exact hf j hj'
set_option maxRecDepth 100000 in
theorem open_pair {fuel:Nat} {cs:List Value} {x:DataW H×List MemPlace} (h:DataW.trod enc Tryz.prog W base spare held fuel 31 cs=some x):
  ∃a y:Int,cs=[.int .i64 a,.int .u64 y]∧(-9223372036854775808≤a∧a≤9223372036854775807)∧0≤y∧y≤18446744073709551615:=by
 obtain⟨xs,n,-,-,hl,hlen,hf⟩:=DataW.trod_struct Tryz.underlying31 h
 rw[show Tryz.prog.cellsOf 31 =2 by kernel_rfl] at hl
 match cs,hl with
 | [c0,c1],_=>
  have f0:DataW.trod enc Tryz.prog W base spare held n 3 (([c0,c1].drop 0).take (Tryz.prog.cellsOf 3))=xs[0]? :=hf 0 _ rfl
  have f1:DataW.trod enc Tryz.prog W base spare held n 29 (([c0,c1].drop 1).take (Tryz.prog.cellsOf 29))=xs[1]? :=hf 1 _ rfl
  simp only[show Tryz.prog.cellsOf 3 =1 by kernel_rfl,show Tryz.prog.cellsOf 29 =1 by kernel_rfl,List.drop_zero,List.drop_succ_cons,List.take_succ_cons,List.take_zero] at f0 f1
  match xs,hlen with
  | [y0,y1],_=>
   simp only[List.getElem?_cons_zero,List.getElem?_cons_succ] at f0 f1
   obtain⟨n0,e0,-,w0⟩:=DataW.trod_int Tryz.underlying3 f0
   obtain⟨n1,e1,-,w1⟩:=DataW.trod_int Tryz.underlying29 f1
   simp only[List.cons.injEq,and_true] at e0 e1
   subst e0 e1
   exact⟨n0,n1,rfl,bounds_i64 w0,bounds_u64 w1⟩
set_option maxRecDepth 100000 in
theorem open_pairs {fuel:Nat} {cs:List Value} {x:DataW H×List MemPlace} (h:DataW.trod enc Tryz.prog W base spare held fuel 23 cs=some x):
  ∃v g ps,cs=[v]∧PReads W v g ps∧okP ps:=by
 obtain⟨a,len,cap,rfl,h1,h2,h3⟩:=open_rows (sz:=2) Tryz.underlying23 (by kernel_rfl) (by omega) h
 by_cases h0:len=0
 ·subst h0
  exact⟨_,0,[],rfl,⟨a,cap,rfl,by simp,h2,λh=>absurd rfl h⟩,by intro p hp;simp at hp⟩
 ·obtain⟨g,off,rfl,hg,hx⟩:=h3 h0
  have hex:∀i,i<len→∃p:Int×Int,((-9223372036854775808≤p.1∧p.1≤9223372036854775807)∧0≤p.2∧p.2≤18446744073709551615)∧
    W.cell? ⟨g,off+i*2,none⟩=some (.int .i64 p.1)∧W.cell? ⟨g,off+i*2+1,none⟩=some (.int .u64 p.2):=λi hi=>by
   obtain⟨cs',y,n,hl,hc,ht⟩:=hx i hi
   obtain⟨q,z,rfl,hq,hz⟩:=open_pair ht
   exact⟨(q,z),⟨hq,hz⟩,hc 0 (by omega),hc 1 (by omega)⟩
  obtain⟨f,hf⟩:∃f:Nat→Int×Int,∀i,i<len→((-9223372036854775808≤(f i).1∧(f i).1≤9223372036854775807)∧0≤(f i).2∧(f i).2≤18446744073709551615)∧
    W.cell? ⟨g,off+i*2,none⟩=some (.int .i64 (f i).1)∧W.cell? ⟨g,off+i*2+1,none⟩=some (.int .u64 (f i).2):=
   ⟨λi=>if h:i<len then Classical.choose (hex i h) else (0,0),λi hi=>by simp only[dif_pos hi];exact Classical.choose_spec (hex i hi)⟩
  refine⟨_,g,(List.range len).map f,rfl,⟨_,cap,by simp,by simpa using h1,h2,λ_=>⟨hg,off,rfl,λj hj=> ?_⟩⟩,?_⟩
  ·have hj':j<len:=by simpa using hj
   have e1:patN ((List.range len).map f) j=(f j).1:=by simp[patN,List.getD_eq_getElem?_getD,hj']
   have e2:pwdN ((List.range len).map f) j=(f j).2:=by simp[pwdN,List.getD_eq_getElem?_getD,hj']
   rw[e1,e2]
   exact(hf j hj').2
  ·intro p hp
   simp only[List.mem_map,List.mem_range] at hp
   obtain⟨i,hi,rfl⟩:=hp
   exact(hf i hi).1
end
structure POp where
 k:Int
 i:Int
 n:Ino
 v:Value
instance:Inhabited POp:=⟨⟨0,0,inoZ,.slice none 0 0⟩⟩
section
variable {H:Type} {enc:TypeId×Value→H} {W:World} {base:Nat} {spare:Nat→Bool} {held:Bool}
set_option maxRecDepth 100000 in
theorem open_inoC {fuel:Nat} {l:List Value} {x:DataW H×List MemPlace} (hf:DataW.trod enc Tryz.prog W base spare held fuel 37 l=some x):∃(n:Ino) (u:Value) (g:Nat),l=inoL n u∧n.B.length=13∧EReads W u g n.E:=by
 obtain⟨xs,n,-,-,hl,hlen,hf⟩:=DataW.trod_struct Tryz.underlying37 hf
 have hlen6:xs.length=6:=hlen
 rw[show Tryz.prog.cellsOf 37 =18 by kernel_rfl] at hl
 have ci: Tryz.prog.cellsOf 3 =1:=by kernel_rfl
 have one:∀(k:Nat) (hk:k<l.length) (y:DataW H×List MemPlace),DataW.trod enc Tryz.prog W base spare held n 3 ((l.drop k).take (Tryz.prog.cellsOf 3))=some y→∃z:Int,l[k]? =some (.int .i64 z):=λk hk y hy=>by
  rw[ci] at hy
  obtain⟨z,e,-,-⟩:=DataW.trod_int Tryz.underlying3 hy
  refine⟨z,?_⟩
  have h2:=congrArg (λl=>l[0]?) e
  simpa using h2
 have hsz':l.length=18:=hl
 have hsome:∀i,i<6→∃y,xs[i]? =some y:=λi hi=>⟨xs[i],List.getElem?_eq_getElem (by omega)⟩
 obtain⟨y0,e0⟩:=hsome 0 (by omega)
 obtain⟨y1,e1⟩:=hsome 1 (by omega)
 obtain⟨y2,e2⟩:=hsome 2 (by omega)
 obtain⟨y3,e3⟩:=hsome 3 (by omega)
 obtain⟨y4,e4⟩:=hsome 4 (by omega)
 obtain⟨y5,e5⟩:=hsome 5 (by omega)
 have f0:DataW.trod enc Tryz.prog W base spare held n 3 ((l.drop 0).take (Tryz.prog.cellsOf 3))=xs[0]? :=hf 0 _ rfl
 have f1:DataW.trod enc Tryz.prog W base spare held n 3 ((l.drop 1).take (Tryz.prog.cellsOf 3))=xs[1]? :=hf 1 _ rfl
 have f2:DataW.trod enc Tryz.prog W base spare held n 3 ((l.drop 2).take (Tryz.prog.cellsOf 3))=xs[2]? :=hf 2 _ rfl
 have f3:DataW.trod enc Tryz.prog W base spare held n 3 ((l.drop 3).take (Tryz.prog.cellsOf 3))=xs[3]? :=hf 3 _ rfl
 have f4:DataW.trod enc Tryz.prog W base spare held n 34 ((l.drop 4).take (Tryz.prog.cellsOf 34))=xs[4]? :=hf 4 _ rfl
 have f5:DataW.trod enc Tryz.prog W base spare held n 35 ((l.drop 17).take (Tryz.prog.cellsOf 35))=xs[5]? :=hf 5 _ rfl
 rw[e0] at f0
 rw[e1] at f1
 rw[e2] at f2
 rw[e3] at f3
 rw[e4] at f4
 rw[e5] at f5
 obtain⟨z0,g0⟩:=one 0 (by omega) _ f0
 obtain⟨z1,g1⟩:=one 1 (by omega) _ f1
 obtain⟨z2,g2⟩:=one 2 (by omega) _ f2
 obtain⟨z3,g3⟩:=one 3 (by omega) _ f3
 obtain⟨B,eB,hB⟩:=open_n13 f4
 obtain⟨u,g,E,eE,hE⟩:=open_ents f5
 rw[show Tryz.prog.cellsOf 34 =13 by kernel_rfl] at eB
 rw[show Tryz.prog.cellsOf 35 =1 by kernel_rfl] at eE
 refine⟨⟨z0,z1,z2,z3,B,E⟩,u,g,?_,hB,hE⟩
 have hl4:l=(l.take 4)++((l.drop 4).take 13++(l.drop 17).take 1):=by
  have h1:(l.drop 4).take 13++(l.drop 17).take 1=l.drop 4:=by
   rw[List.take_of_length_le (l:=l.drop 17) (by rw[List.length_drop];omega)]
   have :=List.take_append_drop 13 (l.drop 4)
   rwa[List.drop_drop] at this
  rw[h1,List.take_append_drop]
 have ht4:l.take 4=[.int .i64 z0,.int .i64 z1,.int .i64 z2,.int .i64 z3]:=by
  apply List.ext_getElem?
  intro i
  rcases (show i=0∨i=1∨i=2∨i=3∨4≤i by omega) with rfl|rfl|rfl|rfl|hi
  ·rw[List.getElem?_take,if_pos (by omega),g0];rfl
  ·rw[List.getElem?_take,if_pos (by omega),g1];rfl
  ·rw[List.getElem?_take,if_pos (by omega),g2];rfl
  ·rw[List.getElem?_take,if_pos (by omega),g3];rfl
  ·rw[List.getElem?_eq_none (by rw[List.length_take];omega),List.getElem?_eq_none (by simpa using hi)]
 rw[hl4,ht4,eB,eE]
 rfl
end
end Go.Proofs.YtphojondgfjmgaaGreatDoor
namespace Go.Proofs.YtphojondgfjmgaaGreatDoor
open Go.RowKit
end Go.Proofs.YtphojondgfjmgaaGreatDoor
namespace Go.Proofs.YtphojondgfjmgaaGreatDoor
open Go.RowKit
section
variable {P:Program} {ops:Array Oper} {Q:Exit→Act→World→Prop} {md:Region.Mode} {S:World→Prop}
end
theorem TabE.set {W:World} {T:List (Ino×Value)} (h:TabE W T) {j:Nat} (hj:j<T.length) {n:Ino} {v:Value} (he:∃g,EReads W v g n.E):TabE W (T.set j (n,v)):=λi hi=>by
 rw[nT_set hj,vT_set hj]
 by_cases hij:j=i
 ·rw[if_pos hij,if_pos hij];exact he
 ·rw[if_neg hij,if_neg hij];exact h i hi
theorem nT_tab0 (i:Nat):nT tab0 i=inoZ∧vT tab0 i= .slice none 0 0:=by
 unfold nT vT tab0
 rw[List.getD_eq_getElem?_getD,List.getElem?_replicate]
 split<;>exact⟨rfl,rfl⟩
end Go.Proofs.YtphojondgfjmgaaGreatDoor
