/-
  Plain facts on worlds: which blocks a call leaves alone ('Keeps'), blocks known whole, slices read by cells. Nothing of the program is named here. What the reading of arguments says of cells: slices of integers, slices of whatever. Layer 2 (pack): bytes of words, names and sums, plain. Nothing of the program is named here. Layer 3 (plog): pairs, their places and lines, what a commit leaves: plain. Nothing of the program is named here. Slices of words (u64s) and of pairs (pcells, PReads) in memory, and what calls leave that make them. Nothing of the program is named here. Words (uint64): what the program says of their type, and lists of them that are made. Pairs (api.Pair): what the program says of their type, and lists of them that are made. Layer 4 (tx): a sheet as plain lists: words beneath, puts, notes of what was there. Nothing of the program is named here. Laws for single operations of a walk: whatever value an operation is known to give. Layer 4 (tx): where a sheet lies; isPlace, Get. Layer 4 (tx): New, Words.
-/
import Derived.WalkKit
import Derived.WalkSpells
import Derived.Deep.QuietTactic
import Derived.Lib.Hide
import Derived.ProofKit
import Derived.OpenShut
import Derived.Deep.Slices
import Derived.Laws.BitsAllLaws
import Derived.WalkLawsBesides
import Derived.Laws.AppendOwn
import Derived.Test.YtphojondgfjmgaaGreatDoorRows
import Derived.Deep.LoopGhost
import Derived.BigQuiet
import Derived.Laws.CopyRow
import Derived.Laws.IdiomCopy
import Derived.Laws.Tables
namespace Go.Proofs.YtphojondgfjmgaaGreatDoor
open Go.RowKit
structure Keeps (l:List Nat) (w w':World):Prop where
 os:w'.os=w.os
 tape:w'.tape=w.tape
 output:w'.output=w.output
 size:w.heap.size≤w'.heap.size
 block:∀k,k<w.heap.size→k∉l→w'.heap[k]? =w.heap[k]?
theorem Keeps.refl (l:List Nat) (w:World):Keeps l w w:=⟨rfl,rfl,rfl,Nat.le_refl _,λ_ _ _=>rfl⟩
theorem Keeps.mono {l l':List Nat} {w w':World} (h:Keeps l w w') (hl:∀k,k∈l→k<w.heap.size→k∈l'):Keeps l' w w':=
 ⟨h.os,h.tape,h.output,h.size,λk hk hn=>h.block k hk λhm=>hn (hl k hm hk)⟩
theorem Keeps.trans {l l':List Nat} {a b c:World} (h:Keeps l a b) (k:Keeps l' b c) (hl:∀x,x∈l'→x∈l∨a.heap.size≤x):Keeps l a c:=
 ⟨k.os.trans h.os,k.tape.trans h.tape,k.output.trans h.output,Nat.le_trans h.size k.size,λx hx hn=>
  (k.block x (Nat.lt_of_lt_of_le hx h.size) λhm=>(hl x hm).elim hn λh1=>by omega).trans (h.block x hx hn)⟩
theorem Keeps.trans' {l:List Nat} {a b c:World} (h:Keeps l a b) (k:Keeps l b c):Keeps l a c:=h.trans k λ_ hx=> .inl hx
theorem Keeps.drew {l:List Nat} {a w:World} (h:Keeps l a w):Keeps l a w.drew:=⟨h.os,h.tape,h.output,h.size,h.block⟩
theorem Keeps.drewN {l:List Nat} {a w:World} (h:Keeps l a w) (n:Nat):Keeps l a (w.drewN n):=⟨h.os,h.tape,h.output,h.size,h.block⟩
theorem Keeps.alloc {l:List Nat} {a w:World} (h:Keeps l a w) (o:Obj):Keeps l a (w.alloc o):=
 h.trans (l':=[]) ⟨rfl,rfl,rfl,by simp,λk hk _=>Below.heap_alloc _ _ _ hk⟩ (by simp)
theorem Keeps.setCell {l:List Nat} {a w:World} (h:Keeps l a w) {p:Addr} (hp:p.block∈l∨a.heap.size≤p.block) (u:Value):Keeps l a (w.setCell p u):=
 h.trans (l':=[p.block]) ⟨rfl,rfl,rfl,by simp[World.setCell],λk _ hn=>Below.heap_setCell _ _ _ _ (by simpa using hn)⟩ (by
  intro x hx
  rw[List.mem_singleton] at hx
  subst hx
  exact hp)
theorem Keeps.below {l:List Nat} {w w':World} (h:Keeps l w w') {B:Nat} (hB:B≤w.heap.size) (hl:∀k,k∈l→B≤k):Below B w w':=
 ⟨h.os,h.tape,h.output,h.size,λk hk=>h.block k (by omega) λhm=>by have :=hl k hm;omega⟩
theorem Keeps.of_grown {l:List Nat} {w w':World} {row:Option Nat} (h:w.grownBy w' row) (hr:∀k,row=some k→k∈l∨w.heap.size≤k):Keeps l w w':=
 ⟨h.os,h.tape,h.output,h.size,λk hk hn=>h.block k hk λe=>(hr k e.symm).elim hn λh1=>by omega⟩
def Blk (w:World) (b:Nat) (c:Array Value) (T:Nat):Prop:=w.heap[b]? =some (.cells c T (0,0))
theorem Blk.lt {w:World} {b:Nat} {c:Array Value} {T:Nat} (h:Blk w b c T):b<w.heap.size:=(Array.getElem?_eq_some_iff.1 h).1
theorem Blk.keep {w w':World} {b:Nat} {c:Array Value} {T:Nat} (h:Blk w b c T) {l:List Nat} (hk:Keeps l w w') (hb:b∉l):Blk w' b c T:=
 (hk.block b h.lt hb).trans h
theorem Blk.cell {w:World} {b:Nat} {c:Array Value} {T:Nat} (h:Blk w b c T) (o:Nat):w.cell? ⟨b,o,none⟩=c[o]? :=by
 unfold Blk at h;simp[World.cell?,h]
theorem Blk.frozen {w:World} {b:Nat} {c:Array Value} {T:Nat} (h:Blk w b c T) (o:Nat):w.frozen? ⟨b,o,none⟩=false:=by
 unfold Blk at h;simp[World.frozen?,h]
theorem Blk.set {w:World} {b:Nat} {c:Array Value} {T:Nat} (h:Blk w b c T) (o:Nat) (v:Value):Blk (w.setCell ⟨b,o,none⟩ v) b (c.setIfInBounds o v) T:=by
 unfold Blk at *;simp[World.setCell,Array.getElem?_modify,h]
theorem Blk.other {w:World} {b:Nat} {c:Array Value} {T:Nat} (h:Blk w b c T) {a:Addr} (hne:b≠a.block) (v:Value):Blk (w.setCell a v) b c T:=by
 unfold Blk at *;rw[Below.heap_setCell _ _ _ _ hne];exact h
theorem Blk.alloc {w:World} {b:Nat} {c:Array Value} {T:Nat} (h:Blk w b c T) (o:Obj):Blk (w.alloc o) b c T:=
 h.keep ((Keeps.refl [] w).alloc o) (by simp)
theorem Blk.new (w:World) (c:Array Value) (T:Nat):Blk (w.alloc (.cells c T)) w.heap.size c T:=by
 unfold Blk;exact heap_alloc_new w _
theorem Blk.drew {w:World} {b:Nat} {c:Array Value} {T:Nat} (h:Blk w b c T):Blk w.drew b c T:=h
theorem Blk.drewN {w:World} {b:Nat} {c:Array Value} {T:Nat} (h:Blk w b c T) (n:Nat):Blk (w.drewN n) b c T:=h
def Reads (w:World) (v:Value) (g:Nat) (xs:List Value):Prop:=
 ∃a cap,v= .slice a xs.length cap∧xs.length≤cap∧cap≤maxLen∧(xs≠[]→g<w.heap.size∧∃off,a=some ⟨g,off,none⟩∧∀j,j<xs.length→w.cell? ⟨g,off+j,none⟩=xs[j]?)
theorem Reads.keep {w w':World} {v:Value} {g:Nat} {xs:List Value} (h:Reads w v g xs) {l:List Nat} (hk:Keeps l w w') (hg:g∉l):Reads w' v g xs:=by
 obtain⟨a,cap,h1,h2,h3,h4⟩:=h
 refine⟨a,cap,h1,h2,h3,λhx=> ?_⟩
 obtain⟨hlt,off,h5,h6⟩:=h4 hx
 refine⟨Nat.lt_of_lt_of_le hlt hk.size,off,h5,λj hj=> ?_⟩
 rw[World.cell?_of_block (w:=w) (hk.block g hlt hg)]
 exact h6 j hj
def Owns (w:World) (v:Value) (g:Nat) (T sz n:Nat) (xs:List Value):Prop:=
 xs.length=n*sz∧∃a cap,v= .slice a n cap∧n≤cap∧cap≤maxLen∧(n≠0→a=some ⟨g,0,none⟩∧∃c:Array Value,Blk w g c T∧c.size=cap*sz∧c.toList.take (n*sz)=xs)
theorem Owns.keep {w w':World} {v:Value} {g T sz n:Nat} {xs:List Value} (h:Owns w v g T sz n xs) {l:List Nat} (hk:Keeps l w w') (hg:g∉l):Owns w' v g T sz n xs:=by
 obtain⟨h0,a,cap,h1,h2,h3,h4⟩:=h
 refine⟨h0,a,cap,h1,h2,h3,λhx=> ?_⟩
 obtain⟨h5,c,h6,h7⟩:=h4 hx
 exact⟨h5,c,h6.keep hk hg,h7⟩
theorem Owns.keepIf {w w':World} {v:Value} {g T sz n:Nat} {xs:List Value} (h:Owns w v g T sz n xs) {l:List Nat} (hk:Keeps l w w') (hg:n≠0→g∉l):Owns w' v g T sz n xs:=by
 obtain⟨h0,a,cap,h1,h2,h3,h4⟩:=h
 refine⟨h0,a,cap,h1,h2,h3,λhx=> ?_⟩
 obtain⟨h5,c,h6,h7⟩:=h4 hx
 exact⟨h5,c,h6.keep hk (hg hx),h7⟩
theorem Owns.len {w:World} {v:Value} {g T sz n:Nat} {xs:List Value} (h:Owns w v g T sz n xs):xs.length=n*sz:=h.1
theorem getElem?_of_take {α:Type} {c:List α} {m:Nat} {xs:List α} (h:c.take m=xs) {j:Nat} (hj:j<m):c[j]? =xs[j]? :=by
 rw[←h,List.getElem?_take,if_pos hj]
theorem Owns.reads {w:World} {v:Value} {g T n:Nat} {xs:List Value} (h:Owns w v g T 1 n xs):Reads w v g xs:=by
 obtain⟨h0,a,cap,h1,h2,h3,h4⟩:=h
 have hn:xs.length=n:=by omega
 refine⟨a,cap,by rw[hn];exact h1,by omega,h3,λhx=> ?_⟩
 have :n≠0:=λe=>hx (List.eq_nil_of_length_eq_zero (by omega))
 obtain⟨h5,c,h6,h7,h8⟩:=h4 this
 refine⟨h6.lt,0,h5,λj hj=> ?_⟩
 rw[h6.cell,←Array.getElem?_toList]
 simpa using getElem?_of_take h8 (j:=j) (by omega)
theorem Owns.set {w:World} {v:Value} {g T sz n:Nat} {xs:List Value} (h:Owns w v g T sz n xs) (j:Nat) (u:Value):Owns (w.setCell ⟨g,j,none⟩ u) v g T sz n (xs.set j u):=by
 obtain⟨h0,a,cap,h1,h2,h3,h4⟩:=h
 refine⟨by simpa using h0,a,cap,h1,h2,h3,λhx=> ?_⟩
 obtain⟨h5,c,h6,h7,h8⟩:=h4 hx
 refine⟨h5,_,h6.set j u,by simpa using h7,?_⟩
 rw[Array.toList_setIfInBounds,List.take_set,h8]
theorem Owns.drew {w:World} {v:Value} {g T sz n:Nat} {xs:List Value} (h:Owns w v g T sz n xs):Owns w.drew v g T sz n xs:=h
theorem Owns.alloc {w:World} {v:Value} {g T sz n:Nat} {xs:List Value} (h:Owns w v g T sz n xs) (o:Obj):Owns (w.alloc o) v g T sz n xs:=
 h.keep ((Keeps.refl [] w).alloc o) (by simp)
theorem Owns.cell {w:World} {v:Value} {g T sz n:Nat} {xs:List Value} (h:Owns w v g T sz n xs) (hn:n≠0):g<w.heap.size∧(∃cap,v= .slice (some ⟨g,0,none⟩) n cap∧n≤cap∧cap≤maxLen)∧(∀j,j<n*sz→w.cell? ⟨g,j,none⟩=xs[j]?)∧∀j,w.frozen? ⟨g,j,none⟩=false:=by
 obtain⟨h0,a,cap,h1,h2,h3,h4⟩:=h
 obtain⟨h5,c,h6,h7,h8⟩:=h4 hn
 subst h5
 refine⟨h6.lt,⟨cap,h1,h2,h3⟩,λj hj=> ?_,λj=>h6.frozen j⟩
 rw[h6.cell,←Array.getElem?_toList]
 exact getElem?_of_take h8 hj
theorem Owns.val {w:World} {v:Value} {g T sz n:Nat} {xs:List Value} (h:Owns w v g T sz n xs):∃a cap,v= .slice a n cap∧n≤cap∧cap≤maxLen:=by
 obtain⟨h0,a,cap,h1,h2,h3,h4⟩:=h
 exact⟨a,cap,h1,h2,h3⟩
theorem Owns.nil (w:World) (g T sz:Nat):Owns w (.slice none 0 0) g T sz 0 []:=⟨by simp,none,0,rfl,by simp,by simp[maxLen],λh=>absurd rfl h⟩
theorem Owns.anyG {w:World} {v:Value} {g T sz n:Nat} {xs:List Value} (h:Owns w v g T sz n xs) (hn:n=0) (g':Nat):Owns w v g' T sz n xs:=by
 obtain⟨h0,a,cap,h1,h2,h3,h4⟩:=h
 exact⟨h0,a,cap,h1,h2,h3,λh=>absurd hn h⟩
theorem Owns.of_row {w:World} {base T sz:Nat} {v:Value} {n:Nat} {xs:List Value} (h:w.ownsRow base T sz v n xs):∃g,Owns w v g T sz n xs∧(n≠0→base≤g∧v.ownBlock=some g):=by
 obtain⟨h0,h1⟩:=h
 rcases h1 with ⟨rfl,rfl⟩|⟨g,cap,cur,rfl,hg,hh,h2,h3,h4,h5⟩
 ·obtain rfl:xs=[]:=List.eq_nil_of_length_eq_zero (by omega)
  exact⟨0,Owns.nil w 0 T sz,λh=>absurd rfl h⟩
 ·exact⟨g,⟨h0,_,cap,rfl,h2,h3,λ_=>⟨rfl,cur,hh,h4,h5⟩⟩,λ_=>⟨hg,rfl⟩⟩
theorem Keeps.setRow {l:List Nat} {a w:World} (h:Keeps l a w) {g:Nat} (hp:g∈l∨a.heap.size≤g) (c:Array Value):Keeps l a (w.setRow g c):=
 h.trans (l':=[g]) ⟨rfl,rfl,rfl,by simp[World.setRow],λk _ hn=>setRow_other w g k _ (by simpa using hn)⟩ (by
  intro x hx
  rw[List.mem_singleton] at hx
  subst hx
  exact hp)
theorem size_zeroCells' (z:Array Value) (n:Nat):(Builtin.zeroCells z n).size=n*z.size:=by simp[Builtin.zeroCells]
theorem set_getD_self {α:Type} (l:List α) (i:Nat) (d:α):l.set i (l.getD i d)=l:=by
 apply List.ext_getElem?
 intro j
 rw[List.getElem?_set]
 split
 ·rename_i hj
  subst hj
  split
  ·rename_i hi;simp[hi]
  ·rename_i hi;simp at hi;simp[hi]
 ·rfl
end Go.Proofs.YtphojondgfjmgaaGreatDoor
namespace Go.Proofs.YtphojondgfjmgaaGreatDoor
open Go.ChangeShapes Go.WideShapes Go.ChangeAt Go.RowKit
section
variable {H:Type} {enc:TypeId×Value→H} {P:Program} {W:World} {base:Nat} {spare:Nat→Bool} {held:Bool}
theorem plain_addr {a:Addr} {n:Nat} {v:Value} (h:W.cell? (a.add n)=some v) (hz:n=0):∃g off,a=⟨g,off,none⟩:=by
 subst hz
 have :a.add 0=a:=by simp[Addr.add]
 rw[this] at h
 obtain⟨g,off,spot⟩:=a
 have :=World.cell?_spot h
 simp at this
 subst this
 exact⟨g,off,rfl⟩
theorem add_plain (g off n:Nat):(⟨g,off,none⟩:Addr).add n=⟨g,off+n,none⟩:=by unfold Addr.add;split<;>simp_all
theorem lt_of_cell {a:Addr} {v:Value} (h:W.cell? a=some v):a.block<W.heap.size:=World.block_lt_of_cell? W a h
theorem open_rows {t e:TypeId} {fuel sz:Nat} {cs:List Value} {x:DataW H×List MemPlace} (ht:P.underlying t=some (.slice e)) (hc:P.cellsOf e=sz) (hsz:0<sz)
  (h:DataW.trod enc P W base spare held fuel t cs=some x):
  ∃a len cap,cs=[.slice a len cap]∧len≤cap∧cap≤maxLen∧(len≠0→∃g off,a=some ⟨g,off,none⟩∧g<W.heap.size∧
   ∀i,i<len→∃(cs':List Value) (y:DataW H×List MemPlace) (n:Nat),cs'.length=sz∧(∀c,c<sz→W.cell? ⟨g,off+(i*sz+c),none⟩=cs'[c]?)∧DataW.trod enc P W base spare held n e cs'=some y):=by
 rcases Deep.open_slice ht h with ⟨rfl,-⟩|⟨a,len,cap,m,n,D,Pl,rfl,-,hl,hm,hmm,-,hx⟩
 ·exact⟨none,0,0,rfl,by simp,by simp[maxLen],λh=>absurd rfl h⟩
 ·have hlm:len≤m:=by rw[hmm];split<;>omega
  refine⟨some a,len,cap,rfl,hl,hm,λh0=> ?_⟩
  rw[hc] at hx
  obtain⟨cs0,h1,-⟩:=hx 0 (by omega)
  obtain⟨-,hlen,hcell⟩:=World.cells?_some h1
  have hc0:=hcell 0 hsz
  have e0:(a.add (0*sz))=a:=by simp[Addr.add]
  rw[e0] at hc0
  cases hv:cs0[0]? with
  |none=>rw[List.getElem?_eq_none_iff] at hv;omega
  |some v=>
   rw[hv] at hc0
   obtain⟨g,off,rfl⟩:=plain_addr hc0 rfl
   refine⟨g,off,rfl,by simpa[add_plain] using lt_of_cell hc0,λi hi=> ?_⟩
   obtain⟨cs',h2,h3⟩:=hx i (by omega)
   obtain⟨-,hlen',hcell'⟩:=World.cells?_some h2
   refine⟨cs',_,n,hlen',λc hcc=> ?_,h3⟩
   have :=hcell' c hcc
   rw[add_plain,add_plain] at this
   rw[←this,Nat.add_assoc]
end
end Go.Proofs.YtphojondgfjmgaaGreatDoor
namespace Go.Proofs.YtphojondgfjmgaaGreatDoor
def byt (W k:Nat):Nat:=W/256^k%256
def byts (W:Nat):List Nat:=(List.range 8).map (byt W)
def joinN:List Nat→Nat
 | []=>0
 |c::l=>c+256*joinN l
theorem byt_lt (W k:Nat):byt W k<256:=Nat.mod_lt _ (by decide)
theorem byts_len (W:Nat):(byts W).length=8:=by simp[byts]
theorem byts_get (W k:Nat) (h:k<8):(byts W).getD k 0=byt W k:=by simp[byts,List.getD_eq_getElem?_getD,h]
theorem byts_lt (W:Nat):∀c∈byts W,c<256:=by
 intro c hc
 simp only[byts,List.mem_map] at hc
 obtain⟨k,-,rfl⟩:=hc
 exact byt_lt W k
theorem joinN_append (l m:List Nat):joinN (l++m)=joinN l+256^l.length*joinN m:=by
 induction l with
 |nil=>simp[joinN]
 |cons c l ih=>rw[List.cons_append,joinN,ih,joinN,List.length_cons,Nat.pow_succ',Nat.mul_add,Nat.mul_assoc,Nat.add_assoc]
theorem joinN_one (c:Nat):joinN [c]=c:=by simp[joinN]
theorem joinN_zeros (n:Nat):joinN (List.replicate n 0)=0:=by
 induction n with
 |zero=>rfl
 |succ n ih=>simp[List.replicate_succ,joinN,ih]
theorem joinN_lt {l:List Nat} (h:∀c∈l,c<256):joinN l<256^l.length:=by
 induction l with
 |nil=>simp[joinN]
 |cons c l ih=>
  have h1:=ih λx hx=>h x (List.mem_cons_of_mem _ hx)
  have h2:=h c List.mem_cons_self
  rw[joinN,List.length_cons,Nat.pow_succ']
  omega
theorem byt_joinN {l:List Nat} (h:∀c∈l,c<256):∀k,byt (joinN l) k=l.getD k 0:=by
 induction l with
 |nil=>intro k;simp[joinN,byt]
 |cons c l ih=>
  have h2:=h c List.mem_cons_self
  intro k
  cases k with
  |zero=>simp[joinN,byt];omega
  |succ k=>
   have :=ih (λx hx=>h x (List.mem_cons_of_mem _ hx)) k
   rw[List.getD_cons_succ,←this]
   unfold byt
   rw[joinN,Nat.pow_succ',←Nat.div_div_eq_div_mul]
   congr 2
   omega
theorem joinN_take_succ (l:List Nat) (k:Nat) (h:k<l.length):joinN (l.take (k+1))=joinN (l.take k)+l.getD k 0*256^k:=by
 rw[List.take_succ_eq_append_getElem h,joinN_append,joinN_one,List.length_take,Nat.min_eq_left (by omega),Nat.mul_comm]
 simp[List.getD_eq_getElem?_getD,h]
theorem take_lt {l:List Nat} (h:∀c∈l,c<256) (k:Nat):∀c∈l.take k,c<256:=λc hc=>h c (List.mem_of_mem_take hc)
def okByte (c:Nat):Bool:=decide (33≤c)&&(decide (c≤126)&&(c != 47))
def goodN (l:List Nat):Bool:=decide (1≤l.length)&&decide (l.length≤7)&&(l != [46])&&(l != [46,46])&&l.all okByte
def wordN (l:List Nat):Nat:=joinN l+72057594037927936*l.length
def padN (l:List Nat):List Nat:=l++List.replicate (7-l.length) 0++[l.length]
theorem goodN_len {l:List Nat} (h:goodN l=true):1≤l.length∧l.length≤7:=by simp[goodN] at h;omega
theorem padN_len {l:List Nat} (h:l.length≤7):(padN l).length=8:=by simp[padN];omega
theorem padN_lt {l:List Nat} (hl:l.length≤7) (h:∀c∈l,c<256):∀c∈padN l,c<256:=by
 intro c hc
 simp only[padN,List.mem_append,List.mem_replicate,List.mem_singleton] at hc
 rcases hc with(hc|⟨-,rfl⟩)|rfl
 ·exact h c hc
 ·omega
 ·omega
theorem joinN_padN {l:List Nat} (h:l.length≤7):joinN (padN l)=wordN l:=by
 rw[padN,joinN_append,joinN_append,joinN_zeros,joinN_one,List.length_append,List.length_replicate,show l.length+(7-l.length)=7 by omega,wordN]
 rfl
theorem wordN_lt {l:List Nat} (hl:l.length≤7) (h:∀c∈l,c<256):wordN l<18446744073709551616:=by
 have :=joinN_lt (padN_lt hl h)
 rw[joinN_padN hl,padN_len hl] at this
 simpa using this
theorem byts_wordN {l:List Nat} (hl:l.length≤7) (h:∀c∈l,c<256):byts (wordN l)=padN l:=by
 have hp:=padN_lt hl h
 apply List.ext_getElem?
 intro k
 by_cases hk:k<8
 ·have h1:(padN l)[k]? =some ((padN l).getD k 0):=by simp[padN_len hl,hk]
  rw[h1,←byt_joinN hp,joinN_padN hl]
  simp[byts,hk]
 ·rw[List.getElem?_eq_none (by rw[byts_len];omega),List.getElem?_eq_none (by rw[padN_len hl];omega)]
def nameN (W:Nat):Option (List Nat):=if byt W 7≤7∧goodN ((byts W).take (byt W 7))=true∧wordN ((byts W).take (byt W 7))=W then some ((byts W).take (byt W 7)) else none
theorem nameN_wordN {l:List Nat} (hg:goodN l=true) (h:∀c∈l,c<256):nameN (wordN l)=some l:=by
 obtain⟨h1,h2⟩:=goodN_len hg
 have hb:=byts_wordN h2 h
 have h7:byt (wordN l) 7=l.length:=by
  rw[←byts_get _ 7 (by omega),hb,padN,List.getD_eq_getElem?_getD,List.getElem?_append_right (by simp;omega)]
  simp[show 7-(l.length+(7-l.length))=0 by omega]
 have ht:(byts (wordN l)).take l.length=l:=by
  rw[hb,padN,List.append_assoc,List.take_left]
 unfold nameN
 rw[h7,ht,if_pos ⟨h2,hg,rfl⟩]
def fnv (h c:Nat):Nat:=(h ^^^ c)*16777619%4294967296
def sumW (h W:Nat):Nat:=(byts W).foldl fnv h
def sumN (l:List Nat):Nat:=l.foldl sumW 2166136261
theorem fnv_lt (h c:Nat):fnv h c<4294967296:=Nat.mod_lt _ (by decide)
theorem foldl_fnv_lt (l:List Nat):∀h,h<4294967296→l.foldl fnv h<4294967296:=by
 induction l with
 |nil=>intro h hh;exact hh
 |cons c l ih=>intro h _;exact ih _ (fnv_lt h c)
theorem sumW_lt (h W:Nat) (hh:h<4294967296):sumW h W<4294967296:=foldl_fnv_lt _ _ hh
theorem foldl_sumW_lt (l:List Nat):∀h,h<4294967296→l.foldl sumW h<4294967296:=by
 induction l with
 |nil=>intro h hh;exact hh
 |cons c l ih=>intro h hh;exact ih _ (sumW_lt h c hh)
theorem sumN_lt (l:List Nat):sumN l<4294967296:=foldl_sumW_lt l _ (by decide)
def patN (ps:List (Int×Int)) (j:Nat):Int:=(ps.getD j (0,0)).1
def pwdN (ps:List (Int×Int)) (j:Nat):Int:=(ps.getD j (0,0)).2
theorem take_snocP (ps:List (Int×Int)) (k:Nat) (h:k<ps.length):ps.take (k+1)=ps.take k++[(patN ps k,pwdN ps k)]:=by
 have e:(patN ps k,pwdN ps k)=ps[k]:=by simp[patN,pwdN,List.getD_eq_getElem?_getD,h]
 rw[e]
 exact List.take_succ_eq_append_getElem h
theorem patN_mem (ps:List (Int×Int)) (k:Nat) (h:k<ps.length):(patN ps k,pwdN ps k)∈ps:=by
 have :(patN ps k,pwdN ps k)=ps[k]:=by simp[patN,pwdN,List.getD_eq_getElem?_getD,h]
 rw[this];exact List.getElem_mem h
def putAll (xs:List Int) (ps:List (Int×Int)):List Int:=ps.foldl (λa p=>a.set p.1.toNat p.2) xs
theorem putAll_append (xs:List Int) (ps qs:List (Int×Int)):putAll xs (ps++qs)=putAll (putAll xs ps) qs:=by simp[putAll,List.foldl_append]
theorem putAll_one (xs:List Int) (a x:Int):putAll xs [(a,x)]=xs.set a.toNat x:=rfl
theorem putAll_len (ps:List (Int×Int)):∀xs,(putAll xs ps).length=xs.length:=by
 induction ps with
 |nil=>intro xs;rfl
 |cons p ps ih=>intro xs;show(putAll (xs.set p.1.toNat p.2) ps).length=_;rw[ih];simp
theorem putAll_take_succ (xs:List Int) (ps:List (Int×Int)) (k:Nat) (h:k<ps.length):putAll xs (ps.take (k+1))=(putAll xs (ps.take k)).set (patN ps k).toNat (pwdN ps k):=by
 rw[take_snocP ps k h,putAll_append];rfl
theorem getD_set_ne {l:List Int} {i j:Nat} (x:Int) (h:i≠j):(l.set i x).getD j 0=l.getD j 0:=by
 simp[List.getD_eq_getElem?_getD,List.getElem?_set_ne h]
theorem getD_set_eq {l:List Int} {i:Nat} (x:Int) (h:i<l.length):(l.set i x).getD i 0=x:=by
 simp[List.getD_eq_getElem?_getD,h]
theorem getD_set_any {l:List Int} {i j:Nat} (x:Int):(l.set i x).getD j 0=if i=j∧j<l.length then x else l.getD j 0:=by
 by_cases h:i=j
 ·subst h
  by_cases hl:i<l.length
  ·rw[getD_set_eq x hl,if_pos ⟨rfl,hl⟩]
  ·rw[if_neg (by omega),List.set_eq_of_length_le (by omega)]
 ·rw[getD_set_ne x h,if_neg (by omega)]
theorem putAll_other (ps:List (Int×Int)) (i:Nat):∀xs,(∀p∈ps,p.1.toNat≠i)→(putAll xs ps).getD i 0=xs.getD i 0:=by
 induction ps with
 |nil=>intro xs _;rfl
 |cons p ps ih=>
  intro xs h
  show(putAll (xs.set p.1.toNat p.2) ps).getD i 0=_
  rw[ih _ λq hq=>h q (List.mem_cons_of_mem _ hq),getD_set_ne _ (h p List.mem_cons_self)]
def okP (ps:List (Int×Int)):Prop:=∀p∈ps,(-9223372036854775808≤p.1∧p.1≤9223372036854775807)∧0≤p.2∧p.2≤18446744073709551615
theorem okP_get {ps:List (Int×Int)} (h:okP ps) {k:Nat} (hk:k<ps.length):(-9223372036854775808≤patN ps k∧patN ps k≤9223372036854775807)∧0≤pwdN ps k∧pwdN ps k≤18446744073709551615:=h _ (patN_mem ps k hk)
end Go.Proofs.YtphojondgfjmgaaGreatDoor
namespace Go.Proofs.YtphojondgfjmgaaGreatDoor
open Go.RowKit
def u64s (l:List Int):List Value:=l.map (Value.int .u64)
def bools (l:List Bool):List Value:=l.map Value.bool
theorem u64s_get {l:List Int} {j:Nat} (h:j<l.length):(u64s l)[j]? =some (.int .u64 (l.getD j 0)):=by simp[u64s,h]
theorem bools_get {l:List Bool} {j:Nat} (h:j<l.length):(bools l)[j]? =some (.bool (l.getD j false)):=by simp[bools,h]
theorem u64s_set (l:List Int) (j:Nat) (x:Int):(u64s l).set j (.int .u64 x)=u64s (l.set j x):=by simp[u64s,List.map_set]
theorem bools_set (l:List Bool) (j:Nat) (x:Bool):(bools l).set j (.bool x)=bools (l.set j x):=by simp[bools,List.map_set]
theorem u64s_len (l:List Int):(u64s l).length=l.length:=by simp[u64s]
theorem bools_len (l:List Bool):(bools l).length=l.length:=by simp[bools]
theorem u64s_one (l:List Int):∀u∈u64s l,u.oneCell'=true:=by
 intro u hu
 simp only[u64s,List.mem_map] at hu
 obtain⟨x,-,rfl⟩:=hu
 rfl
theorem u64s_append (xs ys:List Int):u64s (xs++ys)=u64s xs++u64s ys:=by simp[u64s]
theorem u64s_cell {w:World} {v:Value} {g:Nat} {xs:List Int} (h:Reads w v g (u64s xs)):∃a cap,v= .slice a xs.length cap∧xs.length≤cap∧cap≤maxLen∧
  Hid (∀k,k<xs.length→g<w.heap.size∧∃off,a=some ⟨g,off,none⟩∧w.cell? ⟨g,off+k,none⟩=some (.int .u64 (xs.getD k 0))):=by
 obtain⟨a,cap,h0,h1,h2,h3⟩:=h
 rw[u64s_len] at *
 refine⟨a,cap,h0,h1,h2,λk hk=> ?_⟩
 obtain⟨hg,off,ho,hc⟩:=h3 (by intro e;have :=congrArg List.length e;rw[u64s_len,List.length_nil] at this;omega)
 exact⟨hg,off,ho,(hc k hk).trans (u64s_get hk)⟩
theorem Reads.val {w:World} {v:Value} {g:Nat} {xs:List Value} (h:Reads w v g xs):∃a cap,v= .slice a xs.length cap∧xs.length≤maxLen:=by
 obtain⟨a,cap,h1,h2,h3,h4⟩:=h
 exact⟨a,cap,h1,Nat.le_trans h2 h3⟩
theorem Reads.anyG {w:World} {v:Value} {g:Nat} {xs:List Value} (h:Reads w v g xs) (hx:xs=[]) (g':Nat):Reads w v g' xs:=by
 obtain⟨a,cap,h1,h2,h3,h4⟩:=h
 exact⟨a,cap,h1,h2,h3,λh=>absurd hx h⟩
def PReads (w:World) (v:Value) (g:Nat) (ps:List (Int×Int)):Prop:=
 ∃a cap,v= .slice a ps.length cap∧ps.length≤cap∧cap≤maxLen∧(ps.length≠0→g<w.heap.size∧∃off,a=some ⟨g,off,none⟩∧
  ∀j,j<ps.length→w.cell? ⟨g,off+j*2,none⟩=some (.int .i64 (patN ps j))∧w.cell? ⟨g,off+j*2+1,none⟩=some (.int .u64 (pwdN ps j)))
theorem PReads.keep {w w':World} {v:Value} {g:Nat} {ps:List (Int×Int)} (h:PReads w v g ps) {l:List Nat} (hk:Keeps l w w') (hg:ps.length≠0→g∉l):PReads w' v g ps:=by
 obtain⟨a,cap,h1,h2,h3,h4⟩:=h
 refine⟨a,cap,h1,h2,h3,λhx=> ?_⟩
 obtain⟨hlt,off,h5,h6⟩:=h4 hx
 refine⟨Nat.lt_of_lt_of_le hlt hk.size,off,h5,λj hj=> ?_⟩
 have hb:=hk.block g hlt (hg hx)
 exact⟨(World.cell?_of_block (w:=w) (w':=w') (a:=⟨g,off+j*2,none⟩) hb).trans (h6 j hj).1,(World.cell?_of_block (w:=w) (w':=w') (a:=⟨g,off+j*2+1,none⟩) hb).trans (h6 j hj).2⟩
theorem PReads.val {w:World} {v:Value} {g:Nat} {ps:List (Int×Int)} (h:PReads w v g ps):∃a cap,v= .slice a ps.length cap∧ps.length≤cap∧cap≤maxLen:=by
 obtain⟨a,cap,h1,h2,h3,h4⟩:=h
 exact⟨a,cap,h1,h2,h3⟩
theorem PReads.get {w:World} {a:Option Addr} {n cap:Nat} {g:Nat} {ps:List (Int×Int)} (h:PReads w (.slice a n cap) g ps) {j:Nat} (hj:j<ps.length):
  g<w.heap.size∧∃off,a=some ⟨g,off,none⟩∧w.cell? ⟨g,off+j*2,none⟩=some (.int .i64 (patN ps j))∧w.cell? ⟨g,off+j*2+1,none⟩=some (.int .u64 (pwdN ps j)):=by
 obtain⟨a',cap',h1,h2,h3,h4⟩:=h
 cases h1
 obtain⟨h5,off,h6,h7⟩:=h4 (by omega)
 exact⟨h5,off,h6,h7 j hj⟩
def pcells (ps:List (Int×Int)):List Value:=ps.flatMap λp=>[.int .i64 p.1,.int .u64 p.2]
theorem pcells_len (ps:List (Int×Int)):(pcells ps).length=ps.length*2:=by
 induction ps with
 |nil=>rfl
 |cons p ps ih=>simp[pcells] at ih ⊢;omega
theorem pcells_append (ps qs:List (Int×Int)):pcells (ps++qs)=pcells ps++pcells qs:=by simp[pcells]
theorem pcells_get (ps:List (Int×Int)):∀k,k<ps.length→(pcells ps)[k*2]? =some (.int .i64 (patN ps k))∧(pcells ps)[k*2+1]? =some (.int .u64 (pwdN ps k)):=by
 induction ps with
 |nil=>intro k h;simp at h
 |cons p ps ih=>
  intro k h
  have hc:pcells (p::ps)= .int .i64 p.1:: .int .u64 p.2::pcells ps:=rfl
  cases k with
  |zero=>rw[hc];exact⟨rfl,rfl⟩
  |succ k=>
   have :=ih k (by simpa using h)
   rw[hc,show(k+1)*2=k*2+1+1 by omega]
   simp only[List.getElem?_cons_succ]
   exact this
def MadeWords (w:World) (ws:List Int) (e:Ending) (w':World):Prop:=
 ∃v g,e= .returned v∧Reads w' v g (u64s ws)∧w.heap.size≤g∧Keeps [] w w'
theorem new_cells (w:World) (cs:List Value) (T m:Nat) (hm:m=w.heap.size):∀j u,cs[j]? =some u→(w.alloc (.cells cs.toArray T)).cell? ((⟨m,0,none⟩:Addr).add j)=some u:=by
 intro j u hu
 subst hm
 rw[add_plain,(Blk.new w cs.toArray T).cell,Nat.zero_add]
 simpa using hu
def fillTo {α:Type} (z:α) (l:List α) (k:Nat):List α:=l.take k++List.replicate (l.length-k) z
theorem fillTo_zero {α:Type} (z:α) (l:List α):fillTo z l 0=List.replicate l.length z:=by simp[fillTo]
theorem fillTo_all {α:Type} (z:α) (l:List α):fillTo z l l.length=l:=by simp[fillTo]
theorem fillTo_len {α:Type} (z:α) (l:List α) (k:Nat) (h:k≤l.length):(fillTo z l k).length=l.length:=by simp[fillTo];omega
theorem fillTo_succ {α:Type} (z:α) (l:List α) (k:Nat) (h:k<l.length) (x:α) (hx:l[k]=x):(fillTo z l k).set k x=fillTo z l (k+1):=by
 subst hx
 unfold fillTo
 rw[List.take_succ_eq_append_getElem h,show l.length-k=(l.length-(k+1))+1 by omega,List.replicate_succ,List.append_assoc]
 rw[List.set_append_right _ _ (by simp;omega)]
 congr 1
 rw[List.length_take,Nat.min_eq_left (by omega),Nat.sub_self]
 rfl
def inP (ps:List (Int×Int)) (n:Nat):Prop:=∀p∈ps,0≤p.1∧p.1<n
theorem inP_get {ps:List (Int×Int)} {n:Nat} (h:inP ps n) {k:Nat} (hk:k<ps.length):0≤patN ps k∧patN ps k<n:=h _ (patN_mem ps k hk)
theorem ownsRow_block {w:World} {base T sz n:Nat} {v:Value} {xs:List Value} (h:w.ownsRow base T sz v n xs):∀k,v.ownBlock=some k→base≤k:=by
 obtain⟨h0,h1⟩:=h
 intro k hk
 rcases h1 with ⟨rfl,rfl⟩|⟨g,cap,cur,rfl,hg,hh,h2,h3,h4,h5⟩
 ·cases hk
 ·cases hk;exact hg
theorem Keeps.grown {w wr w1:World} {row:Option Nat} (hk:Keeps [] w wr) (hg:wr.grownBy w1 row) (hr:∀k,row=some k→w.heap.size≤k):Keeps [] w w1:=
 ⟨hg.os.trans hk.os,hg.tape.trans hk.tape,hg.output.trans hk.output,Nat.le_trans hk.size hg.size,λk hk' hn=>
  (hg.block k (Nat.lt_of_lt_of_le hk' hk.size) λe=>by have :=hr k e.symm;omega).trans (hk.block k hk' hn)⟩
theorem PReads.apart {w:World} {v:Value} {g:Nat} {ps:List (Int×Int)} (h:PReads w v g ps) {l:List Nat} (hl:∀x,x∈l→w.heap.size≤x):ps.length≠0→g∉l:=λh0 hm=>by
 obtain⟨a,cap,h1,h2,h3,h4⟩:=h
 have :=(h4 h0).1
 have :=hl g hm
 omega
theorem PReads.nil (w:World) (g:Nat):PReads w (.slice none 0 0) g []:=⟨none,0,rfl,by simp,by simp[maxLen],λh=>absurd rfl h⟩
theorem ownsRow_keep {w w':World} {base T sz n:Nat} {v:Value} {xs:List Value} (h:w.ownsRow base T sz v n xs) {l:List Nat} (hk:Keeps l w w') (hn:∀k,v.ownBlock=some k→k∉l):w'.ownsRow base T sz v n xs:=by
 obtain⟨h0,h1⟩:=h
 refine⟨h0,?_⟩
 rcases h1 with ⟨rfl,rfl⟩|⟨g,cap,cur,rfl,hg,hh,h2,h3,h4,h5⟩
 ·exact .inl ⟨rfl,rfl⟩
 ·refine .inr ⟨g,cap,cur,rfl,hg,?_,h2,h3,h4,h5⟩
  rw[←hh]
  exact hk.block g (Array.getElem?_eq_some_iff.1 hh).1 (hn g rfl)
theorem ownsRow_val {w:World} {base T sz n:Nat} {v:Value} {xs:List Value} (h:w.ownsRow base T sz v n xs):∃a cap,v= .slice a n cap∧n≤cap∧cap≤maxLen:=by
 obtain⟨g,ho,-⟩:=Owns.of_row h
 exact ho.val
theorem Tryz.info_u64:(Tryz.prog.info? 29).map (λi=>(i.zero,i.size,i.bytes))=some (some (.int .u64 0),1,8):=by kernel_rfl
theorem make_u64 (n:Nat) (hn:n≤100000) (m:Int) (hm:m=(n:Int)) (k:Nat) (hk:k=0∨k=n) (w:World):(Instr.makeSlice 32 (.int .i64 (k:Int)) (.int .i64 m)).run Tryz.prog w=
  .ok (.slice (some ⟨w.heap.size,0,none⟩) k n) (w.alloc (.cells (madeCells #[.int .u64 0] n) 29)):=by
 subst hm
 obtain⟨i0,hi,hz0,hz1,hz2⟩:=info_parts Tryz.info_u64
 have :=run_make (P:= Tryz.prog) w 32 29 i0 _ Tryz.underlying32 hi hz0 .i64 .i64 (k:Int) (n:Int) (by omega) (by omega) (by rw[hz2];omega) (by omega)
 rw[hz1,Int.toNat_natCast,Int.toNat_natCast,Nat.mul_one] at this
 exact this
end Go.Proofs.YtphojondgfjmgaaGreatDoor
namespace Go.Proofs.YtphojondgfjmgaaGreatDoor
open Go.RowKit
def padW (ws:List Int):List Int:=ws.take 3128++List.replicate (3128-ws.length) 0
theorem padW_len (ws:List Int):(padW ws).length=3128:=by simp only[padW,List.length_append,List.length_take,List.length_replicate];omega
theorem padW_get (ws:List Int) (i:Nat):(padW ws).getD i 0=if i<3128 then ws.getD i 0 else 0:=by
 simp only[padW,List.getD_eq_getElem?_getD,List.getElem?_append,List.length_take,List.getElem?_take,List.getElem?_replicate]
 by_cases h:i<3128
 ·by_cases h2:i<ws.length
  ·rw[if_pos (by omega),if_pos h,if_pos h]
  ·rw[if_neg (by omega),if_pos (by omega),if_pos h,List.getElem?_eq_none (by omega)];rfl
 ·rw[if_neg (by omega),if_neg (by omega),if_neg h];rfl
theorem inP_append {ps qs:List (Int×Int)} {n:Nat} (h:inP ps n) (k:inP qs n):inP (ps++qs) n:=λp hp=>(List.mem_append.1 hp).elim (h p) (k p)
theorem inP_take {ps:List (Int×Int)} {n:Nat} (h:inP ps n) (m:Nat):inP (ps.take m) n:=λp hp=>h p (List.mem_of_mem_take hp)
theorem inP_nil (n:Nat):inP [] n:=λp hp=>by simp at hp
theorem inP_one {i x:Int} {n:Nat} (h0:0≤i) (h1:i<n):inP [(i,x)] n:=λp hp=>by
 rw[List.mem_singleton] at hp
 subst hp
 exact⟨h0,h1⟩
def notesN (B:List Int) (ps:List (Int×Int)):List (Int×Int):=(List.range ps.length).map λk=>(patN ps k,(putAll B (ps.take k)).getD (patN ps k).toNat 0)
theorem notesN_len (B:List Int) (ps:List (Int×Int)):(notesN B ps).length=ps.length:=by simp[notesN]
theorem notesN_get (B:List Int) (ps:List (Int×Int)) (k:Nat) (h:k<ps.length):patN (notesN B ps) k=patN ps k∧pwdN (notesN B ps) k=(putAll B (ps.take k)).getD (patN ps k).toNat 0:=by
 have e:(notesN B ps).getD k (0,0)=(patN ps k,(putAll B (ps.take k)).getD (patN ps k).toNat 0):=by
  rw[List.getD_eq_getElem?_getD,notesN,List.getElem?_map,List.getElem?_range h];rfl
 rw[patN,pwdN,e]
 exact⟨rfl,rfl⟩
theorem patN_append_left {ps qs:List (Int×Int)} {k:Nat} (h:k<ps.length):patN (ps++qs) k=patN ps k:=by
 simp[patN,List.getD_eq_getElem?_getD,List.getElem?_append,h]
theorem notesN_snoc (B:List Int) (ps:List (Int×Int)) (i x:Int):notesN B (ps++[(i,x)])=notesN B ps++[(i,(putAll B ps).getD i.toNat 0)]:=by
 have e0:patN (ps++[(i,x)]) ps.length=i:=by simp[patN,List.getD_eq_getElem?_getD]
 unfold notesN
 rw[List.length_append,List.length_singleton,List.range_succ,List.map_append,List.map_singleton,e0,List.take_left]
 congr 1
 apply List.map_congr_left
 intro k hk
 rw[List.mem_range] at hk
 rw[patN_append_left hk,List.take_append_of_le_length (by omega)]
theorem patN_take {ps:List (Int×Int)} {k m:Nat} (h:k<m):patN (ps.take m) k=patN ps k:=by
 simp[patN,List.getD_eq_getElem?_getD,h]
theorem notesN_take (B:List Int) (ps:List (Int×Int)) (m:Nat) (h:m≤ps.length):(notesN B ps).take m=notesN B (ps.take m):=by
 unfold notesN
 rw[←List.map_take,List.take_range,List.length_take,Nat.min_eq_left h]
 apply List.map_congr_left
 intro k hk
 rw[List.mem_range] at hk
 rw[patN_take hk,List.take_take,Nat.min_eq_left (by omega)]
theorem set_set_getD (l:List Int) (i:Nat) (x:Int):(l.set i x).set i (l.getD i 0)=l:=by
 rw[List.set_set]
 exact set_getD_self l i 0
theorem undo_put (B:List Int) (ps:List (Int×Int)) (k:Nat) (h:k<ps.length):
  (putAll B (ps.take (k+1))).set (patN ps k).toNat ((putAll B (ps.take k)).getD (patN ps k).toNat 0)=putAll B (ps.take k):=by
 rw[putAll_take_succ B ps k h]
 exact set_set_getD _ _ _
def backN (m:Int) (n:Nat):Nat:=(min (max m 0) (n:Int)).toNat
theorem backN_le (m:Int) (n:Nat):backN m n≤n:=by unfold backN;omega
theorem backN_int (m:Int) (n:Nat):((backN m n:Nat):Int)=min (max m 0) (n:Int):=by unfold backN;omega
def getN (B:List Int) (ps:List (Int×Int)) (i:Int):Int:=if 0≤i∧i<3128 then (putAll B ps).getD i.toNat 0 else 0
def inB (i:Int):Bool:=decide (0≤i)&&decide (i<3128)
theorem inB_iff {i:Int}:inB i=true↔0≤i∧i<3128:=by simp[inB]
end Go.Proofs.YtphojondgfjmgaaGreatDoor
namespace Go.Proofs.YtphojondgfjmgaaGreatDoor
open Go.RowKit
section
variable {P:Program} {ops:Array Oper} {rest:List Oper} {o:Oper} {a:Act} {w:World} {Q:Exit→Act→World→Prop}
theorem wpList_load_any (hgd:o.guard=none) (ty:TypeId) (x:Operand) (ho:o.op= .load ty x) (ad:Addr) (hx:a.eval x= .pointer (some ad)) (v:Value)
  (hr:(loadVar ty ad).run P w= .ok v w) (h:wpList P ops Q rest (a.put o.dst v) w):wpList P ops Q (o::rest) a w:=
 wpList_plain hgd λ_ hK=>by
  unfold Oper.wp execOp
  simp only[ho,hx,Instr.loadAt,Instr.sureAddr,Sem.run_bind,Sem.run_pure,Result.andThen_ok,hr]
  exact hK _ _ h
theorem wpList_store_any (hgd:o.guard=none) (ty:TypeId) (x y:Operand) (ho:o.op= .store ty x y) (ad:Addr) (hx:a.eval x= .pointer (some ad)) (v:Value) (hy:a.eval y=v) (w':World)
  (hr:(storeVar ty ad v).run P w= .ok () w') (h:wpList P ops Q rest (a.put o.dst undef) w'):wpList P ops Q (o::rest) a w:=
 wpList_plain hgd λ_ hK=>by
  unfold Oper.wp execOp
  simp only[ho,hx,hy,Instr.storeAt,Instr.sureAddr,Sem.run_bind,Sem.run_pure,Result.andThen_ok,hr]
  exact hK _ _ h
end
theorem run_loadVar_cells {P:Program} {w:World} {ty:TypeId} {d:TypeDesc} (g off:Nat) (cs:List Value) (hu:P.underlying ty=some d) (hd:(match d with | .struct _ | .array _ _=>true|_=>false)=true)
  (hi:(P.info? ty).map (·.size)=some cs.length) (hc:∀j,j<cs.length→w.cell? ⟨g,off+j,none⟩=cs[j]?):(loadVar ty ⟨g,off,none⟩).run P w= .ok (.agg cs.toArray) w:=by
 have hl:(loadCells ⟨g,off,none⟩ cs.length).run P w= .ok cs.toArray w:=
  run_loadCells_list (P:=P) w ⟨g,off,none⟩ cs (λj v hv=>by
   have hadd:(⟨g,off,none⟩:Addr).add j=⟨g,off+j,none⟩:=by unfold Addr.add;split<;>simp_all
   have hj:j<cs.length:=(List.getElem?_eq_some_iff.1 hv).1
   rw[hadd,hc j hj,hv])
 cases hq:P.info? ty with
 |none=>simp[hq] at hi
 |some i=>
  have hs:i.size=cs.length:=by simpa[hq] using hi
  have hagg:(isAgg ty).run P w= .ok true w:=by
   unfold isAgg
   rw[Sem.run_bind,run_underlying hu w]
   cases d<;>simp_all
  simp[loadVar,Sem.run_bind,hagg,sizeOf,typeInfo,hq,hs,hl]
theorem run_storeVar_cells {P:Program} {w:World} {ty T:TypeId} (g off:Nat) (cs:List Value) (cur:Array Value) (hi:(P.info? ty).map (·.size)=some cs.length) (hg:Blk w g cur T) (hfit:off+cs.length≤cur.size)
  (h1:∀v∈cs,v.oneCell'=true):(storeVar ty ⟨g,off,none⟩ (.agg cs.toArray)).run P w= .ok () (w.setRow g (cur.toList.take off++cs++cur.toList.drop (off+cs.length)).toArray):=by
 have hr:=run_storeCells_at P g off T cs 0 cur w hg (by simpa using hfit) h1
 simp only[Nat.add_zero] at hr
 cases hq:P.info? ty with
 |none=>simp[hq] at hi
 |some i=>
  have hs:i.size=cs.length:=by simpa[hq] using hi
  simp[storeVar,sizeOf,typeInfo,hq,Value.cells,hs,hr]
theorem wpList_copy_any {P:Program} {w:World} {ops:Array Oper} {rest:List Oper} {o:Oper} {a:Act} {Q:Exit→Act→World→Prop} (hgd:o.guard=none) (d x:Operand) (t t':TypeId)
  (ho:o.op= .call { callee:= .builtin .copy,args:= #[d,x],argTypes:= #[t,t'] }) (v u:Value) (hd:a.eval d=v) (hx:a.eval x=u) {v':Value} {w':World}
  (hr:(Builtin.copy_ #[t,t'] o.type #[v,u]).run P w= .ok v' w') (h:wpList P ops Q rest (a.put o.dst v') w'):wpList P ops Q (o::rest) a w:=
 wpList_plain hgd λ_ hK=>by
  unfold Oper.wp execOp
  simp only[ho,resolve,invoke,builtin,Sem.run_bind,Sem.run_pure,Result.andThen_ok,List.map_toArray,List.map_cons,List.map_nil,hd,hx,hr]
  exact hK _ _ h
def shCells (B X:List Int) (vp:Value):Array Value:=(u64s B++(u64s X++[vp])).toArray
theorem shCells_size (B X:List Int) (vp:Value):(shCells B X vp).size=B.length+(X.length+1):=by simp[shCells,u64s_len]
theorem shCells_0 {B:List Int} (X:List Int) (vp:Value) {i:Nat} (h:i<B.length):(shCells B X vp)[i]? =some (.int .u64 (B.getD i 0)):=by
 rw[shCells,List.getElem?_toArray,List.getElem?_append_left (by rw[u64s_len];exact h),u64s_get h]
theorem shCells_1 {B X:List Int} (vp:Value) (hb:B.length=3128) {i:Nat} (h:i<X.length):(shCells B X vp)[3128+i]? =some (.int .u64 (X.getD i 0)):=by
 rw[shCells,List.getElem?_toArray,List.getElem?_append_right (by rw[u64s_len];omega),u64s_len,hb,Nat.add_sub_cancel_left,List.getElem?_append_left (by rw[u64s_len];exact h),u64s_get h]
theorem shCells_2 {B X:List Int} (vp:Value) (hb:B.length=3128) (hx:X.length=3128):(shCells B X vp)[6256]? =some vp:=by
 rw[shCells,List.getElem?_toArray,List.getElem?_append_right (by rw[u64s_len];omega),u64s_len,hb,List.getElem?_append_right (by rw[u64s_len];omega),u64s_len,hx]
 rfl
theorem shCells_set1 {B X:List Int} (vp:Value) (hb:B.length=3128) {i:Nat} (h:i<X.length) (x:Int):(shCells B X vp).setIfInBounds (3128+i) (.int .u64 x)=shCells B (X.set i x) vp:=by
 unfold shCells
 rw[List.setIfInBounds_toArray,List.set_append_right _ _ (by rw[u64s_len];omega),u64s_len,hb,Nat.add_sub_cancel_left,List.set_append_left _ _ (by rw[u64s_len];exact h),u64s_set]
theorem shCells_set2 {B X:List Int} (vp:Value) (hb:B.length=3128) (hx:X.length=3128) (v:Value):(shCells B X vp).setIfInBounds 6256 v=shCells B X v:=by
 unfold shCells
 rw[List.setIfInBounds_toArray,List.set_append_right _ _ (by rw[u64s_len];omega),u64s_len,hb,List.set_append_right _ _ (by rw[u64s_len];omega),u64s_len,hx]
 rfl
structure ShRaw (w:World) (b gp:Nat) (B X:List Int) (us:List (Int×Int)):Prop where
 lb:B.length=3128
 lx:X.length=3128
 at_:∃vp,Blk w b (shCells B X vp) 63∧w.ownsRow (b+1) 65 2 vp us.length (pcells us)∧∀k,vp.ownBlock=some k→k=gp
structure ShAt (w:World) (b gp:Nat) (B:List Int) (ps:List (Int×Int)):Prop where
 raw:ShRaw w b gp B (putAll B ps) (notesN B ps)
 inp:inP ps 3128
theorem ShRaw.keep {w w':World} {b gp:Nat} {B X:List Int} {us:List (Int×Int)} (h:ShRaw w b gp B X us) {l:List Nat} (hk:Keeps l w w') (hb:b∉l) (hg:gp∉l):ShRaw w' b gp B X us:=by
 obtain⟨lb,lx,vp,h1,h2,h3⟩:=h
 exact⟨lb,lx,vp,h1.keep hk hb,ownsRow_keep h2 hk λk e=>by rw[h3 k e];exact hg,h3⟩
theorem ShAt.keep {w w':World} {b gp:Nat} {B:List Int} {ps:List (Int×Int)} (h:ShAt w b gp B ps) {l:List Nat} (hk:Keeps l w w') (hb:b∉l) (hg:gp∉l):ShAt w' b gp B ps:=
 ⟨h.raw.keep hk hb hg,h.inp⟩
theorem ShRaw.lt {w:World} {b gp:Nat} {B X:List Int} {us:List (Int×Int)} (h:ShRaw w b gp B X us):b<w.heap.size:=by
 obtain⟨lb,lx,vp,h1,h2,h3⟩:=h
 exact h1.lt
theorem ShRaw.cell1 {w:World} {b gp:Nat} {B X:List Int} {us:List (Int×Int)} (h:ShRaw w b gp B X us) {i:Nat} (hi:i<3128):w.cell? ⟨b,3128+i,none⟩=some (.int .u64 (X.getD i 0)):=by
 obtain⟨lb,lx,vp,h1,h2,h3⟩:=h
 rw[h1.cell,shCells_1 _ lb (by omega)]
set_option maxHeartbeats 400000 in
theorem txIsPlace_at (i:Int) (w:World):Calls Tryz.prog 22 #[.int .i64 i] w λe w'=>e= .returned (.bool (inB i))∧w=w':=by
 by_cases h0:0≤i
 ·by_cases h1:i<3128
  ·rw[inB_iff.2 ⟨h0,h1⟩]
   go_enter Tryz.func22,Tryz.ntmps22
   go_wp2
   go_ret
   exact⟨rfl,rfl⟩
  ·rw[show inB i=false by simp[inB];omega]
   go_enter Tryz.func22,Tryz.ntmps22
   go_wp2
   go_ret
   exact⟨rfl,rfl⟩
 ·rw[show inB i=false by simp[inB];omega]
  go_enter Tryz.func22,Tryz.ntmps22
  go_wp2
  go_ret
  exact⟨rfl,rfl⟩
set_option maxHeartbeats 400000 in
theorem txGet_raw {w:World} {b gp:Nat} {B X:List Int} {us:List (Int×Int)} (h:ShRaw w b gp B X us) (i:Int):
  Calls Tryz.prog 15 #[.pointer (some ⟨b,0,none⟩),.int .i64 i] w λe w'=>e= .returned (.int .u64 (if inB i=true then X.getD i.toNat 0 else 0))∧w=w':=by
 have HI:=Lib.hid (txIsPlace_at i w)
 cases hi:inB i
 ·rw[hi] at HI
  rw[if_neg (by simp)]
  clear hi h
  go_enter Tryz.func15,Tryz.ntmps15
  go_wp2_with(go_at_call 22;refine HI.out.mono ?_;rintro e w' ⟨rfl,rfl⟩)
  go_ret
  exact⟨rfl,rfl⟩
 ·rw[hi] at HI
  rw[if_pos rfl]
  obtain⟨h0,h1⟩:=inB_iff.1 hi
  clear hi
  obtain⟨i,rfl⟩:=Int.eq_ofNat_of_zero_le h0
  have hc:=h.cell1 (i:=i) (by omega)
  rw[Int.toNat_natCast]
  generalize X.getD i 0=x at *
  clear h
  go_enter Tryz.func15,Tryz.ntmps15
  go_wp2_with(go_at_call 22;refine HI.out.mono ?_;rintro e w' ⟨rfl,rfl⟩)
  go_ret
  exact⟨rfl,rfl⟩
theorem txGet_at {w:World} {b gp:Nat} {B:List Int} {ps:List (Int×Int)} (h:ShAt w b gp B ps) (i:Int):
  Calls Tryz.prog 15 #[.pointer (some ⟨b,0,none⟩),.int .i64 i] w λe w'=>e= .returned (.int .u64 (getN B ps i))∧w=w':=by
 have :=txGet_raw h.raw i
 rw[show(if inB i=true then (putAll B ps).getD i.toNat 0 else 0)=getN B ps i by unfold getN;simp only[inB_iff]] at this
 exact this
def zcSheet:Array Value:=shCells (padW []) (padW []) (.slice none 0 0)
theorem zero_sheet (w:World):(zeroValue 63).run Tryz.prog w= .ok (.agg zcSheet) w:=by kernel_rfl
theorem size_words:(Tryz.prog.info? 61).map (·.size)=some 3128:=by kernel_rfl
theorem size_u64:(Tryz.prog.info? 29).map (·.size)=some 1:=by kernel_rfl
theorem shCells_toList (B X:List Int) (vp:Value):(shCells B X vp).toList=u64s B++(u64s X++[vp]):=rfl
theorem load_beneath {w:World} {b:Nat} {B X:List Int} {vp:Value} (hb:Blk w b (shCells B X vp) 63) (lb:B.length=3128):
  (loadVar 61 ⟨b,0,none⟩).run Tryz.prog w= .ok (.agg (u64s B).toArray) w:=by
 refine run_loadVar_cells b 0 (u64s B) Tryz.underlying61 rfl (by rw[u64s_len,lb];exact size_words) λj hj=> ?_
 rw[u64s_len] at hj
 rw[Nat.zero_add,hb.cell,shCells_0 _ _ hj,u64s_get hj]
theorem load_words {w:World} {b:Nat} {B X:List Int} {vp:Value} (hb:Blk w b (shCells B X vp) 63) (lb:B.length=3128) (lx:X.length=3128):
  (loadVar 61 ⟨b,3128,none⟩).run Tryz.prog w= .ok (.agg (u64s X).toArray) w:=by
 refine run_loadVar_cells b 3128 (u64s X) Tryz.underlying61 rfl (by rw[u64s_len,lx];exact size_words) λj hj=> ?_
 rw[u64s_len] at hj
 rw[hb.cell,shCells_1 _ lb hj,u64s_get hj]
theorem setRow_blk {w:World} {b T:Nat} {c c':Array Value} (h:Blk w b c T):Blk (w.setRow b c') b c' T:=setRow_heap w b c c' T _ h
theorem store_words {w:World} {b:Nat} {B X:List Int} {vp:Value} (hb:Blk w b (shCells B X vp) 63) (lb:B.length=3128) (lx:X.length=3128) (Y:List Int) (ly:Y.length=3128):
  ∃w',(storeVar 61 ⟨b,3128,none⟩ (.agg (u64s Y).toArray)).run Tryz.prog w= .ok () w'∧Blk w' b (shCells B Y vp) 63∧Keeps [b] w w':=by
 refine⟨_,run_storeVar_cells b 3128 (u64s Y) _ (by rw[u64s_len,ly];exact size_words) hb (by rw[shCells_size,u64s_len];omega) (u64s_one Y),?_,(Keeps.refl _ _).setRow (by simp) _⟩
 have e:((shCells B X vp).toList.take 3128++u64s Y++(shCells B X vp).toList.drop (3128+(u64s Y).length)).toArray=shCells B Y vp:=by
  rw[shCells_toList,List.take_left' (by rw[u64s_len,lb]),←List.drop_drop,List.drop_left' (by rw[u64s_len,lb]),List.drop_left' (by rw[u64s_len,u64s_len,lx,ly]),List.append_assoc]
  rfl
 rw[e]
 exact setRow_blk hb
theorem padW_cells (ws:List Int):u64s (padW ws)=(u64s ws).take 3128++(u64s (padW [])).drop ((u64s ws).take 3128).length:=by
 apply List.ext_getElem?
 intro j
 have hl:((u64s ws).take 3128).length=min 3128 ws.length:=by rw[List.length_take,u64s_len]
 by_cases hj:j<3128
 ·rw[u64s_get (by rw[padW_len];exact hj),padW_get,if_pos hj]
  by_cases h2:j<ws.length
  ·rw[List.getElem?_append_left (by rw[hl];omega),List.getElem?_take,if_pos hj,u64s_get h2]
  ·rw[List.getElem?_append_right (by rw[hl];omega),List.getElem?_drop,hl,u64s_get (by rw[padW_len];omega),padW_get]
   have :ws.getD j 0=0:=by rw[List.getD_eq_getElem?_getD,List.getElem?_eq_none (by omega)];rfl
   rw[this,if_pos (by omega)]
   rfl
 ·rw[List.getElem?_eq_none (by rw[u64s_len,padW_len];omega),List.getElem?_eq_none]
  rw[List.length_append,List.length_drop,hl,u64s_len,padW_len]
  omega
theorem copy_beneath {w:World} {b:Nat} {v:Value} {g:Nat} {ws:List Int} (hb:Blk w b zcSheet 63) (h:Reads w v g (u64s ws)):
  ∃n w',(∀ty,(Builtin.copy_ #[32,32] ty #[.slice (some ⟨b,0,none⟩) 3128 3128,v]).run Tryz.prog w= .ok n w')∧Blk w' b (shCells (padW ws) (padW []) (.slice none 0 0)) 63∧Keeps [b] w w':=by
 obtain⟨a,cap,rfl,h1,h2,h3⟩:=h
 rw[u64s_len] at *
 by_cases h0:ws.length=0
 ·obtain rfl:ws=[]:=List.eq_nil_of_length_eq_zero h0
  exact⟨_,w,λty=>run_copy_none (P:= Tryz.prog) w 32 32 ty 29 _ a 3128 3128 0 cap Tryz.underlying32 size_u64 (by simp),hb,Keeps.refl _ _⟩
 ·obtain⟨hg,off,rfl,hc⟩:=h3 (by intro e;have :=congrArg List.length e;rw[u64s_len,List.length_nil] at this;omega)
  have hl:((u64s ws).take 3128).length=min ws.length 3128:=by rw[List.length_take,u64s_len,Nat.min_comm]
  have hs:zcSheet.size=6257:=by rw[zcSheet,shCells_size,padW_len]
  refine⟨_,_,λty=>run_copy_row (P:= Tryz.prog) w 32 32 ty 29 b 0 3128 3128 ⟨g,off,none⟩ ws.length cap zcSheet 63 ((u64s ws).take 3128) Tryz.underlying32 size_u64 hb hl ?_ ?_ ?_,?_,(Keeps.refl _ _).setRow (by simp) _⟩
  ·intro j u hu
   rw[List.getElem?_take] at hu
   split at hu
   ·have hj:j<(u64s ws).length:=(List.getElem?_eq_some_iff.1 hu).1
    rw[u64s_len] at hj
    rw[add_plain,hc j hj,hu]
   ·cases hu
  ·rw[hl,hs];omega
  ·exact λu hu=>u64s_one ws u (List.mem_of_mem_take hu)
  ·have e:(zcSheet.toList.take 0++(u64s ws).take 3128++zcSheet.toList.drop (0+((u64s ws).take 3128).length)).toArray=shCells (padW ws) (padW []) (.slice none 0 0):=by
    rw[zcSheet,shCells_toList,List.take_zero,List.nil_append,Nat.zero_add,List.drop_append_of_le_length (by rw[hl,u64s_len,padW_len];omega),←List.append_assoc,←padW_cells]
    rfl
   rw[e]
   exact setRow_blk hb
def MadeSheet (w:World) (B:List Int) (e:Ending) (w':World):Prop:=
 ∃b,e= .returned (.pointer (some ⟨b,0,none⟩))∧w.heap.size≤b∧ShAt w' b b B []∧Keeps [] w w'
set_option maxHeartbeats 1000000 in
theorem txNew_at {w:World} {v:Value} {g:Nat} {ws:List Int} (h:Reads w v g (u64s ws)):
  Calls Tryz.prog 16 #[v] w (MadeSheet w (padW ws)):=by
 have hnew:Blk (w.alloc (.cells zcSheet 63)) w.heap.size zcSheet 63 :=Blk.new w _ _
 have hk0:Keeps [] w (w.alloc (.cells zcSheet 63)):=(Keeps.refl _ _).alloc _
 obtain⟨n,w1,hr1,hb1,hk1⟩:=copy_beneath hnew (h.keep hk0 (by simp))
 have hl1:=load_beneath hb1 (padW_len ws)
 obtain⟨w2,hr2,hb2,hk2⟩:=store_words hb1 (padW_len ws) (padW_len []) (padW ws) (padW_len ws)
 have HM:Hid (MadeSheet w (padW ws) (.returned (.pointer (some ⟨w.heap.size,0,none⟩))) w2):=by
  refine⟨_,rfl,Nat.le_refl _,⟨⟨padW_len ws,padW_len ws,_,hb2,⟨rfl,.inl ⟨rfl,rfl⟩⟩,by intro k hk;cases hk⟩,inP_nil _⟩,?_⟩
  exact(hk0.trans hk1 (by simp)).trans hk2 (by simp)
 have HR1:=Lib.hid hr1
 have HR2:=Lib.hid hr2
 have HL1:=Lib.hid hl1
 obtain⟨a,cap,rfl,-,-,-⟩:=h
 clear hnew hk0 hr1 hb1 hk1 hl1 hr2 hb2 hk2
 generalize (u64s (padW ws)).toArray=Y at *
 have hbu:=zero_sheet
 generalize zcSheet=Z at *
 go_enter Tryz.func16,Tryz.ntmps16
 go_wp2_with(first|((with_reducible show wpList _ _ _ (⟨some 11,_,_,_,_,_⟩::_) _ _);refine wpList_copy_any rfl (.tmp 9) (.tmp 10) 32 32 rfl _ _ rfl rfl (HR1.out _) ?_)|((with_reducible show wpList _ _ _ (⟨_,.load 61 (.tmp 15),_,_,_,_⟩::_) _ _);refine wpList_load_any rfl 61 (.tmp 15) rfl _ rfl _ HL1.out ?_)|((with_reducible show wpList _ _ _ (⟨_,.store 61 (.tmp 18) (.tmp 16),_,_,_,_⟩::_) _ _);refine wpList_store_any rfl 61 (.tmp 18) (.tmp 16) rfl _ rfl _ rfl _ HR2.out ?_))
 go_ret
 exact HM.out
end Go.Proofs.YtphojondgfjmgaaGreatDoor
