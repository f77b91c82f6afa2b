/-
  Layer 6 (fmt1), plain: what is read is what would be laid. Layer 6 (fmt1): what Lay does, whatever it is; what is known of words that were laid. Layer 7 (fmt2): what Lay does, whatever it is; what is known of words that were laid. Layer 7 (fmt2): imagoref07.Runs. Layer 7 (fmt2): numbersOf. Layer 7 (fmt2), plain: the runs of numbers tell the numbers again. append of a slice, whatever it is (nil too), onto a row of its own; and of noughts onto nil. Nothing of the program is named here.
-/
import Derived.Test.YtphojondgfjmgaaGreatDoorG09
import Derived.Test.YtphojondgfjmgaaGreatDoorG08
import Derived.Test.YtphojondgfjmgaaGreatDoorG03
import Derived.Test.YtphojondgfjmgaaGreatDoorG06
import Derived.Test.YtphojondgfjmgaaGreatDoorG00
import Derived.Laws.AppendOwn
import Derived.Lib.AppendZerosOnto
namespace Go.Proofs.YtphojondgfjmgaaGreatDoor
open Go.RowKit
theorem less_irrefl:∀a:List UInt8,Op.bytesLess a a=false
 | []=>rfl
 |a::x=>by
  have h:¬a<a:=by rw[UInt8.lt_iff_toNat_lt];omega
  simp[Op.bytesLess,less_irrefl x,h]
theorem less_total:∀a b:List UInt8,Op.bytesLess a b=false→a≠b→Op.bytesLess b a=true
 | [],[],_,h=>absurd rfl h
 |_::_,[],_,_=>rfl
 | [],_::_,h,_=>by simp[Op.bytesLess] at h
 |a::x,b::y,h,hne=>by
  simp only[Op.bytesLess,Bool.or_eq_false_iff,Bool.and_eq_false_iff,decide_eq_false_iff_not,beq_eq_false_iff_ne] at h
  simp only[Op.bytesLess,Bool.or_eq_true,Bool.and_eq_true,decide_eq_true_eq,beq_iff_eq]
  by_cases e:a=b
  ·subst e
   refine .inr ⟨rfl,less_total x y ?_ (λhxy=>hne (by rw[hxy]))⟩
   exact h.2.resolve_left λh'=>h' rfl
  ·left
   have h1:=h.1
   rw[UInt8.lt_iff_toNat_lt] at h1 ⊢
   have :a.toNat≠b.toNat:=λh=>e (UInt8.toNat_inj.1 h)
   omega
theorem less_trans:∀a b c:List UInt8,Op.bytesLess a b=true→Op.bytesLess b c=true→Op.bytesLess a c=true
 |_,_,[],_,h=>by simp[Op.bytesLess] at h
 | [],_,_::_,_,_=>rfl
 |_::_,[],_::_,h,_=>by simp[Op.bytesLess] at h
 |a::x,b::y,c::z,h1,h2=>by
  simp only[Op.bytesLess,Bool.or_eq_true,Bool.and_eq_true,decide_eq_true_eq,beq_iff_eq] at h1 h2 ⊢
  rw[UInt8.lt_iff_toNat_lt] at *
  rcases h1 with h1|⟨rfl,h1⟩
  ·rcases h2 with h2|⟨rfl,h2⟩
   ·left;omega
   ·left;exact h1
  ·rcases h2 with h2|⟨rfl,h2⟩
   ·left;exact h2
   ·exact .inr ⟨rfl,less_trans x y z h1 h2⟩
theorem names_rise {E:List (ByteArray×Int)} (h:∀k,k<E.length→0<k→leB (enm E k) (enm E (k-1))=false):∀k j,j<k→k<E.length→Op.bytesLess (enm E j).toList (enm E k).toList=true:=by
 intro k
 induction k with
 |zero=>intro j hj;omega
 |succ k ih=>
  intro j hj hk
  have h1:=h (k+1) hk (by omega)
  unfold leB at h1
  rw[Bool.or_eq_false_iff,Nat.add_sub_cancel] at h1
  have h2:Op.bytesLess (enm E k).toList (enm E (k+1)).toList=true:=less_total _ _ h1.1 (by simpa using h1.2)
  by_cases e:j=k
  ·subst e;exact h2
  ·exact less_trans _ _ _ (ih j (by omega) (by omega)) h2
theorem names_apart {E:List (ByteArray×Int)} (h:∀k,k<E.length→0<k→leB (enm E k) (enm E (k-1))=false) {j k:Nat} (hj:j<k) (hk:k<E.length):enm E j≠enm E k:=λe=>by
 have :=names_rise h k j hj hk
 rw[e,less_irrefl] at this
 cases this
theorem word_big {l:List Nat} (h:goodN l=true):72057594037927936≤wordV l:=by
 unfold wordV
 rw[if_pos h,wordN]
 have :=(goodN_len h).1
 omega
theorem drop5_get {l:List Int} (k:Nat):(l.drop 5).getD k 0=l.getD (5+k) 0:=by
 rw[List.getD_eq_getElem?_getD,List.getElem?_drop,List.getD_eq_getElem?_getD]
theorem take_toNat {l:List Int} {c k:Nat} (hk:k<c) (hc:c≤l.length):((l.take c).map Int.toNat).getD k 0=(l.getD k 0).toNat:=by
 rw[List.getD_eq_getElem?_getD,List.getElem?_map,List.getElem?_take,if_pos hk,List.getD_eq_getElem?_getD,List.getElem?_eq_getElem (by omega)]
 rfl
theorem laid_read {X:List Int} (h64:In64 X) {q:Nat} (h:ReadOk X (rowL X q)):
  RightP (readI X (rowL X q))∧(readI X (rowL X q)).F=1∧(readI X (rowL X q)).B.length=13∧(ownI X (rowL X q)).length=needN (readI X (rowL X q))∧(∀c∈ownI X (rowL X q),c≠0∧c<256)∧(ownI X (rowL X q)).Nodup∧LaidAt X q (readI X (rowL X q)) (ownI X (rowL X q)):=by
 obtain⟨hno,hS,hen,hF,hR,hrow⟩:=h
 have hr8:=rowL_len X q
 have hr64:In64 (rowL X q):=λj=>by
  by_cases hj:j<8
  ·rw[rowL_get _ _ _ hj];exact h64 _
  ·rw[List.getD_eq_getElem?_getD,List.getElem?_eq_none (by rw[hr8];omega)]
   simp
 have h256:=numAll_256 h64 hr64 hr8 hno
 have hll:=numAll_len (X:=X) hr8
 have hdl:numAll X (rowL X q)=((rowL X q).drop 2).take 5++(if (rowL X q).getD 7 0=0 then List.replicate 8 0 else rowL X (1080+8*((rowL X q).getD 7 0).toNat)):=rfl
 have hd5:(numAll X (rowL X q)).drop 5=if (rowL X q).getD 7 0=0 then List.replicate 8 0 else rowL X (1080+8*((rowL X q).getD 7 0).toNat):=by
  rw[hdl,List.drop_append_of_le_length (by simp[hr8]),List.drop_of_length_le (by simp[hr8])]
  rfl
 have hl7:=hno.1
 have hl70:=(hr64 7).1
 have hl3:=hno.2.2
 clear hdl hno
 have hrd:readI X (rowL X q)=if (tagN (rowL X q)).K=2 then { tagN (rowL X q) with E:=entsE X (numAll X (rowL X q)) ((rowL X q).getD 1 0).toNat } else { tagN (rowL X q) with B:=numAll X (rowL X q) }:=rfl
 have how:ownI X (rowL X q)=(if (tagN (rowL X q)).K=2 then ((numAll X (rowL X q)).take (blocksN ((rowL X q).getD 1 0).toNat)).map Int.toNat else [])++(if (rowL X q).getD 7 0=0 then [] else [((rowL X q).getD 7 0).toNat]):=rfl
 have htB:(tagN (rowL X q)).B=List.replicate 13 0:=rfl
 have htE:(tagN (rowL X q)).E=[]:=rfl
 generalize hn:readI X (rowL X q)=n at *
 generalize hoo:ownI X (rowL X q)=own at *
 generalize hlg:numAll X (rowL X q)=l at *
 generalize hlig:(rowL X q).getD 7 0=li at *
 generalize hmg:((rowL X q).getD 1 0).toNat=m at *
 generalize hrg:rowL X q=r at *
 have hz0:blocksN ([]:List (ByteArray×Int)).length=0:=by decide
 by_cases hK:(tagN r).K=2
 · -- a directory
  rw[if_pos hK] at hrd how
  obtain⟨hm24,hlu,hbk⟩:=hen hK
  have hnE:n.E=entsE X l m:=by rw[hrd]
  have hnEl:n.E.length=m:=by rw[hnE,entsE_len]
  have hnB:n.B=List.replicate 13 0:=by rw[hrd];exact htB
  have hnK:n.K=2:=by rw[hrd];exact hK
  have hc6:blocksN m≤6:=by unfold blocksN;omega
  have hlz:∀k,blocksN m≤k→l.getD k 0=0:=λk hk=>by
   rw[hlu,uptoL_get hll (by omega),if_neg (by omega)]
  have hdir:DirP n:=by
   rcases hR.2.2 with h|h
   ·have :=h.1;omega
   ·exact h.2
  have hlo:((l.take (blocksN m)).map Int.toNat).length=blocksN m:=by rw[List.length_map,List.length_take,hll];omega
  have hol:own.length=blocksN m+(if li=0 then 0 else 1):=by
   rw[how,List.length_append,hlo]
   split<;>rfl
  have hget:∀k,k<blocksN m→own.getD k 0=(l.getD k 0).toNat:=λk hk=>by
   rw[how,List.getD_eq_getElem?_getD,List.getElem?_append_left (by rw[hlo];exact hk),←List.getD_eq_getElem?_getD,take_toNat hk (by rw[hll];omega)]
  have hgetl:li≠0→own.getD (blocksN m) 0=li.toNat:=λh0=>by
   rw[how,List.getD_eq_getElem?_getD,List.getElem?_append_right (by rw[hlo];omega),hlo,Nat.sub_self,if_neg h0]
   rfl
  have hli:listI n own=li.toNat:=by
   unfold listI
   rw[hnEl]
   by_cases h0:li=0
   ·rw[if_neg (by rw[hol,if_pos h0];omega),h0];rfl
   ·rw[if_pos (by rw[hol,if_neg h0];omega),hgetl h0]
  have hlaid:laidL n own=l:=by
   have hoc:blocksN n.E.length≤own.length:=by rw[hnEl,hol];omega
   refine z_ext (by rw[laidL_len (by rw[hnB];rfl) (by rw[hnEl];omega) hoc,hll]) λk _=> ?_
   rw[laidL_get hoc,hnEl]
   split
   ·rename_i hk
    rw[hget k hk,Int.toNat_of_nonneg (h256 k).1]
   ·rename_i hk
    rw[hlz k (by omega),hnB,List.getD_eq_getElem?_getD,List.getElem?_replicate]
    split<;>rfl
  have hli6:li≠0↔5<blocksN m:=by
   constructor
   ·intro h0
    have h1:=hl3.resolve_left h0
    rcases Nat.lt_or_ge 5 (blocksN m) with h|h
    ·exact h
    ·refine absurd (z_ext (by rw[List.length_drop,hll];rfl) λk _=> ?_) h1
     rw[drop5_get,hlz _ (by omega),List.getD_eq_getElem?_getD,List.getElem?_replicate]
     split<;>rfl
   ·intro h5 h0
    rw[if_pos h0] at hd5
    have h1:=(hbk 5 h5).1
    have h2:(l.drop 5).getD 0 0=0:=by rw[hd5];rfl
    rw[drop5_get] at h2
    exact h1 h2
  have hneed:needN n=own.length:=by
   unfold needN
   rw[hnEl,hol]
   by_cases h0:li=0
   ·rw[if_neg,if_pos h0]
    ·rfl
    ·intro h
     rcases h with h|h
     ·exact hli6.2 h h0
     ·exact h (by rw[hnB];rfl)
   ·rw[if_pos (.inl (hli6.1 h0)),if_neg h0]
  have hmem:∀c∈own,c≠0∧c<256:=λc hc=>by
   obtain⟨k,hk,rfl⟩:=List.getElem_of_mem hc
   have e:own[k]=own.getD k 0:=by rw[List.getD_eq_getElem?_getD,List.getElem?_eq_getElem hk];rfl
   rw[e]
   by_cases hkc:k<blocksN m
   ·rw[hget k hkc]
    have :=(hbk k hkc).1
    have :=h256 k
    omega
   ·rw[hol] at hk
    split at hk
    ·omega
    ·rename_i h0
     rw[show k=blocksN m by omega,hgetl h0]
     omega
  have hblk:∀k,k<blocksN m→rowL X (1080+8*own.getD k 0)=entRow n.E k:=λk hk=>by
   rw[hget k hk,hnE]
   exact(hbk k hk).2.2.symm
  have hlrow:li≠0→rowL X (1080+8*li.toNat)=l.drop 5:=λh0=>by rw[hd5,if_neg h0]
  have hfirst:∀k,k<blocksN m→(entRow n.E k).getD 0 0=((wordV (bl (enm n.E (4*k))):Nat):Int)∧4*k<n.E.length:=λk hk=>by
   have hk4:4*k<m:=by unfold blocksN at hk;omega
   refine⟨?_,by omega⟩
   unfold entRow
   rw[entTo_get _ _ _ _ (by omega),if_pos (by omega),entX,if_pos (by omega)]
   rfl
  have hrise:=λk hk (h0:0<k)=>(hdir.2.2.2 k hk).2.2 h0
  refine⟨hR,by rw[hrd];exact hF,by rw[hnB];rfl,hneed.symm,hmem,?_,?_⟩
  ·rw[List.nodup_iff_pairwise_ne,List.pairwise_iff_getElem]
   intro i j hi hj hij e
   have ei:own[i]=own.getD i 0:=by rw[List.getD_eq_getElem?_getD,List.getElem?_eq_getElem hi];rfl
   have ej:own[j]=own.getD j 0:=by rw[List.getD_eq_getElem?_getD,List.getElem?_eq_getElem hj];rfl
   rw[ei,ej] at e
   have hic:i<blocksN m:=by rw[hol] at hj;split at hj<;>omega
   obtain⟨f1,f2⟩:=hfirst i hic
   have b1:=hblk i hic
   have g1:=(hdir.2.2.2 (4*i) f2).1
   by_cases hjc:j<blocksN m
   ·obtain⟨f3,f4⟩:=hfirst j hjc
    have b2:=hblk j hjc
    rw[e,b2] at b1
    rw[b1,f1] at f3
    have g2:=(hdir.2.2.2 (4*j) f4).1
    have hw:wordV (bl (enm n.E (4*i)))=wordV (bl (enm n.E (4*j))):=by omega
    unfold wordV at hw
    rw[if_pos g1,if_pos g2] at hw
    have n1:=nameN_wordN g1 (bl_lt _)
    have n2:=nameN_wordN g2 (bl_lt _)
    rw[hw,n2] at n1
    exact names_apart hrise (show 4*i<4*j by omega) f4 (bl_inj (Option.some.inj n1)).symm
   ·have h0:li≠0:=λh0=>by rw[hol,if_pos h0] at hj;omega
    have hje:j=blocksN m:=by rw[hol,if_neg h0] at hj;omega
    rw[hje,hgetl h0] at e
    rw[e,hlrow h0] at b1
    have :=word_big g1
    rw[←b1,drop5_get] at f1
    have :=h256 (5+0)
    omega
  ·refine⟨by rw[hlaid,hli,Int.toNat_of_nonneg hl70,hrow,hrg],λk hk=> ?_⟩
   unfold ownRow
   rw[hnEl,hlaid]
   split
   ·rename_i hkc
    exact hblk k hkc
   ·rename_i hkc
    have h0:li≠0:=λh0=>by rw[hol,if_pos h0] at hk;omega
    have hke:k=blocksN m:=by rw[hol,if_neg h0] at hk;omega
    rw[hke,hgetl h0,hlrow h0]
 · -- a file
  rw[if_neg hK] at hrd how
  have hnE:n.E=[]:=by rw[hrd];exact htE
  have hnEl:blocksN n.E.length=0:=by rw[hnE];exact hz0
  have hnB:n.B=l:=by rw[hrd]
  have hol:own=if li=0 then [] else [li.toNat]:=by rw[how,List.nil_append]
  have hlaid:laidL n own=l:=by
   unfold laidL
   rw[hnEl,hnB]
   rfl
  have hli:listI n own=li.toNat:=by
   unfold listI
   rw[hnEl]
   by_cases h0:li=0
   ·rw[hol,if_pos h0,if_neg (by simp),h0];rfl
   ·rw[hol,if_neg h0,if_pos (by simp)];rfl
  refine⟨hR,by rw[hrd];exact hF,by rw[hnB,hll],?_,?_,?_,?_⟩
  ·unfold needN
   rw[hnEl,hnB]
   by_cases h0:li=0
   ·rw[if_pos h0] at hd5
    rw[hol,if_pos h0,if_neg]
    ·rfl
    ·intro h
     rcases h with h|h
     ·omega
     ·exact h hd5
   ·rw[hol,if_neg h0,if_pos (.inr (hl3.resolve_left h0))]
    rfl
  ·rw[hol]
   split
   ·simp
   ·rename_i h0
    intro c hc
    rw[List.mem_singleton] at hc
    omega
  ·rw[hol]
   split<;>simp
  ·refine⟨by rw[hlaid,hli,Int.toNat_of_nonneg hl70,hrow,hrg],λk hk=> ?_⟩
   unfold ownRow
   rw[hnEl,hlaid,if_neg (by omega)]
   have h0:li≠0:=λh0=>by rw[hol,if_pos h0] at hk;simp at hk
   rw[hol,if_neg h0] at hk ⊢
   obtain rfl:k=0:=by simpa using hk
   show rowL X (1080+8*li.toNat)=_
   rw[hd5,if_neg h0]
def LayPost (w:World) (b gp:Nat) (B:List Int) (ps:List (Int×Int)) (i:Int) (n:Ino) (e:Ending) (w':World):Prop:=
 ∃r qs gp',e= .returned (.int .i64 r)∧(gp'=gp∨(w.heap.size≤gp'∧gp'<w'.heap.size))∧ShAt w' b gp' B (ps++qs)∧Keeps [b,gp] w w'∧qs.length≤200∧
  ((r=1∧¬LayP i n∧qs=[])∨(r=7∧LayP i n∧(freeL (putAll B ps)).length<needN n∧qs=[])∨
   (r=0∧LayP i n∧needN n≤(freeL (putAll B ps)).length∧qs=layPs (putAll B ps) i.toNat n ((freeL (putAll B ps)).take (needN n))))
theorem own_in {X:List Int} {m:Nat}:∀c∈(freeL X).take m,c≠0∧c<256:=λc hc=>by
 have :=freeTo_mem.1 (List.mem_of_mem_take hc)
 exact⟨this.2.1,this.1⟩
theorem own_nodup {X:List Int} {m:Nat}:((freeL X).take m).Nodup:=List.Sublist.nodup (List.take_sublist _ _) (freeTo_nodup X 256)
theorem own_len {X:List Int} {m:Nat} (h:m≤(freeL X).length):((freeL X).take m).length=m:=by rw[List.length_take,Nat.min_eq_left h]
theorem layPs_len {X:List Int} {i:Nat} {n:Ino} {own:List Nat} (hB:blocksN n.E.length≤6) (hm:∀c∈own,c≠0∧c<256) (ho:own.length≤7):(layPs X i n own).length≤200:=by
 unfold layPs rowsPs listPs
 rw[List.length_append,List.length_append,List.length_append,takePs_len _ _ hm,entPs_len,rowPs_len]
 split
 ·rw[rowPs_len];omega
 ·simp only[List.length_nil];omega
theorem lay_any {w:World} {b gp:Nat} {B:List Int} {ps:List (Int×Int)} (h:ShAt w b gp B ps) (h64:In64 (putAll B ps)) (hT:TabAt w) (hgp:gp<w.heap.size) (hps:ps.length≤800000) (i:Int) (n:Ino) (v:Value) (g:Nat) (hB:n.B.length=13) (hE:EReads w v g n.E)
  (hN:∀k,k<n.E.length→(enm n.E k).size≤9223372036854775807) (hgg:n.E.length≠0→g≠b∧g≠gp):
  Calls Tryz.prog 60 #[.pointer (some ⟨b,0,none⟩),.int .i64 i,.agg (inoC n v)] w (LayPost w b gp B ps i n):=by
 by_cases hok:LayP i n
 ·by_cases hn:needN n≤(freeL (putAll B ps)).length
  ·refine(lay_ok h h64 hT hgp hps i n v g hB hE hN hok hgg hn).mono λe w' he=> ?_
   obtain⟨he,gp',h1,h2,h3⟩:=he
   have hbl:=blocks_le hok.2.2
   have hcn:=need_le n
   exact⟨0,_,gp',he,h1,h2,h3,layPs_len hbl.2.1 own_in (by rw[own_len hn];omega),.inr (.inr ⟨rfl,hok,hn,rfl⟩)⟩
  ·refine(lay_space h h64 i n v g hB hE hN hok (by omega)).mono λe w' he=> ?_
   exact⟨7,[],gp,he.1,.inl rfl,by rw[List.append_nil];exact h.keep he.2 (by simp) (by simp),he.2.mono (by simp),by simp,.inr (.inl ⟨rfl,hok,by omega,rfl⟩)⟩
 ·refine(lay_arg i n v g hB hE hN hok).mono λe w' he=> ?_
  exact⟨1,[],gp,he.1,.inl rfl,by rw[List.append_nil];exact h.keep he.2 (by simp) (by simp),he.2.mono (by simp),by simp,.inl ⟨rfl,hok,rfl⟩⟩
theorem store_ino {w:World} {g:Nat} {cur:Array Value} {n:Ino} (hb:Blk w g cur 37) (hc:cur.size=18) (hB:n.B.length=13) {v:Value} (h1:v.oneCell'=true):
  ∃w',(storeVar 37 ⟨g,0,none⟩ (.agg (inoC n v))).run Tryz.prog w= .ok () w'∧Blk w' g (inoC n v) 37∧Keeps [g] w w':=
 store_whole (P:= Tryz.prog) (ty:= 37) (cs:=inoL n v) (by rw[inoL_len,hB];exact size_ino) hb (by rw[hc,inoL_len,hB]) (inoL_one h1)
theorem reads_one {w:World} {v:Value} {g:Nat} {E:List (ByteArray×Int)} (h:EReads w v g E):v.oneCell'=true:=by
 obtain⟨a,cap,rfl,-⟩:=h
 rfl
theorem laid_all {X:List Int} (h64:In64 X) (hX:X.length=3128) {i:Int} {n:Ino} (hB:n.B.length=13) (hok:LayP i n) (hn:needN n≤(freeL X).length):
  LaidAt (putAll X (layPs X i.toNat n ((freeL X).take (needN n)))) (824+8*i.toNat) n ((freeL X).take (needN n))∧In64 (putAll X (layPs X i.toNat n ((freeL X).take (needN n))))∧
  (∀k,820≤k→¬(824+8*i.toNat≤k∧k<824+8*i.toNat+8)→¬(1080≤k∧(k-1080)/8∈(freeL X).take (needN n))→(putAll X (layPs X i.toNat n ((freeL X).take (needN n)))).getD k 0=X.getD k 0):=by
 have hbl:=blocks_le hok.2.2
 have hcn:=need_le n
 have hol:=own_len hn
 have hi:=hok.1
 refine⟨?_,lay_64 h64 hX hB hok.2.2 (by omega) own_in,λk hk h1 h2=>lay_other (by omega) own_in hk h2 (by omega)⟩
 unfold layPs
 rw[putAll_append]
 exact laid_put (by rw[putAll_len,hX]) _ (by omega) hB hbl.2.1 (by omega) (by omega) own_nodup own_in
theorem In64.of_mem {l:List Int} (h:∀x,x∈l→0≤x∧x<18446744073709551616):In64 l:=λi=>by
 rw[List.getD_eq_getElem?_getD]
 by_cases hi:i<l.length
 ·rw[List.getElem?_eq_getElem hi]
  exact h _ (List.getElem_mem hi)
 ·rw[List.getElem?_eq_none (by omega)]
  simp
theorem endAt_le (l:List Int):∀f e,endAt l f e≤e+f
 |0,e=>Nat.le_refl _
 |f+1,e=>by
  unfold endAt
  split
  ·have :=endAt_le l f (e+1);omega
  ·omega
theorem runs_mem {l:List Int} {x:Int}:∀{k:Nat},x∈runsTo l k→∃j,j<k∧startP l j∧x=runW j (l.getD j 0) (lenAt l j)
 |0,h=>by simp[runsTo] at h
 |k+1,h=>by
  unfold runsTo at h
  split at h
  ·rename_i hs
   rcases List.mem_append.1 h with h|h
   ·obtain⟨j,h1,h2⟩:=runs_mem h
    exact⟨j,by omega,h2⟩
   ·rw[List.mem_singleton] at h
    exact⟨k,by omega,hs,h⟩
  ·obtain⟨j,h1,h2⟩:=runs_mem h
   exact⟨j,by omega,h2⟩
theorem runs_64 {l:List Int} {x:Int} (h:x∈runsL l):0≤x∧x<9223372036854775808:=by
 obtain⟨j,hj,hs,rfl⟩:=runs_mem h
 have h1:=hs.1
 have h2:=endAt_le l 13 (j+1)
 unfold isB at h1
 unfold runW lenAt
 omega
theorem own_lt {own:List Nat} (hm:∀c∈own,c≠0∧c<256) (k:Nat):own.getD k 0<256:=by
 by_cases h:k<own.length
 ·exact(hm _ (getD_mem h)).2
 ·rw[List.getD_eq_getElem?_getD,List.getElem?_eq_none (by omega)]
  decide
theorem rowF_64 {n:Ino} {own:List Nat} (hR:RightP n) (hm:∀c∈own,c≠0∧c<256):In64 (rowF n own):=by
 obtain⟨t1,t2,t3,t4⟩:=tagOk_right hR
 have ht:0≤tagW n∧tagW n<18446744073709551616:=by unfold tagW;omega
 have hs:0≤n.S∧n.S<18446744073709551616:=by omega
 refine In64.of_mem λx hx=> ?_
 unfold rowF at hx
 split at hx
 ·have hh:∀q,0≤hdTo n.E own 4 0 q∧hdTo n.E own 4 0 q<18446744073709551616:=λq=>by
   unfold hdTo hdD
   have h1:=own_lt hm (fstN n.E q)
   split
   ·split<;>omega
   ·split<;>omega
  simp only[dirRow,rowD,List.mem_cons,List.not_mem_nil,or_false] at hx
  rcases hx with rfl|rfl|rfl|rfl|rfl|rfl|rfl|rfl
  ·exact ht
  ·exact hs
  ·exact hh 0
  ·exact hh 1
  ·exact hh 2
  ·exact hh 3
  ·omega
  ·omega
 ·unfold fileRow at hx
  split at hx
  ·rcases List.mem_cons.1 hx with rfl|hx
   ·exact ht
   ·rcases List.mem_cons.1 hx with rfl|hx
    ·exact hs
    ·rcases List.mem_append.1 hx with hx|hx
     ·have :=runs_64 hx;omega
     ·have :=List.eq_of_mem_replicate hx;omega
  ·rcases List.mem_cons.1 hx with rfl|hx
   ·exact ht
   ·rcases List.mem_cons.1 hx with rfl|hx
    ·exact hs
    ·rcases List.mem_append.1 hx with hx|hx
     ·have :=runs_64 (List.mem_of_mem_take hx);omega
     ·rw[List.mem_singleton] at hx
      have :=own_lt hm 0
      omega
theorem blocksF_64 {n:Ino} {own:List Nat} (hR:RightP n) (hm:∀c∈own,c≠0∧c<256) (m:Nat):In64 ((blocksF n own).getD m []):=by
 by_cases hmb:m<(blocksF n own).length
 ·unfold blocksF at hmb ⊢
  split at hmb
  ·rename_i hK
   rw[if_pos hK]
   have hd:DirP n:=(hR.2.2.resolve_left (λh=>by have :=h.1;omega)).2
   rw[dirTo_len] at hmb
   obtain⟨b,j,hb,hj,rfl⟩:=fst_cover n.E hmb
   rw[dirTo_get n.E own hj hb]
   intro y
   cases y with
   |zero=>
    show 0≤(if j+1<dN n.E b then ((own.getD (fstN n.E b+(j+1)) 0:Nat):Int) else 0)∧(if j+1<dN n.E b then ((own.getD (fstN n.E b+(j+1)) 0:Nat):Int) else 0)<_
    have :=own_lt hm (fstN n.E b+(j+1))
    split<;>omega
   |succ y=>
    rw[blkD,blkX_succ]
    by_cases hy:y<7
    ·rw[blk_word _ _ _ hy]
     split
     ·rename_i hc
      split
      ·have :=wordV_64 (enm (sprE n.E b) (3*j+y/2));omega
      ·obtain⟨k,hk,-,e2⟩:=spr_mem hc.1
       rw[e2]
       have :=(hd.2.2.2 k hk).2.1
       omega
     ·omega
    ·rw[List.getD_eq_getElem?_getD,List.getElem?_eq_none (by rw[wordsE_len,chE_len];omega)]
     simp
  ·rename_i hK
   rw[if_neg hK]
   unfold fileBlocks at *
   split
   ·simp[In64]
   ·refine In64.of_mem λx hx=> ?_
    rename_i h6
    rw[if_neg h6] at hmb
    obtain rfl:m=0:=by simpa using hmb
    have hx:x∈(runsL n.B).drop 5++List.replicate (13-(runsL n.B).length) 0:=hx
    rcases List.mem_append.1 hx with hx|hx
    ·have :=runs_64 (List.mem_of_mem_drop hx);omega
    ·have :=List.eq_of_mem_replicate hx;omega
 ·rw[List.getD_eq_getElem?_getD,List.getElem?_eq_none (by omega)]
  simp[In64]
theorem blkPs_mem {p:Int×Int} {Ls:List (List Int)} {own:List Nat} {k:Nat} (h:p∈blkPs Ls own k):∃m j,m<k∧j<8∧p.1.toNat=1080+8*own.getD m 0+j∧p.2=(Ls.getD m []).getD j 0:=by
 unfold blkPs at h
 obtain⟨m,hm,h⟩:=List.mem_flatMap.1 h
 rw[List.mem_range] at hm
 obtain⟨j,hj,h1,h2⟩:=rowPs_mem h
 exact⟨m,j,hm,hj,h1,h2⟩
theorem blk_put {X:List Int} (hX:X.length=3128) {Ls:List (List Int)} {own:List Nat} (h8:∀m,m<own.length→(Ls.getD m []).length=8) (hn:own.Nodup) (hm:∀c∈own,c≠0∧c<256):∀k,k≤own.length→∀m,m<k→rowL (putAll X (blkPs Ls own k)) (1080+8*own.getD m 0)=Ls.getD m []:=by
 intro k
 induction k with
 |zero=>intro _ m h;omega
 |succ k ih=>
  intro hk m hmk
  have hkk:=hm _ (getD_mem (show k<own.length by omega))
  have hmm:=hm _ (getD_mem (show m<own.length by omega))
  rw[blkPs_succ,putAll_append]
  by_cases e:m=k
  ·subst e
   exact rowL_put_eq (by rw[putAll_len,hX]) _ (by omega) (h8 m (by omega))
  ·have :own.getD m 0≠own.getD k 0:=λh=>e (getD_inj hn (by omega) (by omega) h)
   rw[rowL_put_ne (by rw[putAll_len,hX]) _ _ (by omega) (by omega)]
   exact ih (by omega) m (by omega)
theorem laid2_all {X:List Int} (h64:In64 X) (hX:X.length=3128) {i:Int} {n:Ino} (hok:Lay2P i n) (hn:needF n≤(freeL X).length):
  IsLaidP (putAll X (lay2Ps X i.toNat n ((freeL X).take (needF n)))) (rowL (putAll X (lay2Ps X i.toNat n ((freeL X).take (needF n)))) (824+8*i.toNat)) n ((freeL X).take (needF n))∧In64 (putAll X (lay2Ps X i.toNat n ((freeL X).take (needF n))))∧
  (∀k,820≤k→¬(824+8*i.toNat≤k∧k<824+8*i.toNat+8)→¬(1080≤k∧(k-1080)/8∈(freeL X).take (needF n))→(putAll X (lay2Ps X i.toNat n ((freeL X).take (needF n)))).getD k 0=X.getD k 0):=by
 have hol:=own_len hn
 have hi:=hok.1
 have hm:∀c∈(freeL X).take (needF n),c≠0∧c<256:=own_in
 have hnd:((freeL X).take (needF n)).Nodup:=own_nodup
 generalize (freeL X).take (needF n)=own at *
 have h8:∀m,m<own.length→((blocksF n own).getD m []).length=8:=λm hml=>blocksF_len8 (by rw[blocksF_len hok.2.2 hol];exact hml)
 refine⟨?_,?_,λk hk h1 h2=> ?_⟩
 ·unfold lay2Ps
  rw[putAll_append,putAll_append]
  refine⟨λm hml=> ?_,(rowL_put_eq (by rw[putAll_len,putAll_len,hX]) _ (by omega) (rowF_len n own)).symm⟩
  have hmm:=hm _ (getD_mem hml)
  rw[rowL_put_ne (by rw[putAll_len,putAll_len,hX]) _ _ (by omega) (by omega)]
  exact(blk_put (by rw[putAll_len,hX]) h8 hnd hm _ (Nat.le_refl _) m hml).symm
 ·unfold lay2Ps
  rw[putAll_append]
  refine(takePs_state own X h64 hX hm).1.put λp hp=> ?_
  rcases List.mem_append.1 hp with hp|hp
  ·obtain⟨m,j,-,-,-,h⟩:=blkPs_mem hp
   rw[h]
   exact blocksF_64 hok.2.2 hm m j
  ·obtain⟨j,-,-,h⟩:=rowPs_mem hp
   rw[h]
   exact rowF_64 hok.2.2 hm j
 ·refine putAll_other _ _ _ λp hp hpk=> ?_
  unfold lay2Ps at hp
  rcases List.mem_append.1 hp with hp|hp
  ·rcases takePs_mem _ _ hm hp with h|h
   ·omega
   ·rw[hpk] at h;exact h2 h
  ·rcases List.mem_append.1 hp with hp|hp
   ·obtain⟨m,j,h3,h4,h5,-⟩:=blkPs_mem hp
    refine h2 ⟨by omega,?_⟩
    rw[←hpk,h5,show(1080+8*own.getD m 0+j-1080)/8=own.getD m 0 by omega]
    exact getD_mem h3
   ·obtain⟨j,h4,h5,-⟩:=rowPs_mem hp
    exact h1 ⟨by omega,by omega⟩
def Lay2Post (w:World) (b gp:Nat) (B:List Int) (ps:List (Int×Int)) (i:Int) (n:Ino) (e:Ending) (w':World):Prop:=
 ∃r qs gp',e= .returned (.int .i64 r)∧(gp'=gp∨(w.heap.size≤gp'∧gp'<w'.heap.size))∧ShAt w' b gp' B (ps++qs)∧Keeps [b,gp] w w'∧qs.length≤600∧
  ((r=1∧¬Lay2P i n∧qs=[])∨(r=7∧Lay2P i n∧(freeL (putAll B ps)).length<needF n∧qs=[])∨
   (r=0∧Lay2P i n∧needF n≤(freeL (putAll B ps)).length∧qs=lay2Ps (putAll B ps) i.toNat n ((freeL (putAll B ps)).take (needF n))))
theorem lay2Ps_len {X:List Int} {i:Nat} {n:Ino} {own:List Nat} (hm:∀c∈own,c≠0∧c<256) (ho:own.length≤32):(lay2Ps X i n own).length≤600:=by
 unfold lay2Ps
 rw[List.length_append,List.length_append,takePs_len _ _ hm,blkPs_len,rowPs_len]
 omega
theorem lay2_any {w:World} {b gp:Nat} {B:List Int} {ps:List (Int×Int)} (h:ShAt w b gp B ps) (h64:In64 (putAll B ps)) (hT:TabAt w) (hgp:gp<w.heap.size) (hps:ps.length≤800000) (i:Int) (n:Ino) (v:Value) (g:Nat) (hB:n.B.length=13) (hE:EReads w v g n.E)
  (hN:∀k,k<n.E.length→(enm n.E k).size≤9223372036854775807) (hgg:n.E.length≠0→g≠b∧g≠gp):
  Calls Tryz.prog 62 #[.pointer (some ⟨b,0,none⟩),.int .i64 i,.agg (inoC n v)] w (Lay2Post w b gp B ps i n):=by
 by_cases hok:Lay2P i n
 ·by_cases hn:needF n≤(freeL (putAll B ps)).length
  ·refine(lay2_ok h h64 hT hgp hps i n v g hB hE hN hok hgg hn).mono λe w' he=> ?_
   obtain⟨he,gp',h1,h2,h3⟩:=he
   exact⟨0,_,gp',he,h1,h2,h3,lay2Ps_len own_in (by rw[own_len hn];exact needF_le hok.2.2),.inr (.inr ⟨rfl,hok,hn,rfl⟩)⟩
  ·refine(lay2_space h h64 i n v g hB hE hN hok (by omega)).mono λe w' he=> ?_
   exact⟨7,[],gp,he.1,.inl rfl,by rw[List.append_nil];exact h.keep he.2 (by simp) (by simp),he.2.mono (by simp),by simp,.inr (.inl ⟨rfl,hok,by omega,rfl⟩)⟩
 ·refine(lay2_arg i n v g hB hE hN hok).mono λe w' he=> ?_
  exact⟨1,[],gp,he.1,.inl rfl,by rw[List.append_nil];exact h.keep he.2 (by simp) (by simp),he.2.mono (by simp),by simp,.inl ⟨rfl,hok,rfl⟩⟩
theorem w64_in {x:Int} (h0: -9223372036854775808≤x) (h1:x<9223372036854775808):wrap64 x=x:=by unfold wrap64;omega
theorem num_u64 {x:Int} (h0:0≤x) (h1:x<18446744073709551616):IntKind.u64.wrap x=x:=by
 simp[IntKind.wrap,IntKind.bits,IntKind.signed];omega
def setTo (l:List Int) (p b:Nat):Nat→List Int
 |0=>l
 |j+1=>(setTo l p b j).set (p+j) (((b+j:Nat):Int))
theorem setTo_len (l:List Int) (p b:Nat):∀j,(setTo l p b j).length=l.length
 |0=>rfl
 |j+1=>by unfold setTo;rw[List.length_set,setTo_len l p b j]
def numsTo (L:List Int):Nat→Option (List Int)
 |0=>some (List.replicate 13 0)
 |k+1=>match numsTo L k with
  |none=>none
  |some l=>if 13<(L.getD k 0).toNat/4294967296+(L.getD k 0).toNat%256 then none
   else some (setTo l ((L.getD k 0).toNat/4294967296) ((L.getD k 0).toNat/256%16777216) ((L.getD k 0).toNat%256))
theorem numsTo_none {L:List Int} {k:Nat} (h:numsTo L k=none):∀n,k≤n→numsTo L n=none
 |0,hn=>by have :k=0:=by omega
           subst this;exact h
 |n+1,hn=>by
  by_cases e:k=n+1
  ·subst e;exact h
  ·unfold numsTo
   rw[numsTo_none h n (by omega)]
theorem numsTo_len {L:List Int}:∀{k:Nat} {l:List Int},numsTo L k=some l→l.length=13
 |0,l,h=>by cases h;simp
 |k+1,l,h=>by
  unfold numsTo at h
  split at h
  ·cases h
  ·rename_i l0 h0
   split at h
   ·cases h
   ·cases h
    rw[setTo_len,numsTo_len h0]
theorem run_parts (x:Nat) (hx:x<18446744073709551616):bits .and .u64 ((x:Int)/256) 16777215=((x/256%16777216:Nat):Int)∧bits .and .u64 (x:Int) 255=((x%256:Nat):Int):=by
 have h1:=Nat.div_le_self x 256
 constructor
 ·rw[show(x:Int)/256=((x/256:Nat):Int) by omega,show(16777215:Int)=((16777215:Nat):Int) from rfl,u64_and_nat (x/256) 16777215 (by omega) (by omega),show x/256 &&& 16777215=x/256%2^24 from Nat.and_two_pow_sub_one_eq_mod _ 24]
 ·rw[show(255:Int)=((255:Nat):Int) from rfl,u64_and_nat x 255 hx (by omega),show x &&& 255=x%2^8 from Nat.and_two_pow_sub_one_eq_mod x 8]
theorem results_cell2' {P:Program} {fn:Func} {tmps:Array Value} {a t b:Nat} {ad:Addr} {v x:Value} {w:World} (hfn:fn.results= #[.cell a t,.tmp b]) (ha:tmps.getD a undef= .pointer (some ad)) (hl:(loadVar t ad).run P w= .ok v w)
  (hb:tmps.getD b undef=x):(results fn tmps).run P w= .ok (.tuple #[v,x]) w:=by
 rw[Array.getD_eq_getD_getElem?] at ha hb
 unfold results
 rw[hfn]
 simp[Sem.run_bind,ha,asAddr_ptr,hl,hb]
def NumsPost (w:World) (L:List Int) (e:Ending) (w':World):Prop:=
 ∃l ok,e= .returned (.tuple #[.agg (zs l).toArray,.bool ok])∧l.length=13∧(ok=true→numsTo L L.length=some l)∧(ok=false→numsTo L L.length=none∧l=List.replicate 13 0)∧Keeps [] w w'
theorem word_facts (x P N C:Nat) (hx:x<18446744073709551616) (hP:P=x/4294967296) (hN:N=x/256%16777216) (hC:C=x%256):
  ∃si:Int,(x:Int)/4294967296=(P:Int)∧bits .and .u64 ((x:Int)/256) 16777215=(N:Int)∧bits .and .u64 (x:Int) 255=(C:Int)∧(P:Int)+(C:Int)=si∧IntKind.u64.wrap si=si∧(13<P+C↔13<si)∧P<4294967296∧N<16777216∧C<256:=by
 obtain⟨h1,h2⟩:=run_parts x hx
 refine⟨(P:Int)+(C:Int),by omega,by rw[hN];exact h1,by rw[hC];exact h2,rfl,num_u64 (by omega) (by omega),by omega,by omega,by omega,by omega⟩
theorem step_facts (P N C k:Nat) (hPC:P+C≤13) (hk:k<C) (hN:N<16777216):∃ji vi:Int,(P:Int)+(k:Int)=ji∧IntKind.u64.wrap ji=ji∧0≤ji∧ji<13∧ji.toNat=P+k∧(N:Int)+(k:Int)=vi∧IntKind.u64.wrap vi=vi∧wrap64 vi=vi∧vi=((N+k:Nat):Int):=
 ⟨(P:Int)+(k:Int),(N:Int)+(k:Int),rfl,num_u64 (by omega) (by omega),by omega,by omega,by omega,rfl,num_u64 (by omega) (by omega),w64_in (by omega) (by omega),by omega⟩
set_option maxRecDepth 100000 in
set_option maxHeartbeats 8000000 in
theorem nums2_at {w:World} {v:Value} {g:Nat} {L:List Int} (h:Reads w v g (u64s L)) (hL:L.length≤100) (h64:∀k,0≤L.getD k 0∧L.getD k 0<18446744073709551616):
  Calls Tryz.prog 111 #[v] w (NumsPost w L):=by
 obtain⟨a,cap,rfl,h1,h2,HC⟩:=u64s_cell h
 have hzv:=zero_n13
 have HB2:Hid (Blk ((w.alloc (.cells (zs (List.replicate 13 0)).toArray 34)).alloc (.cells (zs (List.replicate 13 0)).toArray 34)) w.heap.size (zs (List.replicate 13 0)).toArray 34):=(Blk.new w _ _).alloc _
 have HB4:Hid (Blk ((w.alloc (.cells (zs (List.replicate 13 0)).toArray 34)).alloc (.cells (zs (List.replicate 13 0)).toArray 34)) (w.heap.size+1) (zs (List.replicate 13 0)).toArray 34):=by
  have :=Blk.new (w.alloc (.cells (zs (List.replicate 13 0)).toArray 34)) (zs (List.replicate 13 0)).toArray 34
  have e:(w.alloc (.cells (zs (List.replicate 13 0)).toArray 34)).heap.size=w.heap.size+1:=by simp
  rw[e] at this
  exact this
 have HK0:Hid (Keeps [] w ((w.alloc (.cells (zs (List.replicate 13 0)).toArray 34)).alloc (.cells (zs (List.replicate 13 0)).toArray 34))):=((Keeps.refl _ _).alloc _).alloc _
 have HSZ:Hid (∀wx l,l.length=13→Blk wx w.heap.size (zs (List.replicate 13 0)).toArray 34→∃w',(storeVar 34 ⟨w.heap.size,0,none⟩ (.agg (zs l).toArray)).run Tryz.prog wx= .ok () w'∧(loadVar 34 ⟨w.heap.size,0,none⟩).run Tryz.prog w'= .ok (.agg (zs l).toArray) w'∧Keeps [w.heap.size] wx w'):=λwx l hl hb=>by
  obtain⟨w',q1,q2,q3⟩:=store_whole (P:= Tryz.prog) (ty:= 34) (cs:=zs l) (by rw[zs_len,hl];exact size_n13) hb (by simp[zs_len,hl]) (zs_one _)
  exact⟨w',q1,load_n13 (off:=0) q2 hl (λk hk=>by rw[Nat.zero_add,List.getElem?_toArray,zs_get (by omega)]),q3⟩
 have H64:=Lib.hid h64
 clear h h64
 generalize hn:L.length=n at *
 have HN:=Lib.hid hn
 clear hn
 generalize hz0:(zs (List.replicate 13 0)).toArray=Z0 at *
 have HZ0:=Lib.hid hz0
 clear hz0
 go_enter Tryz.func111,Tryz.ntmps111
 go_wp2_with fail
 go_loopg [13] n (λgh s13 wx=>∃(k:Nat) (l:List Int),k+gh=n∧s13= .int .i64 (k:Int)∧Hid (numsTo L k=some l∧Blk wx (w.heap.size+1) (zs l).toArray 34∧Blk wx w.heap.size Z0 34∧Keeps [] w wx))
 case atStart=>exact⟨0,List.replicate 13 0,by omega,rfl,rfl,by rw[HZ0.out];exact HB4.out,HB2.out,HK0.out⟩
 case round=>
  clear HB2 HB4 HK0
  obtain⟨k,l,hk,rfl,HP⟩:=hrel
  obtain⟨hnum,hb4,hb2,hkp⟩:=HP.out
  have hl13:=numsTo_len hnum
  cases gk with
  |zero=>
   obtain rfl:k=n:=by omega
   have HL:=Lib.hid (load_n13 (off:=0) hb4 hl13 (λk hk=>by rw[Nat.zero_add,List.getElem?_toArray,zs_get (by omega)]))
   obtain⟨w2,hS,hld,hk2⟩:=HSZ.out wr l hl13 hb2
   have HS:=Lib.hid hS
   have HLD:=Lib.hid hld
   have HF:Hid (NumsPost w L (.returned (.tuple #[.agg (zs l).toArray,.bool true])) w2):=⟨l,true,rfl,hl13,λ_=>by rw[HN.out];exact hnum,λh=>(by cases h),hkp.trans hk2 (by simp)⟩
   clear HP hnum hb4 hb2 hkp hS hld hk2 hk hzv
   go_wp2_with(first|((with_reducible show wpList _ _ _ (⟨_,.load 34 (.tmp 4),_,_,_,_⟩::_) _ _);refine wpList_load_any rfl 34 (.tmp 4) rfl _ rfl _ HL.out ?_)|((with_reducible show wpList _ _ _ (⟨_,.store 34 (.tmp 2) (.tmp 43),_,_,_,_⟩::_) _ _);refine wpList_store_any rfl 34 (.tmp 2) (.tmp 43) rfl _ rfl _ rfl _ HS.out ?_))
   exact bodyPost_ret (results_cell2' Tryz.results111 rfl HLD.out rfl) rfl HF.out
  |succ gg=>
   have hkn:k<n:=by omega
   have hlt:(k:Int)<(n:Int):=by omega
   have hk0:(0:Int)≤(k:Int):=by omega
   obtain⟨hgl,off,rfl,c0⟩:=HC.out k hkn
   have d0:=(World.cell?_of_block (w:=w) (a:=⟨g,off+k,none⟩) (hkp.block g hgl (by simp))).trans c0
   have h64k:=H64.out k
   obtain⟨x,hx⟩:∃x:Nat,L.getD k 0=(x:Int):=⟨(L.getD k 0).toNat,by omega⟩
   have hxt:(L.getD k 0).toNat=x:=by omega
   have HSU:Hid (numsTo L (k+1)=if 13<x/4294967296+x%256 then none else some (setTo l (x/4294967296) (x/256%16777216) (x%256))):=by
    show _=_
    rw[numsTo,hnum,hxt]
   rw[hx] at d0
   obtain⟨P,hP⟩:∃P,P=x/4294967296:=⟨_,rfl⟩
   obtain⟨N,hNN⟩:∃N,N=x/256%16777216:=⟨_,rfl⟩
   obtain⟨C,hCC⟩:∃C,C=x%256:=⟨_,rfl⟩
   obtain⟨si,q1,q2,q3,q4,q5,q6,q7,q8,q9⟩:=word_facts x P N C (by omega) hP hNN hCC
   rw[←hP,←hNN,←hCC] at HSU
   have HKP:=Lib.hid hkp
   have HB2:=Lib.hid hb2
   have HB4:=Lib.hid hb4
   clear hP hNN hCC c0 hx hxt h64k HP hnum hb4 hb2 hkp
   by_cases h13:13<si
   ·have HNO:Hid (numsTo L n=none):=numsTo_none (by rw[HSU.out,if_pos (q6.2 h13)]) n (by omega)
    obtain⟨w2,hS,hld,hk2⟩:=HSZ.out wr (List.replicate 13 0) (by simp) HB2.out
    rw[HZ0.out] at hS hld
    have HS:=Lib.hid hS
    have HLD:=Lib.hid hld
    have HF:Hid (NumsPost w L (.returned (.tuple #[.agg Z0,.bool false])) w2):=⟨List.replicate 13 0,false,by rw[HZ0.out],by simp,λh=>(by cases h),λ_=>⟨by rw[HN.out];exact HNO.out,rfl⟩,HKP.out.trans hk2 (by simp)⟩
    clear hS hld hk2 q6 q7 q8 q9
    go_wp2_with((with_reducible show wpList _ _ _ (⟨_,.store 34 (.tmp 2) (.tmp 28),_,_,_,_⟩::_) _ _);refine wpList_store_any rfl 34 (.tmp 2) (.tmp 28) rfl _ rfl _ rfl _ HS.out ?_)
    exact bodyPost_ret (results_cell2' Tryz.results111 rfl HLD.out rfl) rfl HF.out
   ·have hPC:P+C≤13:=by
     have :¬13<P+C:=λh=>h13 (q6.1 h)
     omega
    have HNX:Hid (numsTo L (k+1)=some (setTo l P N C)):=by
     show _=_
     rw[HSU.out,if_neg (by omega)]
    clear q6 HSU
    go_wp2_with fail
    clear d0 q1 q2 q3 q4 q5 hzv
    go_loopg [30] C (λgh s30 wx=>∃j:Nat,j+gh=C∧s30= .int .u64 (j:Int)∧Hid (Blk wx (w.heap.size+1) (zs (setTo l P N j)).toArray 34∧Blk wx w.heap.size Z0 34∧Keeps [] w wx))
    case atStart=>exact⟨0,by omega,rfl,HB4.out,HB2.out,HKP.out⟩
    case round=>
     clear HB4 HB2 HKP
     obtain⟨j,hj,rfl,HQ⟩:=hrel
     cases gk with
     |zero=>
      obtain rfl:j=C:=by omega
      have HQ2:=Lib.hid HQ.out
      clear HQ hj
      go_wp2_with fail
      go_roundg gg
      case measure=>omega
      case rel=>exact⟨k+1,_,by omega,by go_num,HNX.out,HQ2.out.1,HQ2.out.2.1,HQ2.out.2.2⟩
     |succ gk=>
      have hjC:j<C:=by omega
      have hjlt:(j:Int)<(C:Int):=by omega
      have hj0:(0:Int)≤(j:Int):=by omega
      obtain⟨ji,vi,r1,r2,r3,r4,r5,r6,r7,r8,r9⟩:=step_facts P N C j hPC hjC q8
      obtain⟨hb4,hb2,hkp⟩:=HQ.out
      have hlen:(setTo l P N j).length=13:=by rw[setTo_len];exact hl13
      have hcell:wr.cell? ⟨w.heap.size+1,P+j,none⟩=some (.int .i64 ((setTo l P N j).getD (P+j) 0)):=by rw[hb4.cell,List.getElem?_toArray,zs_get (by omega)]
      have hfz:wr.frozen? ⟨w.heap.size+1,P+j,none⟩=false:=hb4.frozen _
      have HR:Hid (Blk (wr.setCell ⟨w.heap.size+1,P+j,none⟩ (.int .i64 vi)) (w.heap.size+1) (zs (setTo l P N (j+1))).toArray 34∧Blk (wr.setCell ⟨w.heap.size+1,P+j,none⟩ (.int .i64 vi)) w.heap.size Z0 34∧Keeps [] w (wr.setCell ⟨w.heap.size+1,P+j,none⟩ (.int .i64 vi))):=by
       refine⟨?_,hb2.other (by simp) _,hkp.setCell (.inr (by show w.heap.size≤w.heap.size+1;omega)) _⟩
       have :=hb4.set (P+j) (.int .i64 vi)
       rw[List.setIfInBounds_toArray,zs_set,r9] at this
       rw[r9]
       exact this
      clear HQ hb4 hb2 hkp hlen r9
      generalize (setTo l P N j).getD (P+j) 0=y at *
      have hju:IntKind.u64.wrap ((j:Int)+1)=(j:Int)+1:=num_u64 (by omega) (by omega)
      go_wp2_with fail
      go_roundg gk
      case measure=>omega
      case rel=>exact⟨j+1,by omega,by go_num,HR.out⟩
theorem endAt_ge (l:List Int):∀f e,e≤endAt l f e
 |0,e=>Nat.le_refl _
 |f+1,e=>by
  unfold endAt
  split
  ·have :=endAt_ge l f (e+1);omega
  ·omega
theorem endAt_cont (l:List Int):∀f e i,e≤i→i<endAt l f e→contP l i
 |0,e,i,h1,h2=>by unfold endAt at h2;omega
 |f+1,e,i,h1,h2=>by
  unfold endAt at h2
  split at h2
  ·rename_i hc
   by_cases h:i=e
   ·subst h;exact hc
   ·exact endAt_cont l f (e+1) i (by omega) h2
  ·omega
theorem endAt_stop (l:List Int):∀f e,13≤e+f→¬contP l (endAt l f e)
 |0,e,h=>by
  unfold endAt
  exact λhc=>by have :=hc.2.1;omega
 |f+1,e,h=>by
  unfold endAt
  split
  ·exact endAt_stop l f (e+1) (by omega)
  ·assumption
theorem endAt_13 (l:List Int) (f e:Nat) (h:e≤13):endAt l f e≤13:=by
 by_cases h1:endAt l f e=e
 ·omega
 ·have h2:=endAt_ge l f e
  have :=(endAt_cont l f e (endAt l f e-1) (by omega) (by omega)).2.1
  omega
def covP (l:List Int) (k j:Nat):Prop:=∃s,s<k∧startP l s∧s≤j∧j<s+lenAt l s
theorem lenAt_facts (l:List Int) {s:Nat} (hs:s<13):1≤lenAt l s∧s+lenAt l s≤13∧s+lenAt l s=endAt l 13 (s+1):=by
 have h1:=endAt_ge l 13 (s+1)
 have h2:=endAt_13 l 13 (s+1) (by omega)
 unfold lenAt
 omega
theorem cov_num {l:List Int} {s j:Nat} (hs:s<13) (h1:s≤j) (h2:j<s+lenAt l s):l.getD j 0=l.getD s 0+((j-s:Nat):Int):=by
 obtain⟨-,-,h3⟩:=lenAt_facts l hs
 rw[h3] at h2
 exact run_num (λi hi hi2=>endAt_cont l 13 (s+1) i (by omega) hi2) j h1 h2
theorem cov_all {l:List Int}:∀j,j<13→isB (l.getD j 0)→covP l (j+1) j:=by
 intro j
 induction j with
 |zero=>
  intro _ hb
  refine⟨0,by omega,⟨hb,λh=>by have :=h.1;omega⟩,by omega,?_⟩
  have :=(lenAt_facts l (show 0<13 by omega)).1
  omega
 |succ j ih=>
  intro hj hb
  by_cases hc:contP l (j+1)
  ·have hb0:=hc.2.2.2.1
   rw[Nat.add_sub_cancel] at hb0
   obtain⟨s,h1,h2,h3,h4⟩:=ih (by omega) hb0
   obtain⟨-,-,h5⟩:=lenAt_facts l (show s<13 by omega)
   refine⟨s,by omega,h2,by omega,?_⟩
   rw[h5] at h4 ⊢
   refine Nat.lt_of_not_le λhle=> ?_
   have h6:endAt l 13 (s+1)=j+1:=by omega
   have :=endAt_stop l 13 (s+1) (by omega)
   rw[h6] at this
   exact this hc
  ·refine⟨j+1,by omega,⟨hb,hc⟩,by omega,?_⟩
   have :=(lenAt_facts l hj).1
   omega
theorem nums_pre (A C:List Int):∀k,k≤A.length→numsTo (A++C) k=numsTo A k
 |0,_=>rfl
 |k+1,h=>by
  unfold numsTo
  rw[nums_pre A C k (by omega),List.getD_eq_getElem?_getD,List.getD_eq_getElem?_getD,List.getElem?_append_left (by omega)]
theorem setTo_get (l:List Int) (p b:Nat):∀c,p+c≤l.length→∀j,(setTo l p b c).getD j 0=if p≤j∧j<p+c then ((b+(j-p):Nat):Int) else l.getD j 0
 |0,_,j=>by rw[if_neg (by omega)];rfl
 |c+1,h,j=>by
  rw[setTo,getD_set_any,setTo_len,setTo_get l p b c (by omega)]
  by_cases e:p+c=j
  ·subst e
   rw[if_pos ⟨rfl,by omega⟩,if_pos ⟨by omega,by omega⟩,Nat.add_sub_cancel_left]
  ·rw[if_neg (by omega)]
   by_cases e2:p≤j∧j<p+c
   ·rw[if_pos e2,if_pos ⟨e2.1,by omega⟩]
   ·rw[if_neg e2,if_neg (by omega)]
theorem word_parts (k b n:Nat) (hk:k<256) (hb:b<256) (hn:n<256):(runW k (b:Int) n).toNat/4294967296=k∧(runW k (b:Int) n).toNat/256%16777216=b∧(runW k (b:Int) n).toNat%256=n:=by
 have e:(runW k (b:Int) n).toNat=k*4294967296+b*256+n:=by unfold runW;omega
 rw[e]
 omega
theorem nums_runs (B:List Int):∀k,k≤13→∃l,numsTo (runsTo B k) (runsTo B k).length=some l∧(∀j,covP B k j→l.getD j 0=B.getD j 0)∧∀j,¬covP B k j→l.getD j 0=0:=by
 intro k
 induction k with
 |zero=>
  intro _
  refine⟨List.replicate 13 0,rfl,λj h=> ?_,λj _=> ?_⟩
  ·obtain⟨s,h1,-⟩:=h
   omega
  ·rw[List.getD_eq_getElem?_getD,List.getElem?_replicate]
   split<;>rfl
 |succ k ih=>
  intro hk
  obtain⟨l,h1,h2,h3⟩:=ih (by omega)
  by_cases hs:startP B k
  ·obtain⟨f1,f2,-⟩:=lenAt_facts B (show k<13 by omega)
   obtain⟨b,hb⟩:∃b:Nat,B.getD k 0=(b:Int):=⟨(B.getD k 0).toNat,by have :=hs.1;unfold isB at this;omega⟩
   have hb2:b<256:=by have :=hs.1;unfold isB at this;omega
   obtain⟨p1,p2,p3⟩:=word_parts k b (lenAt B k) (by omega) hb2 (by omega)
   have hl:=numsTo_len h1
   have hg:(runsTo B k++[runW k (B.getD k 0) (lenAt B k)]).getD (runsTo B k).length 0=runW k (b:Int) (lenAt B k):=by rw[hb];simp[List.getD_eq_getElem?_getD]
   refine⟨setTo l k b (lenAt B k),?_,λj hj=> ?_,λj hj=> ?_⟩
   ·rw[runsTo,if_pos hs,List.length_append,List.length_singleton,numsTo,nums_pre _ _ _ (Nat.le_refl _),h1,hg,p1,p2,p3]
    show(if 13<k+lenAt B k then none else some _)=_
    rw[if_neg (by omega)]
   ·rw[setTo_get _ _ _ _ (by omega)]
    by_cases hc:k≤j∧j<k+lenAt B k
    ·rw[if_pos hc,cov_num (by omega) hc.1 hc.2,hb]
     omega
    ·rw[if_neg hc]
     obtain⟨s,g1,g2,g3,g4⟩:=hj
     refine h2 j ⟨s,?_,g2,g3,g4⟩
     rcases (show s<k∨s=k by omega) with h|h
     ·exact h
     ·subst h;exact absurd ⟨g3,g4⟩ hc
   ·rw[setTo_get _ _ _ _ (by omega),if_neg (λhc=>hj ⟨k,by omega,hs,hc.1,hc.2⟩)]
    exact h3 j λ⟨s,g1,g2⟩=>hj ⟨s,by omega,g2⟩
  ·refine⟨l,?_,λj hj=> ?_,λj hj=> ?_⟩
   ·rw[runsTo,if_neg hs];exact h1
   ·obtain⟨s,g1,g2,g3⟩:=hj
    refine h2 j ⟨s,?_,g2,g3⟩
    rcases (show s<k∨s=k by omega) with h|h
    ·exact h
    ·subst h;exact absurd g2 hs
   ·exact h3 j λ⟨s,g1,g2⟩=>hj ⟨s,by omega,g2⟩
theorem nums_noughts (A:List Int) {l:List Int} (h:numsTo A A.length=some l):∀z,numsTo (A++List.replicate z 0) (A.length+z)=some l
 |0=>by simpa using h
 |z+1=>by
  have ih:=nums_noughts A h z
  have hz:(A++List.replicate (z+1) (0:Int)).getD (A.length+z) 0=0:=by
   rw[List.getD_eq_getElem?_getD,List.getElem?_append_right (by omega),List.getElem?_replicate]
   split<;>rfl
  have e:A++List.replicate (z+1) (0:Int)=(A++List.replicate z 0)++[0]:=by rw[List.replicate_succ',List.append_assoc]
  show numsTo _ (A.length+z+1)=_
  rw[numsTo,hz,e,nums_pre _ _ _ (by simp),ih]
  rfl
theorem nums_again {B:List Int} (hB:B.length=13) (hn:∀k,k<13→0≤B.getD k 0∧B.getD k 0<256) (z:Nat):numsTo (runsL B++List.replicate z 0) ((runsL B).length+z)=some B:=by
 obtain⟨l,h1,h2,h3⟩:=nums_runs B 13 (Nat.le_refl _)
 have hl:=numsTo_len h1
 have e:l=B:=z_ext (by omega) λj hj=>by
  by_cases hc:covP B 13 j
  ·exact h2 j hc
  ·rw[h3 j hc]
   by_cases hb:isB (B.getD j 0)
   ·obtain⟨s,g1,g2⟩:=cov_all j (by omega) hb
    exact absurd ⟨s,by omega,g2⟩ hc
   ·have :=hn j (by omega)
    unfold isB at hb
    omega
 subst e
 exact nums_noughts (runsL l) h1 z
theorem run_append_any {P:Program} {w:World} (t T ty:TypeId) (i:TypeInfo) (z:Value) (size bytes:Nat) (ht:P.underlying t=some (.slice T)) (hi:P.info? T=some i) (hz:i.zero=some z) (hsz:i.size=size) (hby:i.bytes=bytes) (hzs:z.cells.size=size) (hpos:0<size)
  (base n:Nat) (v:Value) (xs:List Value) (hown:w.ownsRow base T size v n xs) (a:Option Addr) (m c:Nat) (ys:List Value) (hl:ys.length=m*size) (hc:m≠0→∃ad,a=some ad∧∀j u,ys[j]? =some u→w.cell? (ad.add j)=some u) (h1:∀u∈ys,u.oneCell'=true)
  (hlen:n+m≤maxLen) (hbytes:(n+m)*bytes≤140737488355328) (hbase:base≤w.heap.size):
  ∃v' w',(Builtin.append_ #[t,t] ty #[v,.slice a m c]).run P w= .ok v' w'∧w'.ownsRow base T size v' (n+m) (xs++ys)∧w.grownBy w' v.ownBlock:=by
 cases a with
 |none=>
  have h0:m=0:=by
   rcases Nat.eq_zero_or_pos m with h|h
   ·exact h
   ·obtain⟨ad,e,-⟩:=hc (by omega);cases e
  subst h0
  have hys:ys=[]:=List.eq_nil_of_length_eq_zero (by rw[hl];simp)
  subst hys
  refine⟨v,w,?_,by simpa using hown,⟨rfl,rfl,rfl,Nat.le_refl _,λ_ _ _=>rfl⟩⟩
  obtain⟨-,h5⟩:=hown
  rcases h5 with ⟨rfl,rfl⟩|⟨g',cap',cur,rfl,hg,hh,q2,q3,q4,q5⟩
  ·simp[Builtin.append_,run_underlying ht,sizeOf,typeInfo,hi,Builtin.lenOf,Builtin.firstCells]
  ·simp[Builtin.append_,run_underlying ht,sizeOf,typeInfo,hi,Builtin.lenOf,Builtin.firstCells,q2,storeCells]
 |some ad=>
  have hcell:∀j u,ys[j]? =some u→w.cell? (ad.add j)=some u:=by
   intro j u hu
   have hj:j<ys.length:=(List.getElem?_eq_some_iff.1 hu).1
   have hm:m≠0:=by
    intro e
    rw[hl,e] at hj
    simp at hj
   obtain⟨ad',e,hc'⟩:=hc hm
   cases e
   exact hc' j u hu
  obtain⟨v',w',hr,ho,hg,-⟩:=run_append_own (P:=P) w base t ty T i z size bytes ht hi hz hsz hby hzs hpos v n xs hown ad m c ys hl hcell h1 hlen hbytes hbase
  exact⟨v',w',hr,ho,hg⟩
theorem wpList_append_run {P:Program} {w:World} {ops:Array Oper} {rest:List Oper} {o:Oper} {a:Act} {Q:Exit→Act→World→Prop} (hgd:o.guard=none) (d x:Operand) (t t':TypeId)
  (ho:o.op= .call { callee:= .builtin .append,args:= #[d,x],argTypes:= #[t,t'] }) (v u:Value) (hd:a.eval d=v) (hx:a.eval x=u) {v':Value} {w':World}
  (hr:(Builtin.append_ #[t,t'] o.type #[v,u]).run P w= .ok v' w') (h:wpList P ops Q rest (a.put o.dst v') w'):wpList P ops Q (o::rest) a w:=
 wpList_plain hgd λ_ hK=>by
  unfold Oper.wp execOp
  simp only[ho,resolve,invoke,builtin,Sem.run_bind,Sem.run_pure,Result.andThen_ok,List.map_toArray,List.map_cons,List.map_nil,hd,hx,hr]
  exact hK _ _ h
theorem run_append_nought {P:Program} (w:World) (t tn e:TypeId) (i:TypeInfo) (z:Value) (kq kn:IntKind) (ht:P.underlying t=some (.slice e)) (htn:P.underlying tn=some (.int kn)) (hi:P.info? e=some i) (hz:i.zero=some z) (hsz:i.size=1) (hzc:z.cells.size=1)
  (k:Nat) (h0:0<k) (hk:k≤1000) (hby:i.bytes=8):
  ∃c w',(∀ty,(Builtin.append_ #[t,tn] ty #[.slice none 0 0,.int kq k]).run P w= .ok (.slice (some ⟨w.heap.size,0,none⟩) k c) w')∧k≤c∧w'.ownsRow w.heap.size e 1 (.slice (some ⟨w.heap.size,0,none⟩) 0 c) 0 []∧Keeps [] w w':=by
 have hfc:(Builtin.firstCells i.size 0 (.slice none 0 0)).run P w.drew= .ok ([]:List Value).toArray w.drew:=by simp[Builtin.firstCells]
 have hnc:Builtin.nextslicecap (0+k) 0≤4*1000+64:=by
  unfold Builtin.nextslicecap
  split<;>omega
 have h:=λty=>Lib.run_append_grow_zeros w t tn ty e i z kq kn ht htn hi hz none 0 0 [] hfc k h0 (by omega) (by omega) (by omega) (by rw[hby];omega) (by rw[hby];omega)
 have hge:=grownCap_ge w (0+k) 0 e
 have hle:=grownCap_le_maxLen w (0+k) 0 e (by unfold maxLen;omega)
 rw[Nat.zero_add] at hge hle
 simp only[Nat.zero_add] at h
 refine⟨_,_,h,hge,⟨rfl,.inr ⟨w.heap.size,grownCap w k 0 e,_,rfl,Nat.le_refl _,Blk.new w.drew _ _,Nat.zero_le _,hle,?_,by simp⟩⟩,((Keeps.refl [] w).drew).alloc _⟩
 simp[size_zeroCells',hzc]
 omega
end Go.Proofs.YtphojondgfjmgaaGreatDoor
