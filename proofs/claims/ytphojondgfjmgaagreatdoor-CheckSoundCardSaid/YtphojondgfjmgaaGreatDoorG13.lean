/-
  Layer 8 (inode): what a format lays at a place; Free; Give. Layer 8 (inode): Get. Layer 8 (inode): Put. Layer 8 (inode): a file's blocks behind its own (with), Drop, All. Layer 8 (inode): New. Layer 6, the reference: Need. Layer 2 (pack): the reference's Word and Byte.
-/
import Derived.Test.YtphojondgfjmgaaGreatDoorG12
import Derived.Test.YtphojondgfjmgaaGreatDoorG01
import Derived.Test.YtphojondgfjmgaaGreatDoorG05
import Derived.Test.YtphojondgfjmgaaGreatDoorG10
import Derived.Test.YtphojondgfjmgaaGreatDoorG04
import Derived.Test.YtphojondgfjmgaaGreatDoorG07
namespace Go.Proofs.YtphojondgfjmgaaGreatDoor
open Go.RowKit
set_option maxHeartbeats 2000000 in
theorem free_at {w:World} {b gp:Nat} {B:List Int} {ps:List (Int×Int)} (h:ShAt w b gp B ps) (i:Int):
  Calls Tryz.prog 24 #[.pointer (some ⟨b,0,none⟩),.int .i64 i] w λe w'=>e= .returned (.bool (decide ((0≤i∧i<32)∧FreeP (putAll B ps) i)))∧Keeps [] w w':=by
 have HI:=Lib.hid (isInode_at i)
 have HT:=Lib.hid (txInode_at i)
 by_cases hi:0≤i∧i<32
 ·rw[decide_eq_true hi] at HI
  have HR:=Lib.hid (rowAt_at h (824+8*i.toNat) (by omega))
  have hin:inodeN i=((824+8*i.toNat:Nat):Int):=by rw[inodeN,if_neg (by omega)];omega
  have hzv:=zero_r8
  have hq:=eq_r8 (rowL_len (putAll B ps) (824+8*i.toNat)) (List.length_replicate (n:=8) (a:=(0:Int)))
  have hg:=guard_r8
  have HD:Hid (decide (rowL (putAll B ps) (824+8*i.toNat)=List.replicate 8 0)=decide ((0≤i∧i<32)∧FreeP (putAll B ps) i)):=by
   apply decide_eq_decide.2
   exact⟨λh=>⟨hi,h⟩,λh=>h.2⟩
  rw[hin] at HT
  clear h hi hin
  generalize ((824+8*i.toNat:Nat):Int)=p at *
  generalize decide (rowL (putAll B ps) (824+8*i.toNat)=List.replicate 8 0)=q at *
  generalize (u64s (rowL (putAll B ps) (824+8*i.toNat))).toArray=Z at *
  generalize (u64s (List.replicate 8 0)).toArray=Z8 at *
  go_enter Tryz.func24,Tryz.ntmps24
  go_wp2_with fail
  refine(HI.out _).mono ?_;rintro e w' ⟨rfl,rfl⟩
  go_wp2_with fail
  refine(HT.out _).mono ?_;rintro e w' ⟨rfl,rfl⟩
  go_wp2_with fail
  refine HR.out.mono ?_;rintro e w' ⟨rfl,hk⟩
  have HK:=Lib.hid hk
  clear hk
  go_wp2_with fail
  go_ret
  refine⟨?_,HK.out⟩
  show Ending.returned (.bool q)=_
  rw[HD.out]
 ·rw[decide_eq_false hi] at HI
  have HD:Hid (decide ((0≤i∧i<32)∧FreeP (putAll B ps) i)=false):=decide_eq_false λh=>hi h.1
  clear h hi HT
  go_enter Tryz.func24,Tryz.ntmps24
  go_wp2_with fail
  refine(HI.out _).mono ?_;rintro e w' ⟨rfl,rfl⟩
  go_wp2_with fail
  go_ret
  refine⟨?_,Keeps.refl _ _⟩
  rw[HD.out]
  rfl
theorem LayPost.mono {w w1:World} {b gp:Nat} {B:List Int} {ps:List (Int×Int)} {i:Int} {n:Ino} {e:Ending} {w':World} (hk:Keeps [] w w1) (h:LayPost w1 b gp B ps i n e w'):LayPost w b gp B ps i n e w':=by
 obtain⟨r,qs,gp',h1,h2,h3,h4,h5,h6⟩:=h
 have hz:=hk.size
 refine⟨r,qs,gp',h1,by omega,h3,(hk.mono (by simp)).trans h4 λx hx=> .inl hx,h5,h6⟩
theorem Lay2Post.mono {w w1:World} {b gp:Nat} {B:List Int} {ps:List (Int×Int)} {i:Int} {n:Ino} {e:Ending} {w':World} (hk:Keeps [] w w1) (h:Lay2Post w1 b gp B ps i n e w'):Lay2Post w b gp B ps i n e w':=by
 obtain⟨r,qs,gp',h1,h2,h3,h4,h5,h6⟩:=h
 have hz:=hk.size
 refine⟨r,qs,gp',h1,by omega,h3,(hk.mono (by simp)).trans h4 λx hx=> .inl hx,h5,h6⟩
def boxW (w:World) (b:Nat) (i:Int) (Z:Array Value):World:=(w.alloc (.cells #[.pointer (some ⟨b,0,none⟩),.int .i64 i] 79)).alloc (.cells Z 37)
theorem boxW_facts (w:World) (b:Nat) (i:Int) (Z:Array Value):Keeps [] w (boxW w b i Z)∧Blk (boxW w b i Z) (w.heap.size+1) Z 37 :=by
 refine⟨((Keeps.refl _ _).alloc _).alloc _,?_⟩
 have :=Blk.new (w.alloc (.cells #[.pointer (some ⟨b,0,none⟩),.int .i64 i] 79)) Z 37
 rwa[show(w.alloc (.cells #[.pointer (some ⟨b,0,none⟩),.int .i64 i] 79)).heap.size=w.heap.size+1 by simp] at this
set_option maxHeartbeats 1000000 in
theorem layOld_at {w:World} {b gp:Nat} {B:List Int} {ps:List (Int×Int)} (h:ShAt w b gp B ps) (h64:In64 (putAll B ps)) (hT:TabAt w) (hgp:gp<w.heap.size) (hps:ps.length≤800000) (i:Int) (n:Ino) (v:Value) (g:Nat) (hB:n.B.length=13) (hE:EReads w v g n.E)
  (hN:∀k,k<n.E.length→(enm n.E k).size≤9223372036854775807) (hgg:n.E.length≠0→g≠b∧g≠gp):
  Calls Tryz.prog 44 #[placeV b i,.agg (inoC n v)] w (LayPost w b gp B ps i n):=by
 obtain⟨hk0,hb0⟩:=boxW_facts w b i (inoC n v)
 have hz:=hk0.size
 have HC:=Lib.hid ((lay_any (h.keep hk0 (by simp) (by simp)) h64 (hT.keep hk0) (by omega) hps i n v g hB (hE.keep hk0 (by simp)) hN hgg).mono λe w'=>LayPost.mono hk0)
 have HL:=Lib.hid (load_ino hb0 hB)
 clear h h64 hk0 hb0 hE hT hN hz
 unfold placeV
 generalize inoC n v=Z at *
 generalize hpw:boxW w b i Z=W0 at *
 have hw0:(w.alloc (.cells #[.pointer (some ⟨b,0,none⟩),.int .i64 i] 79)).alloc (.cells Z 37)=W0:=hpw
 have HW0:=Lib.hid hw0
 have c1:W0.cell? ⟨w.heap.size,0,none⟩=some (.pointer (some ⟨b,0,none⟩)):=by rw[←hw0];simp
 have c2:W0.cell? ⟨w.heap.size,1,none⟩=some (.int .i64 i):=by rw[←hw0];simp
 clear hpw hw0
 go_enter Tryz.func44,Tryz.ntmps44
 go_wp2_with((with_reducible show wpList _ _ _ (⟨_,.load 37 (.tmp 3),_,_,_,_⟩::_) _ _);rw[HW0.out];refine wpList_load_any rfl 37 (.tmp 3) rfl _ rfl _ HL.out ?_)
 refine HC.out.mono ?_;rintro e w1 hp
 have HP:=Lib.hid hp
 obtain⟨r,qs,gp',rfl,-⟩:=hp
 clear HC HL HW0 c1 c2
 go_wp2_with fail
 go_ret
 exact HP.out
set_option maxHeartbeats 1000000 in
theorem layNew_at {w:World} {b gp:Nat} {B:List Int} {ps:List (Int×Int)} (h:ShAt w b gp B ps) (h64:In64 (putAll B ps)) (hT:TabAt w) (hgp:gp<w.heap.size) (hps:ps.length≤800000) (i:Int) (n:Ino) (v:Value) (g:Nat) (hB:n.B.length=13) (hE:EReads w v g n.E)
  (hN:∀k,k<n.E.length→(enm n.E k).size≤9223372036854775807) (hgg:n.E.length≠0→g≠b∧g≠gp):
  Calls Tryz.prog 46 #[placeV b i,.agg (inoC n v)] w (Lay2Post w b gp B ps i n):=by
 obtain⟨hk0,hb0⟩:=boxW_facts w b i (inoC n v)
 have hz:=hk0.size
 have HC:=Lib.hid ((lay2_any (h.keep hk0 (by simp) (by simp)) h64 (hT.keep hk0) (by omega) hps i n v g hB (hE.keep hk0 (by simp)) hN hgg).mono λe w'=>Lay2Post.mono hk0)
 have HL:=Lib.hid (load_ino hb0 hB)
 clear h h64 hk0 hb0 hE hT hN hz
 unfold placeV
 generalize inoC n v=Z at *
 generalize hpw:boxW w b i Z=W0 at *
 have hw0:(w.alloc (.cells #[.pointer (some ⟨b,0,none⟩),.int .i64 i] 79)).alloc (.cells Z 37)=W0:=hpw
 have HW0:=Lib.hid hw0
 have c1:W0.cell? ⟨w.heap.size,0,none⟩=some (.pointer (some ⟨b,0,none⟩)):=by rw[←hw0];simp
 have c2:W0.cell? ⟨w.heap.size,1,none⟩=some (.int .i64 i):=by rw[←hw0];simp
 clear hpw hw0
 go_enter Tryz.func46,Tryz.ntmps46
 go_wp2_with((with_reducible show wpList _ _ _ (⟨_,.load 37 (.tmp 3),_,_,_,_⟩::_) _ _);rw[HW0.out];refine wpList_load_any rfl 37 (.tmp 3) rfl _ rfl _ HL.out ?_)
 refine HC.out.mono ?_;rintro e w1 hp
 have HP:=Lib.hid hp
 obtain⟨r,qs,gp',rfl,-⟩:=hp
 clear HC HL HW0 c1 c2
 go_wp2_with fail
 go_ret
 exact HP.out
theorem givePs_succ (X:List Int) (l:List Nat) (k:Nat) (hk:k<l.length):givePs X (l.take (k+1))=givePs X (l.take k)++setPs (putAll X (givePs X (l.take k))) (l.getD k 0) false:=by
 rw[List.take_succ_eq_append_getElem hk,givePs_snoc]
 simp[List.getD_eq_getElem?_getD,hk]
set_option maxRecDepth 100000 in
set_option maxHeartbeats 2000000 in
theorem give_at {w:World} {b gp:Nat} {B:List Int} {ps:List (Int×Int)} (h:ShAt w b gp B ps) (h64:In64 (putAll B ps)) (_hgp:gp<w.heap.size) (hps:ps.length≤900000) {v:Value} {g:Nat} {l:List Nat} (hR:Reads w v g (i64s l)) (hl:l.length≤1000) (hg:l≠[]→g≠b∧g≠gp):
  Calls Tryz.prog 41 #[.pointer (some ⟨b,0,none⟩),v] w (PutPost w b gp B (ps++givePs (putAll B ps) l)):=by
 have hX:(putAll B ps).length=3128:=h.raw.lx
 have HLX:=Lib.hid hX
 have hbl:=h.raw.lt
 have HS:=Lib.hid h
 have H64:=Lib.hid h64
 have HPS:=Lib.hid hps
 have HR:=Lib.hid hR
 have HG:=Lib.hid hg
 obtain⟨a,cap,rfl,q1,q2,-⟩:=hR
 obtain⟨n,hn⟩:∃n,l.length=n:=⟨_,rfl⟩
 have HN:=Lib.hid hn
 rw[i64s_len,hn] at HR q1 ⊢
 rw[hn] at hl
 clear h h64 hps hg hX hn
 unfold maxLen at q2
 go_enter Tryz.func41,Tryz.ntmps41
 go_wp2_with fail
 go_loopg [8] n (λgh s8 wx=>∃k:Nat,k+gh=n∧s8= .int .i64 (k:Int)∧Hid (Onto w b gp B (ps++givePs (putAll B ps) (l.take k)) wx))
 case atStart=>exact⟨0,by omega,rfl,by show Onto _ _ _ _ _ _;rw[List.take_zero,show givePs (putAll B ps) []=[] from rfl,List.append_nil];exact Onto.refl HS.out⟩
 case round=>
  obtain⟨k,hk,rfl,HQ⟩:=hrel
  cases gk with
  |zero=>
   obtain rfl:k=n:=by omega
   have hlt:¬(k:Int)<(k:Int):=by omega
   clear hk
   go_wp2_with fail
   go_end0
   have :=HQ.out
   rw[List.take_of_length_le (by rw[HN.out];omega)] at this
   exact this.post
  |succ gg=>
   have hkn:k<n:=by omega
   have hlt:(k:Int)<(n:Int):=by omega
   have hk0:(0:Int)≤(k:Int):=by omega
   have hkl:k<l.length:=by rw[HN.out];exact hkn
   have hne:l≠[]:=by intro e;rw[e] at hkl;simp at hkl
   obtain⟨gp1,p1,p2,p3⟩:=HQ.out
   have hgne:=HG.out hne
   have hr1:=HR.out.keep p3 (by simp;omega)
   have hst:=givePs_state (l.take k) (putAll B ps) H64.out HLX.out
   have hpl:=givePs_len (l.take k) (putAll B ps)
   have hll:(l.take k).length≤1000:=by rw[List.length_take];omega
   have HTS:=Lib.hid (givePs_succ (putAll B ps) l k hkl)
   obtain⟨a',cap',hv',r1,r2,r3⟩:=hr1
   cases hv'
   obtain⟨hg3,off,rfl,r4⟩:=r3 (by intro e;have :=congrArg List.length e;rw[i64s_len,List.length_nil] at this;omega)
   have hcell:=(r4 k (by rw[i64s_len];exact hkl)).trans (i64s_get hkl)
   generalize l.getD k 0=c at *
   have HSET:Hid (Calls Tryz.prog 20 #[.pointer (some ⟨b,0,none⟩),.int .i64 (c:Int),.bool false] wr (PutPost wr b gp1 B ((ps++givePs (putAll B ps) (l.take k))++setPs (putAll (putAll B ps) (givePs (putAll B ps) (l.take k))) c false))):=by
    have :=paSet_at p2 (by rw[putAll_append];exact hst.1) (by rw[List.length_append];have :=HPS.out;omega) (c:Int) false
    rw[putAll_append,Int.toNat_natCast] at this
    exact this
   have HP1:=Lib.hid p1
   have HP3:=Lib.hid p3
   clear p1 p2 p3 hst hpl hll r1 r2 r3 r4 hgne hne
   go_wp2_with fail
   refine HSET.out.mono ?_;rintro e w2 ⟨rfl,ho⟩
   have HO:Hid (Onto w b gp B (ps++givePs (putAll B ps) (l.take (k+1))) w2):=by
    show Onto _ _ _ _ _ _
    rw[HTS.out,←List.append_assoc]
    exact Onto.trans HP1.out HP3.out ho
   clear ho HSET hcell
   go_wp2_with fail
   go_roundg gg
   case measure=>omega
   case rel=>exact⟨k+1,by omega,by go_num,HO.out⟩
def GetR (X:List Int) (i:Int) (n:Ino) (own:List Nat) (r:Int):Prop:=
 (r=1∧¬(0≤i∧i<32)∧n=inoZ∧own=[])∨(r=2∧(0≤i∧i<32)∧FreeP X i∧n=inoZ∧own=[])∨
  (r=10∧(0≤i∧i<32)∧¬FreeP X i∧(∀n' own',¬StoreP X i n' own')∧n=inoZ∧own=[])∨(r=0∧StoreP X i n own)
def GetPost (w:World) (X:List Int) (i:Int) (e:Ending) (w':World):Prop:=
 ∃n v g own va ga r,e= .returned (.tuple #[.agg (inoC n v),va,.int .i64 r])∧n.B.length=13∧EReads w' v g n.E∧w.heap.size≤g∧RowI w' va ga own∧w.heap.size≤ga∧Keeps [] w w'∧GetR X i n own r
theorem get_bad {w wz:World} {X:List Int} {i r:Int} (hk:Keeps [] (w.alloc (.cells (inoC inoZ (.slice none 0 0)) 37)) wz) (h:GetR X i inoZ [] r):
  ∃w',(storeVar 37 ⟨w.heap.size,0,none⟩ (.agg (inoC inoZ (.slice none 0 0)))).run Tryz.prog wz= .ok () w'∧(loadVar 37 ⟨w.heap.size,0,none⟩).run Tryz.prog w'= .ok (.agg (inoC inoZ (.slice none 0 0))) w'∧GetPost w X i (.returned (.tuple #[.agg (inoC inoZ (.slice none 0 0)),.slice none 0 0,.int .i64 r])) w':=by
 have hb4:=Blk.new w (inoC inoZ (.slice none 0 0)) 37
 obtain⟨w',q1,q2,q3⟩:=store_whole (P:= Tryz.prog) (ty:= 37) (cs:=inoL inoZ (.slice none 0 0)) size_ino (hb4.keep hk (by simp)) rfl (inoL_one rfl)
 exact⟨w',q1,load_ino q2 rfl,inoZ,_,w.heap.size,[],_,w.heap.size,r,rfl,rfl,EReads.nil _ _,Nat.le_refl _,RowI.nil _ _,Nat.le_refl _,(((Keeps.refl [] w).alloc _).trans' hk).trans q3 (by intro x hx;rw[List.mem_singleton] at hx;omega),h⟩
def ReadAny (w:World) (X:List Int) (i f:Int) (e:Ending) (w':World):Prop:=
 ∃n v g own va ga ok,e= .returned (.tuple #[.agg (inoC n v),va,.bool ok])∧n.B.length=13∧EReads w' v g n.E∧w.heap.size≤g∧RowI w' va ga own∧w.heap.size≤ga∧Keeps [] w w'∧
  (ok=true→StoreP X i n own)∧(ok=false→n=inoZ∧own=[]∧∀n' own',StoreP X i n' own'→n'.F≠f)
theorem read_any_old {w:World} {X:List Int} {i:Int} {e:Ending} {w':World} (h64:In64 X) (h:ReadPost w X i e w'):ReadAny w X i 1 e w':=by
 obtain⟨n,v,g,own,va,ga,ok,h1,h2,h3,h4,h5,h6,h7,h8,h9⟩:=h
 refine⟨n,v,g,own,va,ga,ok,h1,h2,h3,h4,h5,h6,h9,λhk=> ?_,λhk=> ?_⟩
 ·obtain⟨a1,a2,a3,a4⟩:=h7 hk
  rw[a3,a4]
  exact store_one h64 a1 a2
 ·obtain⟨a1,a2,a3⟩:=h8 hk
  exact⟨a2,a3,λn' own' hs hf=>a1 ⟨hs.rng,(store_one_of hs hf).1⟩⟩
theorem read_any_new {w:World} {X:List Int} {i:Int} {e:Ending} {w':World} (h:Read2Post w X i e w'):ReadAny w X i 2 e w':=by
 obtain⟨n,v,g,own,va,ga,ok,h1,h2,h3,h4,h5,h6,h9,h7,h8⟩:=h
 refine⟨n,v,g,own,va,ga,ok,h1,h2,h3,h4,h5,h6,h9,λhk=> ?_,λhk=> ?_⟩
 ·obtain⟨a1,-,a3,-,-⟩:=h7 hk
  exact store_two h2 a3 a1
 ·obtain⟨a2,a3,a1⟩:=h8 hk
  exact⟨a2,a3,λn' own' hs hf=>a1 n' own' (store_two_of hs hf)⟩
theorem store_own {w w1:World} {n:Ino} {v va:Value} {g ga:Nat} {own:List Nat} (hk:Keeps [] w w1) (hB:n.B.length=13) (hE:EReads w1 v g n.E) (hO:RowI w1 va ga own) (hga:w.heap.size≤ga):
  ∃w2,(storeVar 37 ⟨w1.heap.size,0,none⟩ (.agg (inoC n v))).run Tryz.prog (w1.alloc (.cells (inoC inoZ (.slice none 0 0)) 37))= .ok () w2∧(loadVar 37 ⟨w1.heap.size,0,none⟩).run Tryz.prog w2= .ok (.agg (inoC n v)) w2∧
   EReads w2 v g n.E∧(∃ga',RowI w2 va ga' own∧w.heap.size≤ga')∧Keeps [] w w2∧Blk w2 w1.heap.size (inoC n v) 37 :=by
 have hb:=Blk.new w1 (inoC inoZ (.slice none 0 0)) 37
 obtain⟨w2,q1,q2,q3⟩:=store_ino (n:=n) (v:=v) hb rfl hB (reads_one hE)
 have hk12:Keeps [w1.heap.size] w1 w2:=((Keeps.refl [w1.heap.size] w1).alloc _).trans' q3
 refine⟨w2,q1,load_ino q2 hB,hE.keep hk12 (λh0=> ?_),?_,(hk.alloc _).trans q3 (by intro x hx;rw[List.mem_singleton] at hx;have :=hk.size;omega),q2⟩
 ·exact hE.apart (l:=[w1.heap.size]) (λx hx=>by rw[List.mem_singleton] at hx;omega) h0
 ·exact hO.away hga hk12 λx hx=>by rw[List.mem_singleton] at hx;omega
theorem field_tag (r:List Int) (w:World):(Instr.field 37 (.agg (inoC (tagN r) (.slice none 0 0))) 0).run Tryz.prog w= .ok (.int .i64 (tagN r).F) w:=by kernel_rfl
set_option maxRecDepth 100000 in
set_option maxHeartbeats 4000000 in
theorem get_at {w:World} {b gp:Nat} {B:List Int} {ps:List (Int×Int)} (h:ShAt w b gp B ps) (h64:In64 (putAll B ps)) (i:Int):
  Calls Tryz.prog 10 #[.pointer (some ⟨b,0,none⟩),.int .i64 i] w (GetPost w (putAll B ps) i):=by
 have hk0:Keeps [] w (w.alloc (.cells (inoC inoZ (.slice none 0 0)) 37)):=(Keeps.refl _ _).alloc _
 have HI:=Lib.hid (isInode_at i)
 have HT:=Lib.hid (txInode_at i)
 have HSH:=Lib.hid h
 have H64:=Lib.hid h64
 have HBAD:Hid (∀(wz:World) (r:Int),Keeps [] (w.alloc (.cells (inoC inoZ (.slice none 0 0)) 37)) wz→GetR (putAll B ps) i inoZ [] r→_):=λwz r hk hr=>get_bad (w:=w) hk hr
 have HFR:=Lib.hid (free_at (h.keep hk0 (by simp) (by simp)) i)
 have hzi:=zero_ino
 have HB4:=Lib.hid (Blk.new w (inoC inoZ (.slice none 0 0)) 37)
 obtain⟨W0,hW0⟩:∃W0,w.alloc (.cells (inoC inoZ (.slice none 0 0)) 37)=W0:=⟨_,rfl⟩
 rw[hW0] at HBAD HFR HB4 hk0
 have HW0:=Lib.hid hW0
 have HK0:=Lib.hid hk0
 clear h h64 hW0 hk0
 generalize hXX:putAll B ps=X at *
 have HXX:=Lib.hid hXX
 clear hXX
 generalize hz0:inoC inoZ (.slice none 0 0)=Z0 at *
 have HZ0:=Lib.hid hz0
 clear hz0
 by_cases hi:0≤i∧i<32
 ·rw[decide_eq_true hi] at HI
  by_cases hf:FreeP X i
  ·obtain⟨w1,hk1⟩:∃w1,w1=W0:=⟨_,rfl⟩
   rw[decide_eq_true (show(0≤i∧i<32)∧FreeP X i from ⟨hi,hf⟩)] at HFR
   have HBB:Hid (∀wz,Keeps [] W0 wz→_):=λwz hk=>HBAD.out wz 2 hk (.inr (.inl ⟨rfl,hi,hf,rfl,rfl⟩))
   clear hi hf HBAD HB4 HT hk1
   go_enter Tryz.func10,Tryz.ntmps10
   go_wp2_with fail
   rw[HW0.out]
   refine(HI.out _).mono ?_;rintro e w' ⟨rfl,rfl⟩
   go_wp2_with fail
   refine HFR.out.mono ?_;rintro e w2 ⟨rfl,hk2⟩
   obtain⟨w3,q1,q2,q3⟩:=HBB.out w2 hk2
   have HS:=Lib.hid q1
   have HL:=Lib.hid q2
   have HP:=Lib.hid q3
   clear q1 q2 q3 hk2 HBB HFR
   go_wp2_with((with_reducible show wpList _ _ _ (⟨_,.store 37 (.tmp 4) (.tmp 18),_,_,_,_⟩::_) _ _);refine wpList_store_any rfl 37 (.tmp 4) (.tmp 18) rfl _ rfl _ rfl _ HS.out ?_)
   exact bodyPost_ret (results_cell3 Tryz.results10 rfl HL.out rfl rfl) rfl HP.out
  ·rw[decide_eq_false (show ¬((0≤i∧i<32)∧FreeP X i) from λh=>hf h.2)] at HFR
   have hin:inodeN i=((824+8*i.toNat:Nat):Int):=by rw[inodeN,if_neg (by omega)];omega
   rw[hin] at HT
   have HROW:Hid (∀wx,Keeps [] W0 wx→Calls Tryz.prog 27 #[.pointer (some ⟨b,0,none⟩),.int .i64 ((824+8*i.toNat:Nat):Int)] wx λe w'=>e= .returned (.agg (u64s (inoAtX X i)).toArray)∧Keeps [] wx w'):=λwx hk=>by
    have :=rowAt_at (HSH.out.keep (HK0.out.trans' hk) (by simp) (by simp)) (824+8*i.toNat) (by omega)
    rw[HXX.out] at this
    exact this
   have hr8:(inoAtX X i).length=8:=rowL_len _ _
   have hr64:∀k,0≤(inoAtX X i).getD k 0∧(inoAtX X i).getD k 0<18446744073709551616:=W64.row H64.out _
   have HHD:=Lib.hid (λwx=>tagged_at (inoAtX X i) hr8 (hr64 0) (hr64 1) wx)
   have hF:(tagN (inoAtX X i)).F=(inoAtX X i).getD 0 0%256:=rfl
   have hfld:=field_tag (inoAtX X i)
   have HFT:Hid (∀n own,StoreP X i n own→(tagN (inoAtX X i)).F=n.F):=λn own h=>h.format
   have HFO:=Lib.hid (λwx=>formatOf_at (tagN (inoAtX X i)).F wx)
   have HO:Hid (∀wx,Keeps [] W0 wx→Calls Tryz.prog 43 #[placeV b i] wx (ReadAny wx X i 1)):=λwx hk=>by
    have :=readOld_at (HSH.out.keep (HK0.out.trans' hk) (by simp) (by simp)) (by rw[HXX.out];exact H64.out) i
    rw[HXX.out] at this
    exact this.mono λe w'=>read_any_old H64.out
   have HN:Hid (∀wx,Keeps [] W0 wx→Calls Tryz.prog 45 #[placeV b i] wx (ReadAny wx X i 2)):=λwx hk=>by
    have :=readNew_at (HSH.out.keep (HK0.out.trans' hk) (by simp) (by simp)) (by rw[HXX.out];exact H64.out) i
    rw[HXX.out] at this
    exact this.mono λe w'=>read_any_new
   have HZS:Hid (Z0.size=18):=by rw[←HZ0.out];rfl
   have HNF:=Lib.hid hf
   have HII:=Lib.hid hi
   clear hF hr8 hr64 hin hi hf
   generalize hpi:((824+8*i.toNat:Nat):Int)=pi at *
   clear hpi
   generalize hrr:(u64s (inoAtX X i)).toArray=R8 at *
   clear hrr
   generalize hzt:inoC (tagN (inoAtX X i)) (.slice none 0 0)=ZT at *
   clear hzt
   generalize (tagN (inoAtX X i)).F=f at *
   go_enter Tryz.func10,Tryz.ntmps10
   go_wp2_with fail
   rw[HW0.out]
   refine(HI.out _).mono ?_;rintro e w' ⟨rfl,rfl⟩
   go_wp2_with fail
   refine HFR.out.mono ?_;rintro e w2 ⟨rfl,hk2⟩
   have HK2:=Lib.hid hk2
   clear hk2
   go_wp2_with fail
   refine(HT.out _).mono ?_;rintro e w' ⟨rfl,rfl⟩
   go_wp2_with fail
   refine(HROW.out _ HK2.out).mono ?_;rintro e w3 ⟨rfl,hk3⟩
   have HK3:=Lib.hid (HK2.out.trans' hk3)
   clear hk3 HK2
   go_wp2_with fail
   refine(HHD.out _).mono ?_;rintro e w4 ⟨rfl,hk4⟩
   have HK4:=Lib.hid (HK3.out.trans' hk4)
   clear hk4 HK3
   go_wp2_with fail
   refine(HFO.out _).mono ?_;rintro e w5 ⟨hk5,fa,fb,ha1,hb1,rfl,h1,h2⟩
   have HK5:=Lib.hid (HK4.out.trans' hk5)
   have hbf:=Blk.new w5 #[.nilFunc,.nilFunc] 70
   obtain⟨w6,q1,q2,q3⟩:=store_fm hbf ha1 hb1
   have HS6:=Lib.hid q1
   have HK6:Hid (Keeps [] W0 w6):=(HK5.out.alloc _).trans q3 (by intro x hx;rw[List.mem_singleton] at hx;have :=HK5.out.size;omega)
   have HC6:Hid (w6.cell? ⟨w5.heap.size,0,none⟩=some fa):=by show _=_;rw[q2.cell];rfl
   clear hk5 HK4 hbf q1 q2 q3
   by_cases hf1:f=1
   ·rw[decide_eq_true (show f=1∨f=2 from .inl hf1)]
    obtain⟨rfl,rfl⟩:=h1 hf1
    have c6:=HC6.out
    clear h1 h2 HC6 ha1 hb1
    go_wp2_with((with_reducible show wpList _ _ _ (⟨_,.store 70 (.tmp 7) (.tmp 27),_,_,_,_⟩::_) _ _);refine wpList_store_any rfl 70 (.tmp 7) (.tmp 27) rfl _ rfl _ rfl _ HS6.out ?_)
    refine(HO.out w6 HK6.out).mono ?_;rintro e w7 ⟨n,v,g,own,va,ga,ok,rfl,hB,hE,hg,hO,hga,hk7,ho1,ho2⟩
    have HK7:=Lib.hid (HK6.out.trans' hk7)
    obtain⟨w8,q1,q2,hE8,⟨ga8,hO8,hga8⟩,hk8,hb8⟩:=store_own HK7.out hB hE hO (by have :=HK6.out.size;omega)
    have hg8:W0.heap.size≤g:=by have :=HK6.out.size;omega
    rw[HZ0.out] at q1
    have HS8:=Lib.hid q1
    have HL8:=Lib.hid q2
    have HK8:=Lib.hid hk8
    have HO1:=Lib.hid ho1
    have HO2:=Lib.hid ho2
    have HE8:=Lib.hid hE8
    have HR8:=Lib.hid hO8
    have HB8:=Lib.hid hB
    have HG8:=Lib.hid hg8
    have HGA8:=Lib.hid hga8
    clear hk7 hE hO hB hg hga q1 q2 hE8 hO8 hk8 hb8 hg8 hga8 ho1 ho2 c6 HS6 HO HN HHD HROW HFO HI HT HFR
    generalize hzn:inoC n v=ZN at *
    have HZN:=Lib.hid hzn
    clear hzn
    cases ok with
    |false=>
     obtain⟨e1,e2,e3⟩:=HO2.out rfl
     obtain⟨w9,p1,p2,p3⟩:=HBAD.out w8 10 HK8.out (.inr (.inr (.inl ⟨rfl,HII.out,HNF.out,λn' own' hs=>e3 n' own' hs ((HFT.out n' own' hs).symm.trans hf1),rfl,rfl⟩)))
     have HS9:=Lib.hid p1
     have HL9:=Lib.hid p2
     have HP9:=Lib.hid p3
     clear e1 e2 e3 p1 p2 p3 HBAD HO1 HO2
     go_wp2_with(first|((with_reducible show wpList _ _ _ (⟨_,.store 37 (.tmp 9) (.tmp 39),_,_,_,_⟩::_) _ _);refine wpList_store_any rfl 37 (.tmp 9) (.tmp 39) rfl _ rfl _ rfl _ HS8.out ?_)|((with_reducible show wpList _ _ _ (⟨_,.store 37 (.tmp 4) (.tmp 44),_,_,_,_⟩::_) _ _);refine wpList_store_any rfl 37 (.tmp 4) (.tmp 44) rfl _ rfl _ rfl _ HS9.out ?_))
     exact bodyPost_ret (results_cell3 Tryz.results10 rfl HL9.out rfl rfl) rfl HP9.out
    |true=>
     obtain⟨w9,p1,p2,p3⟩:=store_ino (n:=n) (v:=v) (HB4.out.keep HK8.out (by simp)) HZS.out HB8.out (reads_one HE8.out)
     have hl9:=load_ino p2 HB8.out
     have hp9:GetPost w X i (.returned (.tuple #[.agg (inoC n v),va,.int .i64 0])) w9:=by
      have hz0:=HK0.out.size
      have hlt:=HB4.out.lt
      refine⟨n,v,g,own,va,ga8,0,rfl,HB8.out,HE8.out.keep p3 (λh0=> ?_),?_,HR8.out.keep p3 ?_,?_,(HK0.out.trans' HK8.out).trans p3 (by intro x hx;rw[List.mem_singleton] at hx;omega),.inr (.inr (.inr ⟨rfl,HO1.out rfl⟩))⟩
      ·have :=HG8.out
       rw[List.mem_singleton]
       omega
      ·have :=HG8.out;omega
      ·have :=HGA8.out
       rw[List.mem_singleton]
       omega
      ·have :=HGA8.out;omega
     rw[HZN.out] at p1 hl9 hp9
     have HS9:=Lib.hid p1
     have HL9:=Lib.hid hl9
     have HP9:=Lib.hid hp9
     clear p1 p2 p3 hl9 hp9 HBAD HO1 HO2
     go_wp2_with(first|((with_reducible show wpList _ _ _ (⟨_,.store 37 (.tmp 9) (.tmp 39),_,_,_,_⟩::_) _ _);refine wpList_store_any rfl 37 (.tmp 9) (.tmp 39) rfl _ rfl _ rfl _ HS8.out ?_)|((with_reducible show wpList _ _ _ (⟨_,.load 37 (.tmp 9),_,_,_,_⟩::_) _ _);refine wpList_load_any rfl 37 (.tmp 9) rfl _ rfl _ HL8.out ?_)|((with_reducible show wpList _ _ _ (⟨_,.store 37 (.tmp 4) (.tmp 45),_,_,_,_⟩::_) _ _);refine wpList_store_any rfl 37 (.tmp 4) (.tmp 45) rfl _ rfl _ rfl _ HS9.out ?_))
     exact bodyPost_ret (results_cell3 Tryz.results10 rfl HL9.out rfl rfl) rfl HP9.out
   ·by_cases hf2:f=2
    ·rw[decide_eq_true (show f=1∨f=2 from .inr hf2)]
     obtain⟨rfl,rfl⟩:=h2 hf2
     have c6:=HC6.out
     clear h1 h2 HC6 ha1 hb1
     go_wp2_with((with_reducible show wpList _ _ _ (⟨_,.store 70 (.tmp 7) (.tmp 27),_,_,_,_⟩::_) _ _);refine wpList_store_any rfl 70 (.tmp 7) (.tmp 27) rfl _ rfl _ rfl _ HS6.out ?_)
     refine(HN.out w6 HK6.out).mono ?_;rintro e w7 ⟨n,v,g,own,va,ga,ok,rfl,hB,hE,hg,hO,hga,hk7,ho1,ho2⟩
     have HK7:=Lib.hid (HK6.out.trans' hk7)
     obtain⟨w8,q1,q2,hE8,⟨ga8,hO8,hga8⟩,hk8,hb8⟩:=store_own HK7.out hB hE hO (by have :=HK6.out.size;omega)
     have hg8:W0.heap.size≤g:=by have :=HK6.out.size;omega
     rw[HZ0.out] at q1
     have HS8:=Lib.hid q1
     have HL8:=Lib.hid q2
     have HK8:=Lib.hid hk8
     have HO1:=Lib.hid ho1
     have HO2:=Lib.hid ho2
     have HE8:=Lib.hid hE8
     have HR8:=Lib.hid hO8
     have HB8:=Lib.hid hB
     have HG8:=Lib.hid hg8
     have HGA8:=Lib.hid hga8
     clear hk7 hE hO hB hg hga q1 q2 hE8 hO8 hk8 hb8 hg8 hga8 ho1 ho2 c6 HS6 HO HN HHD HROW HFO HI HT HFR
     generalize hzn:inoC n v=ZN at *
     have HZN:=Lib.hid hzn
     clear hzn
     cases ok with
     |false=>
      obtain⟨e1,e2,e3⟩:=HO2.out rfl
      obtain⟨w9,p1,p2,p3⟩:=HBAD.out w8 10 HK8.out (.inr (.inr (.inl ⟨rfl,HII.out,HNF.out,λn' own' hs=>e3 n' own' hs ((HFT.out n' own' hs).symm.trans hf2),rfl,rfl⟩)))
      have HS9:=Lib.hid p1
      have HL9:=Lib.hid p2
      have HP9:=Lib.hid p3
      clear e1 e2 e3 p1 p2 p3 HBAD HO1 HO2
      go_wp2_with(first|((with_reducible show wpList _ _ _ (⟨_,.store 37 (.tmp 9) (.tmp 39),_,_,_,_⟩::_) _ _);refine wpList_store_any rfl 37 (.tmp 9) (.tmp 39) rfl _ rfl _ rfl _ HS8.out ?_)|((with_reducible show wpList _ _ _ (⟨_,.store 37 (.tmp 4) (.tmp 44),_,_,_,_⟩::_) _ _);refine wpList_store_any rfl 37 (.tmp 4) (.tmp 44) rfl _ rfl _ rfl _ HS9.out ?_))
      exact bodyPost_ret (results_cell3 Tryz.results10 rfl HL9.out rfl rfl) rfl HP9.out
     |true=>
      obtain⟨w9,p1,p2,p3⟩:=store_ino (n:=n) (v:=v) (HB4.out.keep HK8.out (by simp)) HZS.out HB8.out (reads_one HE8.out)
      have hl9:=load_ino p2 HB8.out
      have hp9:GetPost w X i (.returned (.tuple #[.agg (inoC n v),va,.int .i64 0])) w9:=by
       have hz0:=HK0.out.size
       have hlt:=HB4.out.lt
       refine⟨n,v,g,own,va,ga8,0,rfl,HB8.out,HE8.out.keep p3 (λh0=> ?_),?_,HR8.out.keep p3 ?_,?_,(HK0.out.trans' HK8.out).trans p3 (by intro x hx;rw[List.mem_singleton] at hx;omega),.inr (.inr (.inr ⟨rfl,HO1.out rfl⟩))⟩
       ·have :=HG8.out
        rw[List.mem_singleton]
        omega
       ·have :=HG8.out;omega
       ·have :=HGA8.out
        rw[List.mem_singleton]
        omega
       ·have :=HGA8.out;omega
      rw[HZN.out] at p1 hl9 hp9
      have HS9:=Lib.hid p1
      have HL9:=Lib.hid hl9
      have HP9:=Lib.hid hp9
      clear p1 p2 p3 hl9 hp9 HBAD HO1 HO2
      go_wp2_with(first|((with_reducible show wpList _ _ _ (⟨_,.store 37 (.tmp 9) (.tmp 39),_,_,_,_⟩::_) _ _);refine wpList_store_any rfl 37 (.tmp 9) (.tmp 39) rfl _ rfl _ rfl _ HS8.out ?_)|((with_reducible show wpList _ _ _ (⟨_,.load 37 (.tmp 9),_,_,_,_⟩::_) _ _);refine wpList_load_any rfl 37 (.tmp 9) rfl _ rfl _ HL8.out ?_)|((with_reducible show wpList _ _ _ (⟨_,.store 37 (.tmp 4) (.tmp 45),_,_,_,_⟩::_) _ _);refine wpList_store_any rfl 37 (.tmp 4) (.tmp 45) rfl _ rfl _ rfl _ HS9.out ?_))
      exact bodyPost_ret (results_cell3 Tryz.results10 rfl HL9.out rfl rfl) rfl HP9.out
    ·rw[decide_eq_false (show ¬(f=1∨f=2) by omega)]
     have HBB:Hid (GetR X i inoZ [] 10):= .inr (.inr (.inl ⟨rfl,HII.out,HNF.out,λn' own' hs=>by
      have :=HFT.out n' own' hs
      have :=hs.right.1
      omega,rfl,rfl⟩))
     obtain⟨w7,p1,p2,p3⟩:=HBAD.out w6 10 HK6.out HBB.out
     have HS7:=Lib.hid p1
     have HL7:=Lib.hid p2
     have HP7:=Lib.hid p3
     clear p1 p2 p3 HBAD HO HN HHD HROW HFO HI HT HFR HBB h1 h2 hf1 hf2 HFT
     go_wp2_with(first|((with_reducible show wpList _ _ _ (⟨_,.store 70 (.tmp 7) (.tmp 27),_,_,_,_⟩::_) _ _);refine wpList_store_any rfl 70 (.tmp 7) (.tmp 27) rfl _ rfl _ rfl _ HS6.out ?_)|((with_reducible show wpList _ _ _ (⟨_,.store 37 (.tmp 4) (.tmp 31),_,_,_,_⟩::_) _ _);refine wpList_store_any rfl 37 (.tmp 4) (.tmp 31) rfl _ rfl _ rfl _ HS7.out ?_))
     exact bodyPost_ret (results_cell3 Tryz.results10 rfl HL7.out rfl rfl) rfl HP7.out
 ·rw[decide_eq_false hi] at HI
  obtain⟨w1,q1,q2,q3⟩:=HBAD.out W0 1 (Keeps.refl _ _) (.inl ⟨rfl,hi,rfl,rfl⟩)
  have HS:=Lib.hid q1
  have HL:=Lib.hid q2
  have HP:=Lib.hid q3
  clear q1 q2 q3 hi HBAD HFR HB4 HT
  go_enter Tryz.func10,Tryz.ntmps10
  go_wp2_with fail
  rw[HW0.out]
  refine(HI.out _).mono ?_;rintro e w' ⟨rfl,rfl⟩
  go_wp2_with((with_reducible show wpList _ _ _ (⟨_,.store 37 (.tmp 4) (.tmp 14),_,_,_,_⟩::_) _ _);refine wpList_store_any rfl 37 (.tmp 4) (.tmp 14) rfl _ rfl _ rfl _ HS.out ?_)
  exact bodyPost_ret (results_cell3 Tryz.results10 rfl HL.out rfl rfl) rfl HP.out
def LayAPost (w:World) (b gp:Nat) (B:List Int) (ps:List (Int×Int)) (i:Int) (n:Ino) (e:Ending) (w':World):Prop:=
 ∃r qs gp',e= .returned (.int .i64 r)∧(gp'=gp∨(w.heap.size≤gp'∧gp'<w'.heap.size))∧ShAt w' b gp' B (ps++qs)∧Keeps [b,gp] w w'∧qs.length≤600∧
  ((r=7∧(freeL (putAll B ps)).length<needA n∧qs=[])∨(r=0∧needA n≤(freeL (putAll B ps)).length∧qs=layA (putAll B ps) i.toNat n ((freeL (putAll B ps)).take (needA n))))
theorem layA_old {w:World} {b gp:Nat} {B:List Int} {ps:List (Int×Int)} {i:Int} {n:Ino} {e:Ending} {w':World} (hi:0≤i∧i<32) (hR:RightP n) (hF:n.F=1) (h:LayPost w b gp B ps i n e w'):LayAPost w b gp B ps i n e w':=by
 have h1:needA n=needN n:=if_neg (by omega)
 have h2:∀X own,layA X i.toNat n own=layPs X i.toNat n own:=λX own=>if_neg (by omega)
 obtain⟨r,qs,gp',a1,a2,a3,a4,a5,a6⟩:=h
 refine⟨r,qs,gp',a1,a2,a3,a4,by omega,?_⟩
 rw[h1,h2]
 rcases a6 with ⟨-,c,-⟩|⟨c1,-,c2,c3⟩|⟨c1,-,c2,c3⟩
 ·exact absurd ⟨hi,hF,hR⟩ c
 ·exact .inl ⟨c1,c2,c3⟩
 ·exact .inr ⟨c1,c2,c3⟩
theorem layA_new {w:World} {b gp:Nat} {B:List Int} {ps:List (Int×Int)} {i:Int} {n:Ino} {e:Ending} {w':World} (hi:0≤i∧i<32) (hR:RightP n) (hF:n.F=2) (h:Lay2Post w b gp B ps i n e w'):LayAPost w b gp B ps i n e w':=by
 have h1:needA n=needF n:=if_pos hF
 have h2:∀X own,layA X i.toNat n own=lay2Ps X i.toNat n own:=λX own=>if_pos hF
 obtain⟨r,qs,gp',a1,a2,a3,a4,a5,a6⟩:=h
 refine⟨r,qs,gp',a1,a2,a3,a4,by omega,?_⟩
 rw[h1,h2]
 rcases a6 with ⟨-,c,-⟩|⟨c1,-,c2,c3⟩|⟨c1,-,c2,c3⟩
 ·exact absurd ⟨hi,hF,hR⟩ c
 ·exact .inl ⟨c1,c2,c3⟩
 ·exact .inr ⟨c1,c2,c3⟩
def OwnWas (X:List Int) (i:Int) (own:List Nat):Prop:=(FreeP X i∧own=[])∨∃m,StoreP X i m own
def PutR (X:List Int) (i:Int) (n:Ino) (r:Int) (qs:List (Int×Int)):Prop:=
 (r=1∧¬((0≤i∧i<32)∧RightP n)∧qs=[])∨
 (r=10∧((0≤i∧i<32)∧RightP n)∧¬FreeP X i∧(∀n' own',¬StoreP X i n' own')∧qs=[])∨
 (∃own,((0≤i∧i<32)∧RightP n)∧OwnWas X i own∧((r=7∧(freeL (putAll X (givePs X own))).length<needA n∧qs=[])∨(r=0∧needA n≤(freeL (putAll X (givePs X own))).length∧qs=putPs X i.toNat n own)))
def PutIPost (w:World) (b gp:Nat) (B:List Int) (ps:List (Int×Int)) (i:Int) (n:Ino) (e:Ending) (w':World):Prop:=
 ∃r qs gp',e= .returned (.int .i64 r)∧(gp'=gp∨(w.heap.size≤gp'∧gp'<w'.heap.size))∧ShAt w' b gp' B (ps++qs)∧Keeps [b,gp] w w'∧qs.length≤700∧PutR (putAll B ps) i n r qs
theorem PutIPost.nothing {w w':World} {b gp:Nat} {B:List Int} {ps:List (Int×Int)} {i:Int} {n:Ino} {r:Int} (h:ShAt w b gp B ps) (hk:Keeps [] w w') (hr:PutR (putAll B ps) i n r []):PutIPost w b gp B ps i n (.returned (.int .i64 r)) w':=
 ⟨r,[],gp,rfl,.inl rfl,by rw[List.append_nil];exact h.keep hk (by simp) (by simp),hk.mono (by simp),by simp,hr⟩
set_option maxRecDepth 100000 in
set_option maxHeartbeats 4000000 in
theorem inoPut_at {w:World} {b gp:Nat} {B:List Int} {ps:List (Int×Int)} (h:ShAt w b gp B ps) (h64:In64 (putAll B ps)) (hT:∀wx,Keeps [b,gp] w wx→TabAt wx) (hgp:gp<w.heap.size) (hps:ps.length≤700000) (i:Int) (n:Ino) (v:Value) (g:Nat) (hB:n.B.length=13) (hE:EReads w v g n.E)
  (hN:∀k,k<n.E.length→(enm n.E k).size≤9223372036854775807) (hgg:n.E.length≠0→g≠b∧g≠gp):
  Calls Tryz.prog 21 #[.pointer (some ⟨b,0,none⟩),.int .i64 i,.agg (inoC n v)] w (PutIPost w b gp B ps i n):=by
 have hk0:Keeps [] w (w.alloc (.cells (inoC n v) 37)):=(Keeps.refl _ _).alloc _
 have hb5:=Blk.new w (inoC n v) 37
 have HI:=Lib.hid (isInode_at i)
 have HRT:=Lib.hid (λwx (hk:Keeps [] w wx)=>right_at n v g hB wx (hE.keep hk (by simp)) hN)
 have HNO:Hid (∀(w':World) (r:Int),Keeps [] w w'→PutR (putAll B ps) i n r []→PutIPost w b gp B ps i n (.returned (.int .i64 r)) w'):=λw' r hk hr=>PutIPost.nothing h hk hr
 have HLN:=Lib.hid (λwx (hk:Keeps [] (w.alloc (.cells (inoC n v) 37)) wx)=>load_ino (hb5.keep hk (by simp)) hB)
 obtain⟨W0,hW0⟩:∃W0,w.alloc (.cells (inoC n v) 37)=W0:=⟨_,rfl⟩
 rw[hW0] at hk0 hb5 HLN
 have HW0:=Lib.hid hW0
 have HK0:=Lib.hid hk0
 have HB5:=Lib.hid hb5
 have HSH:=Lib.hid h
 have H64:=Lib.hid h64
 have HE:=Lib.hid hE
 have HB:=Lib.hid hB
 have HHT:=Lib.hid hT
 have HNN:=Lib.hid hN
 have HGG:=Lib.hid hgg
 have HPS:=Lib.hid hps
 have HGP:=Lib.hid hgp
 clear h h64 hW0 hk0 hb5 hE hN hT hgg hps hgp
 by_cases hi:0≤i∧i<32
 ·rw[decide_eq_true hi] at HI
  by_cases hR:RightP n
  ·rw[decide_eq_true hR] at HRT
   obtain⟨X,hX⟩:∃X,putAll B ps=X:=⟨_,rfl⟩
   have HXX:=Lib.hid hX
   have HXL:Hid (X.length=3128):=by show _=_;rw[←hX];exact HSH.out.raw.lx
   have hbw:b<w.heap.size:=HSH.out.raw.lt
   have HBW:=Lib.hid hbw
   have HX64:Hid (In64 X):=by show In64 X;rw[←hX];exact H64.out
   have HL0:=Lib.hid (HLN.out W0 (Keeps.refl _ _))
   have HRT0:=Lib.hid (HRT.out W0 HK0.out)
   have HGET:Hid (∀wx,Keeps [] W0 wx→Calls Tryz.prog 10 #[.pointer (some ⟨b,0,none⟩),.int .i64 i] wx (GetPost wx X i)):=λwx hk=>by
    have :=get_at (HSH.out.keep (HK0.out.trans' hk) (by simp) (by simp)) H64.out i
    rwa[hX] at this
   have HSK:Hid (∀wx,Keeps [] W0 wx→ShAt wx b gp B ps):=λwx hk=>HSH.out.keep (HK0.out.trans' hk) (by simp) (by simp)
   have HMK:Hid (∀wx,Keeps [] W0 wx→Calls Tryz.prog 40 #[.pointer (some ⟨b,0,none⟩)] wx λe w'=>e= .returned (.int .i64 (ps.length:Int))∧wx=w'):=λwx hk=>
    txMark_at (HSH.out.keep (HK0.out.trans' hk) (by simp) (by simp))
   have HGV:Hid (∀wx va ga own,Keeps [] W0 wx→Reads wx va ga (i64s own)→W0.heap.size≤ga→own.length≤32→Calls Tryz.prog 41 #[.pointer (some ⟨b,0,none⟩),va] wx (PutPost wx b gp B (ps++givePs X own))):=λwx va ga own hk hr hg hl=>by
    have hz:=HK0.out.size
    have hgl:=HGP.out
    have :=give_at (HSH.out.keep (HK0.out.trans' hk) (by simp) (by simp)) H64.out (by have :=hk.size;omega) (by have :=HPS.out;omega) hr (by omega) (λ_=>by omega)
    rwa[hX] at this
   have HLAY:Hid (∀wx gp1 own,Keeps [b,gp] W0 wx→ShAt wx b gp1 B (ps++givePs X own)→gp1<wx.heap.size→(gp1=gp∨W0.heap.size≤gp1)→own.length≤32→∀f:Nat,((n.F=1→f= 44)∧(n.F=2→f= 46))→
     Calls Tryz.prog f #[placeV b i,.agg (inoC n v)] wx (LayAPost wx b gp1 B (ps++givePs X own) i n)):=λwx gp1 own hk hs hgl hgg hol f hf=>by
    have hkk:Keeps [b,gp] w wx:=(HK0.out.mono (by simp)).trans' hk
    have h64':In64 (putAll B (ps++givePs X own)):=by rw[putAll_append,hX];exact(givePs_state own X HX64.out HXL.out).1
    have hlen:(ps++givePs X own).length≤800000:=by
     have h1:=givePs_len own X
     have h2:=HPS.out
     rw[List.length_append]
     omega
    have hz0:=HK0.out.size
    have hE':EReads wx v g n.E:=HE.out.keep hkk (λh0=>by
     have :=HGG.out h0
     simp only[List.mem_cons,List.not_mem_nil,or_false,not_or]
     exact this)
    have hgg':n.E.length≠0→g≠b∧g≠gp1:=λh0=>by
     have h1:=HGG.out h0
     refine⟨h1.1,λh2=> ?_⟩
     rcases hgg with h3|h3
     ·exact h1.2 (h2.trans h3)
     ·have :=HE.out.apart (l:=[gp1]) (λx hx=>by rw[List.mem_singleton] at hx;omega) h0
      rw[List.mem_singleton] at this
      exact this h2
    rcases hR.1 with hF|hF
    ·rw[hf.1 hF]
     exact(layOld_at hs h64' (HHT.out wx hkk) hgl hlen i n v g HB.out hE' HNN.out hgg').mono λe w'=>layA_old hi hR hF
    ·rw[hf.2 hF]
     exact(layNew_at hs h64' (HHT.out wx hkk) hgl hlen i n v g HB.out hE' HNN.out hgg').mono λe w'=>layA_new hi hR hF
   have HCF:Hid (∀wx,Keeps [b,gp] W0 wx→wx.cell? ⟨w.heap.size,0,none⟩=some (.int .i64 n.F)∧(loadVar 37 ⟨w.heap.size,0,none⟩).run Tryz.prog wx= .ok (.agg (inoC n v)) wx):=λwx hk=>by
    have hb:=HB5.out.keep hk (by have :=HGP.out;simp;omega)
    refine⟨?_,load_ino hb HB.out⟩
    rw[hb.cell]
    exact(inoAt v HB.out).f0
   have HFO:=Lib.hid (λwx=>formatOf_at n.F wx)
   have HF12:Hid (n.F=1∨n.F=2):=hR.1
   have HIR:Hid ((0≤i∧i<32)∧RightP n):=⟨hi,hR⟩
   have HFIN:Hid (∀wx (gp2:Nat) (r:Int) (qs:List (Int×Int)),(gp2=gp∨(w.heap.size≤gp2∧gp2<wx.heap.size))→ShAt wx b gp2 B (ps++qs)→Keeps [b,gp] W0 wx→qs.length≤700→PutR X i n r qs→PutIPost w b gp B ps i n (.returned (.int .i64 r)) wx):=λwx gp2 r qs h1 h2 h3 h4 h5=>
    ⟨r,qs,gp2,rfl,h1,h2,(HK0.out.mono (by simp)).trans' h3,h4,by rw[hX];exact h5⟩
   have hzi:=zero_ino
   clear hi hR HLN HRT hX HNO HE HNN HGG HHT HSH H64
   have HZ0:=Lib.hid HK0.out.size
   have hnn:n.F=n.F:=rfl
   clear hnn
   generalize hzz:inoC n v=Z at *
   clear hzz
   generalize hf:n.F=f at *
   clear hf
   go_enter Tryz.func21,Tryz.ntmps21
   go_wp2_with fail
   rw[HW0.out]
   refine(HI.out _).mono ?_;rintro e w' ⟨rfl,rfl⟩
   go_wp2_with((with_reducible show wpList _ _ _ (⟨_,.load 37 (.tmp 5),_,_,_,_⟩::_) _ _);refine wpList_load_want (by first|rfl|simp[Region.wanted,yielded]) 37 (.tmp 5) rfl _ rfl _ HL0.out ?_)
   refine HRT0.out.mono ?_;rintro e w2 ⟨rfl,hk2⟩
   have HK2:=Lib.hid hk2
   clear hk2
   go_wp2_with fail
   refine(HGET.out w2 HK2.out).mono ?_;rintro e w3 ⟨m,vm,gm,own,va,ga,r,rfl,hmB,hmE,hgm,hO,hga,hk3,hgr⟩
   have hk23:Keeps [] W0 w3:=HK2.out.trans' hk3
   obtain⟨w4,q1,q2,hE4,⟨ga4,hO4,hga4⟩,hk4,hb4⟩:=store_own hk23 hmB hmE hO (by have :=HK2.out.size;omega)
   have HS4:=Lib.hid q1
   have HO4:=Lib.hid hO4
   have HGA4:=Lib.hid hga4
   have HK4:=Lib.hid hk4
   have HGR:=Lib.hid hgr
   clear hmB hmE hgm hO hga hk3 hgr q1 q2 hE4 hO4 hga4 hk4 hb4 hk23 HK2 HRT0 HL0 HGET
   generalize inoC m vm=ZM at *
   generalize inoC inoZ (.slice none 0 0)=ZZ at *
   by_cases hr10:r=10
   ·subst hr10
    have hpr:PutR X i n 10 []:=by
     rcases HGR.out with ⟨h,-⟩|⟨h,-⟩|⟨-,h1,h2,h3,-⟩|⟨h,-⟩
     ·omega
     ·omega
     ·exact .inr (.inl ⟨rfl,HIR.out,h2,h3,rfl⟩)
     ·omega
    have HP:Hid (PutIPost w b gp B ps i n (.returned (.int .i64 10)) w4):=HFIN.out w4 gp 10 [] (.inl rfl) (by rw[List.append_nil];exact HSK.out w4 HK4.out) (HK4.out.mono (by simp)) (by simp) hpr
    clear hpr HGR HFIN HCF HFO HLAY HGV HMK
    go_wp2_with((with_reducible show wpList _ _ _ (⟨_,.store 37 (.tmp 7) (.tmp 25),_,_,_,_⟩::_) _ _);refine wpList_store_any rfl 37 (.tmp 7) (.tmp 25) rfl _ rfl _ rfl _ HS4.out ?_)
    go_ret
    exact HP.out
   ·have hol:own.length≤32∧OwnWas X i own:=by
     rcases HGR.out with ⟨h1,h2,-⟩|⟨-,-,h2,-,h3⟩|⟨h,-⟩|⟨-,h⟩
     ·exact absurd HIR.out.1 h2
     ·subst h3;exact⟨by simp,.inl ⟨h2,rfl⟩⟩
     ·exact absurd h hr10
     ·exact⟨by have h1:=h.ownLen;have h2:=needA_le h.right;omega,.inr ⟨m,h⟩⟩
    have e10:(r==10)=false:=by simpa using hr10
    have HOL:=Lib.hid hol
    have HGV4:=Lib.hid (HGV.out w4 va ga4 own HK4.out HO4.out.reads HGA4.out hol.1)
    clear hol HGR HGV HO4 hr10
    go_wp2_with((with_reducible show wpList _ _ _ (⟨_,.store 37 (.tmp 7) (.tmp 25),_,_,_,_⟩::_) _ _);refine wpList_store_any rfl 37 (.tmp 7) (.tmp 25) rfl _ rfl _ rfl _ HS4.out ?_)
    refine(HMK.out w4 HK4.out).mono ?_;rintro e w' ⟨rfl,rfl⟩
    go_wp2_with fail
    refine HGV4.out.mono ?_;rintro e w5 ⟨rfl,gp1,hg1,hs5,hk5⟩
    have HK5:Hid (Keeps [b,gp] W0 w5):=(HK4.out.mono (by simp)).trans' hk5
    have HS5:=Lib.hid hs5
    have HG1:Hid (gp1<w5.heap.size∧(gp1=gp∨W0.heap.size≤gp1)):=by
     have z4:=HK4.out.size
     have z5:=hk5.size
     have :=HGP.out
     have :=HZ0.out
     exact⟨by omega,by omega⟩
    have HC5:=Lib.hid (HCF.out w5 HK5.out)
    have c5:=HC5.out.1
    clear hg1 hs5 hk5 HGV4 HMK
    go_wp2_with fail
    refine(HFO.out w5).mono ?_;rintro e w6 ⟨hk6,fa,fb,ha1,hb1,rfl,h1,h2⟩
    have hff:∃q:Nat,fb= .func (.func q) #[] #[]∧((f=1→q= 44)∧(f=2→q= 46)):=by
     rcases HF12.out with hF|hF
     ·exact⟨_,(h1 hF).2,λ_=>rfl,λh=>by omega⟩
     ·exact⟨_,(h2 hF).2,λh=>by omega,λ_=>rfl⟩
    rw[decide_eq_true HF12.out]
    obtain⟨q,rfl,hq⟩:=hff
    have hq2:q= 44∨q= 46 :=HF12.out.imp (λh=>hq.1 h) λh=>hq.2 h
    have hbf:=Blk.new w6 #[.nilFunc,.nilFunc] 70
    obtain⟨w7,q1,q2,q3⟩:=store_fm hbf ha1 hb1
    have hk67:Keeps [] w6 w7:=((Keeps.refl [] w6).alloc _).trans q3 (by intro x hx;rw[List.mem_singleton] at hx;omega)
    have HK57:Hid (Keeps [] w5 w7):=hk6.trans' hk67
    have HS7:=Lib.hid q1
    have HK7:Hid (Keeps [b,gp] W0 w7):=HK5.out.trans' (HK57.out.mono (by simp))
    have c7:w7.cell? ⟨w6.heap.size,1,none⟩=some (.func (.func q) #[] #[]):=by rw[q2.cell];rfl
    have HL7:=Lib.hid (HCF.out w7 HK7.out).2
    have HSH7:Hid (ShAt w7 b gp1 B (ps++givePs X own)):=HS5.out.keep HK57.out (by simp) (by simp)
    have HLY:=Lib.hid (HLAY.out w7 gp1 own HK7.out HSH7.out (by have :=HG1.out;have :=HK57.out.size;omega) HG1.out.2 HOL.out.1 q hq)
    clear hq c5 hk6 ha1 hb1 h1 h2 hbf q1 q2 q3 hk67 HLAY HCF HFO HC5 HS4 e10
    rcases hq2 with rfl|rfl
    all_goals (
     go_wp2_with(first|((with_reducible show wpList _ _ _ (⟨_,.store 70 (.tmp 11) (.tmp 40),_,_,_,_⟩::_) _ _);refine wpList_store_any rfl 70 (.tmp 11) (.tmp 40) rfl _ rfl _ rfl _ HS7.out ?_)|((with_reducible show wpList _ _ _ (⟨_,.load 37 (.tmp 5),_,_,_,_⟩::_) _ _);refine wpList_load_any rfl 37 (.tmp 5) rfl _ rfl _ HL7.out ?_))
     refine HLY.out.mono ?_;rintro e w8 ⟨r2,qs2,gp2,rfl,hg2,hs8,hk8,hql,hr2⟩
     have hY:putAll B (ps++givePs X own)=putAll X (givePs X own):=by rw[putAll_append,HXX.out]
     rw[hY] at hr2
     have hgl:=givePs_len own X
     have hoo:=HOL.out.1
     have hgg2:gp2=gp∨(w.heap.size≤gp2∧gp2<w8.heap.size):=by
      have h1:=HG1.out
      have h2:=HK57.out.size
      have h3:=hk8.size
      have h4:=HZ0.out
      have h5:=HK7.out.size
      omega
     have hk08:Keeps [b,gp] W0 w8:=HK7.out.trans hk8 (by
      intro x hx
      have h1:=HG1.out.2
      simp only[List.mem_cons,List.not_mem_nil,or_false] at hx ⊢
      omega)
     rcases hr2 with ⟨rfl,hfr,rfl⟩|⟨rfl,hfr,rfl⟩
     ·have hbk:((ps++givePs X own)++[]).take (backN (ps.length:Int) ((ps++givePs X own)++[]).length)=ps:=by
       have hle:ps.length≤((ps++givePs X own)++[]).length:=by simp
       have :backN (ps.length:Int) ((ps++givePs X own)++[]).length=ps.length:=by have :=backN_int (ps.length:Int) ((ps++givePs X own)++[]).length;omega
       rw[this,List.append_nil,List.take_left]
      have HBK:Hid (Calls Tryz.prog 42 #[.pointer (some ⟨b,0,none⟩),.int .i64 (ps.length:Int)] w8 (BackPost w8 b gp2 B ps)):=by
       have :=txBack_at hs8 (ps.length:Int)
       rwa[hbk] at this
      have HP:Hid (∀w9,ShAt w9 b gp2 B ps→Keeps [b] w8 w9→PutIPost w b gp B ps i n (.returned (.int .i64 7)) w9):=λw9 h1 h2=>
       HFIN.out w9 gp2 7 [] (by have :=h2.size;omega) (by rw[List.append_nil];exact h1) (hk08.trans h2 (by intro x hx;rw[List.mem_singleton] at hx;left;simp[hx])) (by simp) (.inr (.inr ⟨own,HIR.out,HOL.out.2,.inl ⟨rfl,hfr,rfl⟩⟩))
      clear hY hgl hoo hgg2 hk08 hfr hbk hs8 hk8 hg2 hql HLY HFIN HL7 HSH7 HS7 c7 HK7 HK57 HS5 HK5 HG1
      go_wp2_with fail
      refine HBK.out.mono ?_;rintro e w9 ⟨rfl,hs9,hk9⟩
      have HPP:=Lib.hid (HP.out w9 hs9 hk9)
      clear hs9 hk9 HP HBK
      go_wp2_with fail
      go_ret
      exact HPP.out
     ·have HP:Hid (PutIPost w b gp B ps i n (.returned (.int .i64 0)) w8):=
       HFIN.out w8 gp2 0 (putPs X i.toNat n own) hgg2 (by unfold putPs;rw[←List.append_assoc];exact hs8) hk08 (by unfold putPs;rw[List.length_append];omega) (.inr (.inr ⟨own,HIR.out,HOL.out.2,.inr ⟨rfl,hfr,rfl⟩⟩))
      clear hY hgl hoo hgg2 hk08 hfr hs8 hk8 hg2 hql HLY HFIN HL7 HSH7 HS7 c7 HK7 HK57 HS5 HK5 HG1
      go_wp2_with fail
      go_ret
      exact HP.out)
  ·rw[decide_eq_false hR] at HRT
   have HX:Hid (PutR (putAll B ps) i n 1 []):= .inl ⟨rfl,λh=>hR h.2,rfl⟩
   have HL0:=Lib.hid (HLN.out W0 (Keeps.refl _ _))
   have HRT0:=Lib.hid (HRT.out W0 HK0.out)
   clear hi hR HLN HRT HB
   generalize inoC n v=Z at *
   go_enter Tryz.func21,Tryz.ntmps21
   go_wp2_with fail
   rw[HW0.out]
   refine(HI.out _).mono ?_;rintro e w' ⟨rfl,rfl⟩
   go_wp2_with((with_reducible show wpList _ _ _ (⟨_,.load 37 (.tmp 5),_,_,_,_⟩::_) _ _);refine wpList_load_want (by first|rfl|simp[Region.wanted,yielded]) 37 (.tmp 5) rfl _ rfl _ HL0.out ?_)
   refine HRT0.out.mono ?_;rintro e w2 ⟨rfl,hk2⟩
   have HP:=Lib.hid (HNO.out w2 1 (HK0.out.trans' hk2) HX.out)
   clear hk2
   go_wp2_with fail
   go_ret
   exact HP.out
 ·rw[decide_eq_false hi] at HI
  have HP:=Lib.hid (HNO.out W0 1 HK0.out (.inl ⟨rfl,λh=>hi h.1,rfl⟩))
  clear hi HNO HRT HLN HB
  generalize inoC n v=Z at *
  go_enter Tryz.func21,Tryz.ntmps21
  go_wp2_with fail
  rw[HW0.out]
  refine(HI.out _).mono ?_;rintro e w' ⟨rfl,rfl⟩
  go_wp2_with fail
  go_ret
  exact HP.out
def filesTo (B:List Int) (k:Nat):List Nat:=((B.take k).filter λx=>x != 0).map Int.toNat
def filesL (n:Ino):List Nat:=filesTo n.B 13
theorem filesTo_succ (B:List Int) (k:Nat) (hk:k<B.length):filesTo B (k+1)=filesTo B k++(if B.getD k 0=0 then [] else [(B.getD k 0).toNat]):=by
 unfold filesTo
 rw[List.take_succ_eq_append_getElem hk,List.filter_append,List.map_append]
 congr 1
 have :B.getD k 0=B[k]:=by simp[List.getD_eq_getElem?_getD,hk]
 rw[this]
 by_cases h:B[k]=0
 ·simp[h]
 ·simp[h]
theorem filesTo_le (B:List Int) (k:Nat):(filesTo B k).length≤k:=by
 unfold filesTo
 rw[List.length_map]
 exact Nat.le_trans (List.length_filter_le _ _) (by rw[List.length_take];omega)
set_option maxRecDepth 100000 in
set_option maxHeartbeats 4000000 in
theorem with_at {ws w:World} (hk:Keeps [] ws w) {va:Value} {own:List Nat} (hO:w.ownsRow ws.heap.size 3 1 va own.length (i64s own)) (n:Ino) (v:Value) (hB:n.B.length=13) (h0:∀k,0≤n.B.getD k 0) (hl:own.length≤1000):
  Calls Tryz.prog 88 #[va,.agg (inoC n v)] w λe w'=>∃u,e= .returned u∧w'.ownsRow ws.heap.size 3 1 u (own++filesL n).length (i64s (own++filesL n))∧Keeps [] ws w':=by
 obtain⟨i0,hi,hz0,hz1,hz2⟩:=info_parts Tryz.info_int
 have hws:=hk.size
 have hb3:=Blk.new w (inoC n v) 37
 have HLB:Hid ((loadVar 34 ⟨w.heap.size,4,none⟩).run Tryz.prog (w.alloc (.cells (inoC n v) 37))= .ok (.agg (zs n.B).toArray) (w.alloc (.cells (inoC n v) 37))):=load_n13 hb3 hB (inoAt v hB).f4
 have HZ:Hid (∀k,k<13→(zs n.B).toArray[k]? =some (.int .i64 (n.B.getD k 0))):=λk hk=>by rw[List.getElem?_toArray,zs_get (by omega)]
 have HST:Hid ((w.alloc (.cells (inoC n v) 37)).ownsRow ws.heap.size 3 1 va (own++filesTo n.B 0).length (i64s (own++filesTo n.B 0))∧Keeps [] ws (w.alloc (.cells (inoC n v) 37))):=by
  have :own++filesTo n.B 0=own:=by simp[filesTo]
  rw[this]
  exact⟨hO.alloc _,hk.alloc _⟩
 have HB:=Lib.hid hB
 have H0:=Lib.hid h0
 have HFL:Hid (filesTo n.B 13=filesL n):=rfl
 clear hO hb3 hk hB h0
 generalize inoC n v=Z at *
 generalize (zs n.B).toArray=ZB at *
 go_enter Tryz.func88,Tryz.ntmps88
 go_wp2_with((with_reducible show wpList _ _ _ (⟨_,.load 34 (.tmp 7),_,_,_,_⟩::_) _ _);refine wpList_load_any rfl 34 (.tmp 7) rfl _ rfl _ HLB.out ?_)
 go_loopg [0,9] 13 (λgh s0 s9 wx=>∃k:Nat,k+gh=13∧s9= .int .i64 (k:Int)∧Hid (wx.ownsRow ws.heap.size 3 1 s0 (own++filesTo n.B k).length (i64s (own++filesTo n.B k))∧Keeps [] ws wx))
 case atStart=>exact⟨0,by omega,rfl,HST.out⟩
 case round=>
  clear HST HLB
  obtain⟨k,hk,rfl,HP⟩:=hrel
  cases gk with
  |zero=>
   obtain rfl:k=13:=by omega
   have HE:=Lib.hid HP.out
   rw[HFL.out] at HE
   clear hk HP
   go_wp2_with fail
   go_ret
   exact⟨_,rfl,HE.out⟩
  |succ gg=>
   have hk13:k<13:=by omega
   have hlt:(k:Int)<13:=by omega
   have hk0:(0:Int)≤(k:Int):=by omega
   have hix:=index_n13 hk13 (HZ.out k hk13)
   have hx0:=H0.out k
   have HS:=Lib.hid (filesTo_succ n.B k (by rw[HB.out];exact hk13))
   have hfl:=filesTo_le n.B k
   generalize n.B.getD k 0=x at *
   by_cases hx:x=0
   ·have e0:(x != 0)=false:=by rw[hx];rfl
    have HN:Hid (wr.ownsRow ws.heap.size 3 1 u0 (own++filesTo n.B (k+1)).length (i64s (own++filesTo n.B (k+1)))∧Keeps [] ws wr):=by
     show _∧_
     rw[HS.out,if_pos hx,List.append_nil]
     exact HP.out
    clear HP HS hx
    go_wp2_with fail
    go_roundg gg
    case measure=>omega
    case rel=>exact⟨k+1,by omega,by go_num,HN.out⟩
   ·have e0:(x != 0)=true:=bne_iff_ne.2 hx
    have HOWN:=Lib.hid HP.out.1
    have HKP:=Lib.hid HP.out.2
    have hwr:=HP.out.2.size
    have hql:(own++filesTo n.B k).length≤2000:=by rw[List.length_append];omega
    have HNX:Hid (own++filesTo n.B (k+1)=(own++filesTo n.B k)++[x.toNat]):=by
     show _=_
     rw[HS.out,if_neg hx,List.append_assoc]
    have HI:Hid (i64s ((own++filesTo n.B k)++[x.toNat])=i64s (own++filesTo n.B k)++[.int .i64 x]):=by
     show _=_
     have hxx:((x.toNat:Nat):Int)=x:=by omega
     rw[i64s_append]
     show _++[Value.int .i64 ((x.toNat:Nat):Int)]=_
     rw[hxx]
    have HLL:Hid (((own++filesTo n.B k)++[x.toNat]).length=(own++filesTo n.B k).length+1):=List.length_append
    clear HP HS hfl
    generalize own++filesTo n.B k=L at *
    generalize hq:L.length=q at *
    go_wp2_with(at_builtin;refine wpList_append_own _ rfl _ _ 40 rfl ws.heap.size 3 i0 (.int .i64 0) 1 8 Tryz.underlying40 hi hz0 hz1 hz2 rfl (by decide) u0 q _ rfl (HOWN.out.alloc _) ⟨wr.heap.size,0,none⟩ 1 1 [.int .i64 x] rfl rfl ?c1 ?c2 (by unfold maxLen;omega) (by omega) (by simp;omega) ?_)
    case c1=>exact new_cells _ [_] _ _ rfl
    case c2=>simp[Value.oneCell']
    intro v' w1 hown1 hgrow hnil
    have HN:Hid (w1.ownsRow ws.heap.size 3 1 v' (own++filesTo n.B (k+1)).length (i64s (own++filesTo n.B (k+1)))∧Keeps [] ws w1):=by
     show _∧_
     rw[HNX.out,HLL.out,HI.out]
     exact⟨hown1,(HKP.out.alloc _).grown hgrow (ownsRow_block HOWN.out)⟩
    clear hown1 hgrow hnil HOWN HKP HNX HI HLL hx hq
    go_wp2_with fail
    go_roundg gg
    case measure=>omega
    case rel=>exact⟨k+1,by omega,by go_num,HN.out⟩
def All2Post (w:World) (X:List Int) (i:Int) (e:Ending) (w':World):Prop:=
 ∃v g l,e= .returned v∧Reads w' v g (i64s l)∧Keeps [] w w'∧((∃n own,StoreP X i n own∧l=own++filesL n)∨((∀n own,¬StoreP X i n own)∧l=[]))∧(l≠[]→w.heap.size≤g)
set_option maxRecDepth 100000 in
set_option maxHeartbeats 4000000 in
theorem all2_at {w:World} {b gp:Nat} {B:List Int} {ps:List (Int×Int)} (h:ShAt w b gp B ps) (h64:In64 (putAll B ps)) (i:Int):
  Calls Tryz.prog 66 #[.pointer (some ⟨b,0,none⟩),.int .i64 i] w (All2Post w (putAll B ps) i):=by
 have HGET:=Lib.hid (get_at h h64 i)
 have hzi:=zero_ino
 clear h h64
 go_enter Tryz.func66,Tryz.ntmps66
 go_wp2_with fail
 refine HGET.out.mono ?_;rintro e w1 ⟨n,v,g,own,va,ga,r,rfl,hB,hE,hg,hO,hga,hk1,hr⟩
 obtain⟨w2,q1,q2,hE2,⟨ga2,hO2,hga2⟩,hk2,hb2⟩:=store_own hk1 hB hE hO hga
 have HS2:=Lib.hid q1
 have HL2:=Lib.hid q2
 have HO2:=Lib.hid hO2
 have HGA:=Lib.hid hga2
 have HK2:=Lib.hid hk2
 have HR:=Lib.hid hr
 have HB:=Lib.hid hB
 clear hB hE hg hO hga hk1 hr q1 q2 hE2 hO2 hga2 hk2 hb2 HGET
 by_cases hr0:r=0
 ·subst hr0
  have hst:StoreP (putAll B ps) i n own:=by
   rcases HR.out with ⟨h,-⟩|⟨h,-⟩|⟨h,-⟩|⟨-,h⟩
   ·omega
   ·omega
   ·omega
   ·exact h
  have hol:own.length≤32:=by have h1:=hst.ownLen;have h2:=needA_le hst.right;omega
  have hnn:∀k,0≤n.B.getD k 0:=λk=>(right_len hst.right HB.out k).1
  have hrow:w2.ownsRow w.heap.size 3 1 va own.length (i64s own):=by
   obtain⟨⟨h0,h5⟩,h2⟩:=HO2.out
   rcases h5 with h5|⟨g',cap,cur,e1,e2,e3⟩
   ·exact⟨h0,.inl h5⟩
   ·exact⟨h0,.inr ⟨g',cap,cur,e1,by have :=HGA.out;omega,e3⟩⟩
  have HW:=Lib.hid (with_at HK2.out hrow n v HB.out hnn (by omega))
  have HST:=Lib.hid hst
  clear HR hst hol hnn hrow
  generalize hzn:inoC n v=ZN at *
  clear hzn
  generalize inoC inoZ (.slice none 0 0)=ZZ at *
  go_wp2_with(first|((with_reducible show wpList _ _ _ (⟨_,.store 37 (.tmp 5) (.tmp 12),_,_,_,_⟩::_) _ _);refine wpList_store_any rfl 37 (.tmp 5) (.tmp 12) rfl _ rfl _ rfl _ HS2.out ?_)|((with_reducible show wpList _ _ _ (⟨_,.load 37 (.tmp 5),_,_,_,_⟩::_) _ _);refine wpList_load_any rfl 37 (.tmp 5) rfl _ rfl _ HL2.out ?_))
  refine HW.out.mono ?_;rintro e w3 ⟨u,rfl,hu,hk3⟩
  obtain⟨gu,hru,hgu⟩:=RowI.of_row hu
  have HP:Hid (All2Post w (putAll B ps) i (.returned u) w3):=⟨u,gu,_,rfl,hru.reads,hk3,.inl ⟨n,own,HST.out,rfl⟩,λ_=>hgu⟩
  clear hu hk3 hru hgu HW
  go_wp2_with fail
  go_ret
  exact HP.out
 ·have HP:Hid (All2Post w (putAll B ps) i (.returned (.slice none 0 0)) w2):=by
   refine⟨_,0,[],rfl,i64s_nil_reads _ _,HK2.out,.inr ⟨λn' own' hs=> ?_,rfl⟩,λh=>absurd rfl h⟩
   rcases HR.out with ⟨h1,h2,-⟩|⟨h1,h2,h3,-⟩|⟨h1,h2,h3,h4,-⟩|⟨h,-⟩
   ·exact h2 hs.rng
   ·exact hs.notFree h3
   ·exact h4 _ _ hs
   ·exact hr0 h
  have e0:(r != 0)=true:=bne_iff_ne.2 hr0
  clear HR hr0
  generalize inoC n v=ZN at *
  generalize inoC inoZ (.slice none 0 0)=ZZ at *
  go_wp2_with((with_reducible show wpList _ _ _ (⟨_,.store 37 (.tmp 5) (.tmp 12),_,_,_,_⟩::_) _ _);refine wpList_store_any rfl 37 (.tmp 5) (.tmp 12) rfl _ rfl _ rfl _ HS2.out ?_)
  go_ret
  exact HP.out
theorem PutR.free {X:List Int} {i:Int} {n:Ino} {r:Int} {qs:List (Int×Int)} (h:PutR X i n r qs) (hi:0≤i∧i<32) (hf:FreeP X i):
  (r=1∧¬RightP n∧qs=[])∨(r=7∧RightP n∧(freeL X).length<needA n∧qs=[])∨(r=0∧RightP n∧needA n≤(freeL X).length∧qs=putPs X i.toNat n []):=by
 rcases h with ⟨h1,h2,h3⟩|⟨-,-,h2,-⟩|⟨own,h1,h2,h3⟩
 ·exact .inl ⟨h1,λhR=>h2 ⟨hi,hR⟩,h3⟩
 ·exact absurd hf h2
 ·have ho:own=[]:=by
   rcases h2 with ⟨-,h⟩|⟨m,h⟩
   ·exact h
   ·exact absurd hf h.notFree
  subst ho
  rcases h3 with ⟨h3,h4,h5⟩|⟨h3,h4,h5⟩
  ·exact .inr (.inl ⟨h3,h1.2,h4,h5⟩)
  ·exact .inr (.inr ⟨h3,h1.2,h4,h5⟩)
theorem PutR.over {X:List Int} {i:Int} {n m:Ino} {om:List Nat} {r:Int} {qs:List (Int×Int)} (h:PutR X i n r qs) (hs:StoreP X i m om):
  (r=1∧¬RightP n∧qs=[])∨(r=7∧RightP n∧(freeL (putAll X (givePs X om))).length<needA n∧qs=[])∨(r=0∧RightP n∧needA n≤(freeL (putAll X (givePs X om))).length∧qs=putPs X i.toNat n om):=by
 rcases h with ⟨h1,h2,h3⟩|⟨-,-,-,h2,-⟩|⟨own,h1,h2,h3⟩
 ·exact .inl ⟨h1,λhR=>h2 ⟨hs.rng,hR⟩,h3⟩
 ·exact absurd hs (h2 _ _)
 ·have ho:own=om:=by
   rcases h2 with ⟨h,-⟩|⟨m',h⟩
   ·exact absurd h hs.notFree
   ·exact(hs.uniq h).2
  subst ho
  rcases h3 with ⟨h3,h4,h5⟩|⟨h3,h4,h5⟩
  ·exact .inr (.inl ⟨h3,h1.2,h4,h5⟩)
  ·exact .inr (.inr ⟨h3,h1.2,h4,h5⟩)
end Go.Proofs.YtphojondgfjmgaaGreatDoor
namespace Go.Proofs.YtphojondgfjmgaaGreatDoor
open Go.RowKit
open Go.RowKit
end Go.Proofs.YtphojondgfjmgaaGreatDoor
