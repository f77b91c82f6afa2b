/-
  Layer 9: an inode put over the table's words; slices.Contains; Below. Layer 9: Below, over a sheet whose words are a table's. Layer 5 (palloc): Used. Layer 10, plain: what must be so of a sheet's words, point by point; what Get tells of all inodes. Layer 10: the links of one inode; a word ahead of the journal; a sheet, of which Get tells a table. Layer 10, the reference: how many entries there are for an inode; the words ahead of the journal. Layer 10, the reference: Links. Layer 9, the reference: Below. An array of thirteen numbers as an argument is read.
-/
import Derived.Test.YtphojondgfjmgaaGreatDoorG17
import Derived.Deep.LoopGhost
import Derived.Test.YtphojondgfjmgaaGreatDoorG01
import Derived.Test.YtphojondgfjmgaaGreatDoorG00
import Derived.Test.YtphojondgfjmgaaGreatDoorG15
import Derived.Test.YtphojondgfjmgaaGreatDoorG14
import Derived.Test.YtphojondgfjmgaaGreatDoorG02
namespace Go.Proofs.YtphojondgfjmgaaGreatDoor
open Go.RowKit
theorem zs_getD {l:List Int} {j:Nat} (h:j<l.length):(zs l)[j]? =some (.int .i64 (l.getD j 0)):=zs_get h
def IndexPost (w:World) (px:Prop) (e:Ending) (w':World):Prop:=∃r:Int,e= .returned (.int .i64 r)∧w=w'∧(0≤r↔px)
set_option maxRecDepth 100000 in
set_option maxHeartbeats 1000000 in
theorem index_at {w:World} {a:Option Addr} {cap g:Nat} {l:List Int} (x:Int) (hR:Reads w (.slice a l.length cap) g (zs l)):
  Calls Tryz.prog 104 #[.slice a l.length cap,.int .i64 x] w (IndexPost w (x∈l)):=by
 have HC:Hid (∀j,j<l.length→∃off,a=some ⟨g,off,none⟩∧w.cell? ⟨g,off+j,none⟩=some (.int .i64 (l.getD j 0))):=λj hj=>by
  obtain⟨a',cap',hv,-,-,h3⟩:=hR
  injection hv with e1 e2 e3
  have hne:zs l≠[]:=λe=>by have :=congrArg List.length e;rw[zs_len,List.length_nil] at this;omega
  obtain⟨-,off,h5,h6⟩:=h3 hne
  exact⟨off,by rw[e1];exact h5,by rw[h6 j (by rw[zs_len];exact hj),zs_getD hj]⟩
 have hmx:l.length≤maxLen:=by
  obtain⟨a',cap',hv,h1,h2,-⟩:=hR
  rw[zs_len] at h1
  omega
 have HM:Hid (∀j,j<l.length→l.getD j 0=x→x∈l):=λj hj e=>by
  rw[←e,List.getD_eq_getElem?_getD,List.getElem?_eq_getElem hj]
  exact List.getElem_mem hj
 have HN:Hid ((∀j,j<l.length→l.getD j 0≠x)→¬x∈l):=λh hm=>by
  obtain⟨j,hj,e⟩:=List.getElem_of_mem hm
  exact h j hj (by rw[List.getD_eq_getElem?_getD,List.getElem?_eq_getElem hj];exact e)
 unfold maxLen at hmx
 clear hR
 generalize hm:l.length=m at *
 clear hm
 have HP0:Hid (∀r:Int,(0≤r↔x∈l)→IndexPost w (x∈l) (.returned (.int .i64 r)) w):=λr h=>⟨r,rfl,rfl,h⟩
 generalize hxl:(x∈l)=px at *
 clear hxl
 go_enter Tryz.func104,Tryz.ntmps104
 go_wp2_with fail
 go_loopg [8] m (λgh s8 wx=>∃k:Nat,k+gh=m∧s8= .int .i64 (k:Int)∧w=wx∧Hid (∀j,j<k→l.getD j 0≠x))
 case atStart=>exact⟨0,by omega,rfl,rfl,λj hj=>by omega⟩
 case round=>
  obtain⟨k,hk,rfl,rfl,HP⟩:=hrel
  cases gk with
  |zero=>
   obtain rfl:k=m:=by omega
   have HF:=Lib.hid (HP0.out (-1) ⟨λh=>by omega,λh=>absurd h (HN.out HP.out)⟩)
   clear HC HM HN HP HP0
   go_wp2_with fail
   go_ret
   exact HF.out
  |succ gg=>
   have hlt:(k:Int)<(m:Int):=by omega
   have hk0:(0:Int)≤(k:Int):=by omega
   have hkm:k<m:=by omega
   obtain⟨off,rfl,c0⟩:=HC.out k hkm
   by_cases he:l.getD k 0=x
   ·have HF:=Lib.hid (HP0.out (k:Int) ⟨λ_=>HM.out k hkm he,λ_=>hk0⟩)
    have hb:(x==l.getD k 0)=true:=by rw[he];simp
    clear HC HM HN HP HP0 he
    generalize l.getD k 0=y at *
    go_wp2_with fail
    go_ret
    exact HF.out
   ·have HP2:Hid (∀j,j<k+1→l.getD j 0≠x):=λj hj=>by
     by_cases e:j=k
     ·rw[e];exact he
     ·exact HP.out j (by omega)
    have hb:(x==l.getD k 0)=false:=by rw[beq_eq_false_iff_ne];exact λe=>he e.symm
    clear HC HM HN HP HP0 he
    generalize l.getD k 0=y at *
    go_wp2_with fail
    go_roundg gg
    case measure=>omega
    case rel=>exact⟨k+1,by omega,by go_num,rfl,HP2.out⟩
set_option maxHeartbeats 1000000 in
theorem contains_at {w:World} {a:Option Addr} {cap g:Nat} {l:List Int} (x:Int) (hR:Reads w (.slice a l.length cap) g (zs l)):
  Calls Tryz.prog 87 #[.slice a l.length cap,.int .i64 x] w λe w'=>e= .returned (.bool (decide (x∈l)))∧w=w':=by
 have HI:=Lib.hid (index_at x hR)
 clear hR
 generalize l.length=m at *
 go_enter Tryz.func87,Tryz.ntmps87
 go_wp2_with fail
 refine HI.out.mono ?_;rintro e w' ⟨r,rfl,rfl,hr⟩
 have HR:=Lib.hid hr
 clear hr
 go_wp2_with fail
 go_ret
 refine⟨?_,rfl⟩
 show Ending.returned (.bool (decide (0≤r)))=_
 rw[decide_eq_decide.2 HR.out]
theorem append_block {P:Program} {w:World} (base:Nat) (t ty e:TypeId) (i:TypeInfo) (z:Value) (size bytes:Nat) (ht:P.underlying t=some (.slice e)) (hi:P.info? e=some i) (hz:i.zero=some z)
  (hsize:i.size=size) (hby:i.bytes=bytes) (hsz:0<size) (g n cap:Nat) (xs:List Value) (hown:w.ownsRow base e size (.slice (some ⟨g,0,none⟩) n cap) n xs)
  (a:Addr) (m c:Nat) (news:List Value) (hl:news.length=m*size) (hnews:∀j u,news[j]? =some u→w.cell? (a.add j)=some u) (h1:∀u∈news,u.oneCell'=true)
  (h63:n+m≤maxLen) (hbytes:(n+m)*bytes≤140737488355328) {v':Value} {w':World} (hr:(Builtin.append_ #[t,t] ty #[.slice (some ⟨g,0,none⟩) n cap,.slice (some a) m c]).run P w= .ok v' w'):
  v'.ownBlock=some g∨v'.ownBlock=some w.heap.size:=by
 subst hsize
 subst hby
 have hsmall:n+m≤9223372036854775807:=by simp only[maxLen] at h63;omega
 have holds:∀j u,xs[j]? =some u→w.cell? ((⟨g,0,none⟩:Addr).add j)=some u:=hown.cells (g:=g) rfl
 rcases hown.2 with ⟨h,-⟩|⟨g',cap',cur,hv,hbg,hg,hnc,hcm,hcs,htake⟩
 ·cases h
 ·cases hv
  by_cases hroom:n+m≤cap
  ·have hfit:n*i.size+news.length≤cur.size:=by rw[hl,hcs,←Nat.add_mul];exact Nat.mul_le_mul_right _ hroom
   have hr2:=run_append_room (P:=P) w t ty e i ht hi g n cap cur hg a m c news hl hnews h1 hroom hfit
   rw[hr] at hr2
   injection hr2 with e1 e2
   rw[e1]
   exact .inl rfl
  ·have hr2:=run_append_grow (P:=P) w t ty e i z ht hi hz ⟨g,0,none⟩ n cap xs hown.1 holds a m c news hl hnews (by omega) (by omega) (growslice_fits (by omega) hbytes)
   rw[hr] at hr2
   injection hr2 with e1 e2
   rw[e1]
   exact .inr rfl
def BelowPost (w:World) (p:Prop) (e:Ending) (w':World):Prop:=∃r:Bool,e= .returned (.bool r)∧(r=true↔p)∧Keeps [] w w'
theorem zero_entry9 (w:World):(zeroValue 85).run Tryz.prog w= .ok (.agg #[.string ⟨#[]⟩,.int .i64 0]) w:=by kernel_rfl
theorem store_entry9 {w:World} {g T:Nat} {cur:Array Value} (s:ByteArray) (y:Int) (hb:Blk w g cur T) (hc:cur.size=2):
  ∃w',(storeVar 85 ⟨g,0,none⟩ (.agg #[.string s,.int .i64 y])).run Tryz.prog w= .ok () w'∧Blk w' g #[.string s,.int .i64 y] T∧Keeps [g] w w':=
 store_whole (P:= Tryz.prog) (ty:= 85) (cs:=[.string s,.int .i64 y]) size_entry hb (by rw[hc];rfl) (by intro u hu;simp only[List.mem_cons,List.not_mem_nil,or_false] at hu;rcases hu with rfl|rfl<;>rfl)
set_option maxRecDepth 100000 in
set_option maxHeartbeats 4000000 in
theorem belowOf_at {w:World} {b:Nat} {T:List (Ino×Value)} (HG:Hid (∀x wx,Keeps [] w wx→Calls Tryz.prog 10 #[.pointer (some ⟨b,0,none⟩),.int .i64 x] wx λe w'=>∃n v g a c cap r,e= .returned (.tuple #[.agg (inoC n v),.slice a c cap,.int .i64 r])∧n.B.length=13∧EReads w' v g n.E∧wx.heap.size≤g∧n.E.map (·.2)=succL T x∧Keeps [] wx w')) (hN:TabN T) (d i:Int):
  Calls Tryz.prog 65 #[.pointer (some ⟨b,0,none⟩),.int .i64 d,.int .i64 i] w (BelowPost w (Reach T d i)):=by
 have HBL:Hid (∀R k,BInv T d i R k→R.length≤33):=λR k hb=>hb.len hN
 obtain⟨i0,hi,hy0,hy1,hy2⟩:=info_parts Tryz.info_int
 have HST:Hid ((w.alloc (.cells #[.int .i64 d] 3)).ownsRow w.heap.size 3 1 (.slice (some ⟨w.heap.size,0,none⟩) 1 1) 1 (zs [d])):=
  ⟨rfl,.inr ⟨w.heap.size,1,#[.int .i64 d],rfl,Nat.le_refl _,Blk.new w _ _,Nat.le_refl _,by unfold maxLen;omega,rfl,rfl⟩⟩
 have HB0:=Lib.hid (BInv.start T d i)
 have HLE:Hid (∀R k,BInv T d i R k→k≤R.length):=λR k h1=>h1.le
 have HFN:Hid (∀R k x,BInv T d i R k→R[k]? =some x→x=i→Reach T d i):=λR k x h1 h2 h3=>h1.found h2 h3
 have HEN:Hid (∀R k,BInv T d i R k→k=R.length→¬Reach T d i):=λR k h1 h2=>h1.ended h2
 have HMO:Hid (∀R k x y,BInv T d i R k→R[k]? =some x→y∈succL T x→y∉R→BInv T d i (R++[y]) k∧(R++[y])[k]? =some x):=λR k x y h1 h2 h3 h4=>h1.more h2 h3 h4
 have HNX:Hid (∀R k x,BInv T d i R k→R[k]? =some x→x≠i→(∀y∈succL T x,y∈R)→BInv T d i R (k+1)):=λR k x h1 h2 h3 h4=>h1.next h2 h3 h4
 have HBP:Hid (∀r w',(r=true↔Reach T d i)→Keeps [] w w'→BelowPost w (Reach T d i) (.returned (.bool r)) w'):=λr w' h1 h2=>⟨r,rfl,h1,h2⟩
 have hzv:=zero_ino
 obtain⟨Z0,hZ0⟩:∃Z0,inoC inoZ (.slice none 0 0)=Z0:=⟨_,rfl⟩
 have HZZ:Hid (Z0.size=18):=by show _=_;rw[←hZ0];rfl
 rw[hZ0] at hzv
 have hze:=zero_entry9
 clear hZ0 hN
 generalize hRe:Reach T d i=pR at *
 generalize hbi:BInv T d i=bI at *
 generalize succL T=sL at *
 clear hRe hbi
 go_enter Tryz.func65,Tryz.ntmps65
 go_wp2_with fail
 go_loopg [7,8] 33 (λgh s7 s8 wz=>∃(R:List Int) (k:Nat),s8= .int .i64 (k:Int)∧k+gh=33∧Hid (bI R k∧wz.ownsRow w.heap.size 3 1 s7 R.length (zs R)∧Keeps [] w wz∧R≠[]))
 case atStart=>exact⟨[d],0,rfl,rfl,HB0.out,HST.out,(Keeps.refl _ _).alloc _,by simp⟩
 case round=>
  clear HST HB0
  obtain⟨R,k,rfl,hk,HP⟩:=hrel
  obtain⟨gR,ho,hgR⟩:=Owns.of_row HP.out.2.1
  have hne:R.length≠0:=λe=>HP.out.2.2.2 (List.eq_nil_of_length_eq_zero e)
  obtain⟨hlt,⟨cR,rfl,hcR,hcm⟩,hcell,hfz⟩:=ho.cell hne
  have hR33:=HBL.out R k HP.out.1
  have hgw:=(hgR hne).1
  by_cases hkl:k<R.length
  ·obtain⟨gg,rfl⟩:∃gg,gk=gg+1:=⟨gk-1,by omega⟩
   have hx:R[k]? =some (R.getD k 0):=by rw[List.getD_eq_getElem?_getD,List.getElem?_eq_getElem hkl];rfl
   have c0:wr.cell? ⟨gR,k,none⟩=some (.int .i64 (R.getD k 0)):=by rw[hcell k (by omega),zs_getD hkl]
   have HX:=Lib.hid hx
   clear hx hcell hfz ho hgR
   generalize R.getD k 0=x at *
   by_cases hxi:x=i
   ·have HFR:=Lib.hid (HFN.out R k x HP.out.1 HX.out hxi)
    have HKP:=Lib.hid HP.out.2.2.1
    have hxb:(x==i)=true:=by rw[hxi];simp
    have hki:(k:Int)<(R.length:Int):=by omega
    have hk0:(0:Int)≤(k:Int):=by omega
    clear HP hxi HFN HEN HMO HNX HG HBL
    generalize R.length=q at *
    go_wp2_with fail
    go_ret
    exact HBP.out true _ ⟨λ_=>HFR.out,λ_=>rfl⟩ HKP.out
   ·have hxb:(x==i)=false:=by simpa using hxi
    have hki:(k:Int)<(R.length:Int):=by omega
    have hk0:(0:Int)≤(k:Int):=by omega
    have HGX:=Lib.hid (HG.out x wr HP.out.2.2.1)
    have HXI:=Lib.hid hxi
    clear hxi
    obtain⟨q,hq⟩:∃q,R.length=q:=⟨_,rfl⟩
    have HQ:=Lib.hid hq
    rw[hq] at hki hkl hR33 hne hcR
    rw[hq]
    clear hq
    go_wp2_with fail
    refine HGX.out.mono ?_;rintro e w3 ⟨n,v,g,a,c,cap,r,rfl,hB,hE,hg,hsu,hk3⟩
    have hkr:=HP.out.2.2.1
    have hz3:=hk3.size
    obtain⟨an,cn,hv,hcn,hmn,-⟩:=hE.open
    subst hv
    obtain⟨w4,p1,p2,p3⟩:=store_ino9 (n:=n) (v:= .slice an n.E.length cn) (Blk.new w3 Z0 37) HZZ.out hB rfl
    have hk4:Keeps [] w3 w4:=((Keeps.refl [] w3).alloc _).trans p3 (by intro x hx;rw[List.mem_singleton] at hx;omega)
    have hz4:=hk4.size
    have c17:w4.cell? ⟨w3.heap.size,17,none⟩=some (.slice an n.E.length cn):=by rw[p2.cell];exact(inoAt _ hB).f5
    have HS4:=Lib.hid p1
    have hown:=HP.out.2.1
    rw[HQ.out] at hown
    have HROW:=Lib.hid (ownsRow_keep (ownsRow_keep hown hk3 (by simp)) hk4 (by simp))
    have HEE:=Lib.hid (hE.keep hk4 (by simp))
    have HK4:=Lib.hid ((hkr.trans' hk3).trans' hk4)
    have HGG:Hid (gR<wr.heap.size∧wr.heap.size≤g∧gR<w4.heap.size∧w.heap.size≤gR):=⟨hlt,hg,by omega,hgw⟩
    have HSU:=Lib.hid hsu
    have HBI:=Lib.hid HP.out.1
    have hmE:n.E.length≤9223372036854775807:=by unfold maxLen at hmn;omega
    clear p1 p2 p3 hk3 hk4 hE hg hsu HP hkr hz3 hz4 hown HGX hlt hgw hmn hcm hcR
    generalize inoC n (.slice an n.E.length cn)=ZN at *
    obtain⟨mE,hm⟩:∃mE,n.E.length=mE:=⟨_,rfl⟩
    have HME:=Lib.hid hm
    rw[hm] at c17 HEE hmE
    clear hm
    go_wp2_with((with_reducible show wpList _ _ _ (⟨_,.store 37 (.tmp 9) (.tmp 35),_,_,_,_⟩::_) _ _);refine wpList_store_any rfl 37 (.tmp 9) (.tmp 35) rfl _ rfl _ rfl _ HS4.out ?_)
    clear c17
    go_loopg [7,41] mE (λgh s7 s41 wz=>∃(R':List Int) (j:Nat),s41= .int .i64 (j:Int)∧j+gh=mE∧Hid (bI R' k∧R'[k]? =some x∧(∀t,t<j→eno n.E t∈R')∧wz.ownsRow w.heap.size 3 1 s7 R'.length (zs R')∧Keeps [] w wz∧Keeps [gR] w4 wz∧(∀kk,s7.ownBlock=some kk→kk=gR∨w4.heap.size≤kk)∧R'≠[]))
    case atStart=>exact⟨R,0,rfl,by omega,HBI.out,HX.out,(λt ht=>by omega),(by rw[HQ.out];exact HROW.out),HK4.out,Keeps.refl _ _,(λkk e=>by simp[Value.ownBlock] at e;exact .inl e.symm),(λe=>hne (by rw[←HQ.out,e];rfl))⟩
    case round=>
     clear HROW HBI hkl hki hne
     obtain⟨R',j,rfl,hj,HP⟩:=hrel
     obtain⟨q1,q2,q3,q4,q5,q6,q7,q8⟩:=HP.out
     have hR2:=HBL.out _ _ q1
     cases gk with
     |zero=>
      obtain rfl:j=mE:=by omega
      have HFI:Hid (bI R' (k+1)):=HNX.out R' k x q1 q2 HXI.out (λy hy=>by
       rw[←HSU.out] at hy
       obtain⟨t,ht,e⟩:=List.getElem_of_mem hy
       rw[List.length_map] at ht
       have :=q3 t (by rw[←HME.out];exact ht)
       rw[List.getElem_map] at e
       rwa[show eno n.E t=y by rw[←e];simp[eno,List.getD_eq_getElem?_getD,ht]] at this)
      have HRO:=Lib.hid (And.intro q4 (And.intro q5 q8))
      clear HP q1 q2 q3 q4 q5 q6 q7 q8
      go_wp2_with fail
      go_roundg gg
      case measure=>omega
      case rel=>exact⟨R',k+1,by go_num,by omega,HFI.out,HRO.out.1,HRO.out.2.1,HRO.out.2.2⟩
     |succ g2=>
      have hjm:j<mE:=by omega
      have hji:(j:Int)<(mE:Int):=by omega
      have hj0:(0:Int)≤(j:Int):=by omega
      obtain⟨gR2,ho2,hgR2⟩:=Owns.of_row q4
      have hne2:R'.length≠0:=λe=>q8 (List.eq_nil_of_length_eq_zero e)
      obtain⟨hlt2,⟨cR2,hv2,hcR2,hcm2⟩,-,-⟩:=ho2.cell hne2
      subst hv2
      have hEj:=HEE.out
      rw[←HME.out] at hEj hjm
      obtain⟨ax,cx,hvx,hcx,hmx,HEX⟩:=hEj.open
      injection hvx with e1 e2 e3
      subst e1 e3
      obtain⟨hgl,off,rfl,d1,d2⟩:=HEX.out j hjm
      rw[HME.out] at hjm
      have hgne:g∉[gR]:=by have :=HGG.out;rw[List.mem_singleton];omega
      have HEI:Hid ((loadVar 85 ⟨g,off+j*2,none⟩).run Tryz.prog wr= .ok (.agg #[.string (enm n.E j),.int .i64 (eno n.E j)]) wr):=
       load_entry ((World.cell?_of_block (w:=w4) (a:=⟨g,off+j*2,none⟩) (q6.block g hgl hgne)).trans d1) ((World.cell?_of_block (w:=w4) (a:=⟨g,off+j*2+1,none⟩) (q6.block g hgl hgne)).trans d2)
      have hyS:eno n.E j∈sL x:=by
       rw[←HSU.out]
       have h1:j<n.E.length:=by rw[HME.out];exact hjm
       refine List.mem_map.2 ⟨n.E[j],List.getElem_mem h1,?_⟩
       simp[eno,List.getD_eq_getElem?_getD,h1]
      obtain⟨w6,p1,p2,p3⟩:=store_entry9 (enm n.E j) (eno n.E j) (Blk.new wr #[.string ⟨#[]⟩,.int .i64 0] 85) rfl
      have hk6:Keeps [] wr w6:=((Keeps.refl [] wr).alloc _).trans p3 (by intro x hx;rw[List.mem_singleton] at hx;omega)
      have c1:w6.cell? ⟨wr.heap.size,1,none⟩=some (.int .i64 (eno n.E j)):=by rw[p2.cell];rfl
      have HS6:=Lib.hid p1
      have q4':=ownsRow_keep q4 hk6 (by simp)
      have HRD:Hid (Reads w6 (.slice (some ⟨gR2,0,none⟩) R'.length cR2) gR2 (zs R')):=ho2.reads.keep hk6 (by simp)
      have HCO:=Lib.hid (contains_at (eno n.E j) HRD.out)
      have HO6:=Lib.hid q4'
      have hz6:=hk6.size
      have HQQ:Hid (bI R' k∧R'[k]? =some x∧(∀t,t<j→eno n.E t∈R')∧Keeps [] w w6∧Keeps [gR] w4 w6∧R'≠[]∧(gR2=gR∨w4.heap.size≤gR2)∧w4.heap.size≤w6.heap.size∧gR2<w6.heap.size):=⟨q1,q2,q3,q5.trans' hk6,q6.trans hk6 (by simp),q8,q7 _ rfl,by have :=q6.size;omega,by omega⟩
      have HYS:=Lib.hid hyS
      clear p1 p2 p3 hk6 q1 q2 q3 q4 q5 q6 q7 q8 q4' hyS d1 d2 hgl hgne HEX hcx hmx hEj HP ho2 hgR2 hlt2 hcm2 hz6
      obtain⟨y,hy⟩:∃y,eno n.E j=y:=⟨_,rfl⟩
      have HYE:=Lib.hid hy
      rw[hy] at HEI HS6 c1 HCO HYS
      clear hy
      obtain⟨sN,hsN⟩:∃sN,enm n.E j=sN:=⟨_,rfl⟩
      rw[hsN] at HEI HS6
      clear hsN
      go_wp2_with(first|((with_reducible show wpList _ _ _ (⟨_,.load 85 (.tmp 43),_,_,_,_⟩::_) _ _);refine wpList_load_any rfl 85 (.tmp 43) rfl _ rfl _ HEI.out ?_)|((with_reducible show wpList _ _ _ (⟨_,.store 85 (.tmp 13) (.tmp 44),_,_,_,_⟩::_) _ _);refine wpList_store_any rfl 85 (.tmp 13) (.tmp 44) rfl _ rfl _ rfl _ HS6.out ?_))
      refine HCO.out.mono ?_;rintro e w' ⟨rfl,rfl⟩
      by_cases hin:y∈R'
      ·have hd:decide (y∈R')=true:=decide_eq_true hin
       rw[hd]
       have HIN:=Lib.hid hin
       clear hd hin HCO HEI HS6
       go_wp2_with fail
       go_roundg g2
       case measure=>omega
       case rel=>exact⟨R',j+1,by go_num,by omega,HQQ.out.1,HQQ.out.2.1,(λt ht=>by
         by_cases e:t=j
         ·rw[e,HYE.out];exact HIN.out
         ·exact HQQ.out.2.2.1 t (by omega)),HO6.out,HQQ.out.2.2.2.1,HQQ.out.2.2.2.2.1,(λkk e=>by simp[Value.ownBlock] at e;rw[←e];exact HQQ.out.2.2.2.2.2.2.1),HQQ.out.2.2.2.2.2.1⟩
      ·have hd:decide (y∈R')=false:=decide_eq_false hin
       rw[hd]
       obtain⟨m1,m2⟩:=HMO.out R' k x y HQQ.out.1 HQQ.out.2.1 HYS.out hin
       have hb7:=Blk.new w6 #[.int .i64 y] 3
       have h33:R'.length≤33:=hR2
       obtain⟨v',w8,hr,ho8,hg8⟩:=run_append_any (P:= Tryz.prog) 40 3 40 i0 _ 1 8 Tryz.underlying40 hi hy0 hy1 hy2 rfl (by omega) w.heap.size R'.length _ _ (HO6.out.alloc (.cells #[.int .i64 y] 3)) (some ⟨w6.heap.size,0,none⟩) 1 1 [.int .i64 y] rfl (λ_=>⟨_,rfl,new_cells _ [_] _ _ rfl⟩) (by simp[Value.oneCell']) (by unfold maxLen;omega) (by omega) (by have h1:=HGG.out;have h2:=HQQ.out;simp;omega)
       have hblk:=append_block (P:= Tryz.prog) w.heap.size 40 40 3 i0 _ 1 8 Tryz.underlying40 hi hy0 hy1 hy2 (by omega) gR2 R'.length cR2 _ (HO6.out.alloc (.cells #[.int .i64 y] 3)) ⟨w6.heap.size,0,none⟩ 1 1 [.int .i64 y] rfl (new_cells _ [_] _ _ rfl) (by simp[Value.oneCell']) (by unfold maxLen;omega) (by omega) hr
       have hk8:Keeps [gR2] w6 w8:=((Keeps.refl [gR2] w6).alloc (.cells #[.int .i64 y] 3)).trans (Keeps.of_grown (l:=[gR2]) hg8 (λkk e=>by simp[Value.ownBlock] at e;exact .inl (by simp[e]))) (λz hz=> .inl hz)
       have HN:Hid (bI (R'++[y]) k∧(R'++[y])[k]? =some x∧(∀t,t<j+1→eno n.E t∈R'++[y])∧w8.ownsRow w.heap.size 3 1 v' (R'++[y]).length (zs (R'++[y]))∧Keeps [] w w8∧Keeps [gR] w4 w8∧(∀kk,v'.ownBlock=some kk→kk=gR∨w4.heap.size≤kk)∧R'++[y]≠[]):=by
        obtain⟨a1,a2,a3,a4,a5,a6,a7,a8,a9⟩:=HQQ.out
        have h1:=HGG.out
        refine⟨m1,m2,λt ht=> ?_,?_,a4.trans hk8 (λz hz=>by rw[List.mem_singleton] at hz;right;omega),a5.trans hk8 (λz hz=>by rw[List.mem_singleton] at hz;subst hz;rcases a7 with e|e;exact .inl (by simp[e]);exact .inr e),λkk e=> ?_,by simp⟩
        ·by_cases e:t=j
         ·rw[e,HYE.out];simp
         ·have :=a3 t (by omega);simp[this]
        ·rw[List.length_append,zs_append]
         exact ho8
        ·rcases hblk with e2|e2
         ·rw[e2] at e;injection e with e;rw[←e];exact a7
         ·rw[e2] at e;injection e with e;rw[←e];right;simp;omega
       clear hd hin HCO HEI HS6 m1 m2 hb7 ho8 hg8 hblk hk8
       generalize R'.length=q' at *
       go_wp2_with(at_builtin;refine wpList_append_run rfl (.tmp 50) (.tmp 53) 40 40 ?_ (.slice (some ⟨gR2,0,none⟩) q' cR2) (.slice (some ⟨w6.heap.size,0,none⟩) 1 1) ?_ ?_ hr ?_;all_goals first|rfl|skip)
       go_roundg g2
       case measure=>omega
       case rel=>exact⟨R'++[y],j+1,by go_num,by omega,HN.out⟩
  ·have hki:¬(k:Int)<(R.length:Int):=by omega
   have hkR:k=R.length:=by
    have h1:=HP.out.1
    have h2:k≤R.length:=HLE.out R k h1
    omega
   have HNO:=Lib.hid (HEN.out R k HP.out.1 hkR)
   have HKP:=Lib.hid HP.out.2.2.1
   clear HP HFN HEN HMO HNX HG HBL hkR hcell hfz ho hgR
   generalize R.length=q at *
   go_wp2_with fail
   go_ret
   exact HBP.out false _ ⟨(λh=>by cases h),λh=>absurd h HNO.out⟩ HKP.out
def usedB (X:List Int) (b:Int):Bool:=if isBl b=true then usedN X b.toNat else true
set_option maxHeartbeats 1000000 in
theorem paUsed_at {w:World} {b gp:Nat} {B:List Int} {ps:List (Int×Int)} (h:ShAt w b gp B ps) (h64:In64 (putAll B ps)) (i:Int):
  Calls Tryz.prog 67 #[.pointer (some ⟨b,0,none⟩),.int .i64 i] w λe w'=>e= .returned (.bool (usedB (putAll B ps) i))∧w=w':=by
 have HI:=Lib.hid (paIsBlock_at i w)
 unfold usedB
 cases hi:isBl i
 ·rw[hi] at HI
  rw[if_neg (by simp)]
  clear hi h
  go_enter Tryz.func67,Tryz.ntmps67
  go_wp2_with(go_at_call 36;refine HI.out.mono ?_;rintro e w' ⟨rfl,rfl⟩)
  go_ret
  exact⟨rfl,rfl⟩
 ·rw[hi] at HI
  rw[if_pos rfl]
  obtain⟨h0,h1⟩:=isBl_iff.1 hi
  clear hi
  obtain⟨j,rfl⟩:=Int.eq_ofNat_of_zero_le h0
  have hj:j<256:=by omega
  rw[Int.toNat_natCast]
  have HB:=Lib.hid (paBitsOf_at j hj w)
  have HM:=Lib.hid (paMaskOf_at j hj w)
  have HG:=Lib.hid (txGet_at h ((816+j/64:Nat):Int))
  rw[getN_bits h64 (j/64) (by omega)] at HG
  have ha:=u64_and_nat (bw (putAll B ps) (j/64)) (mskN j) (bw_lt h64 _) (mskN_lt j)
  have he:((((bw (putAll B ps) (j/64) &&& mskN j:Nat):Int)) != 0)=usedN (putAll B ps) j:=by
   have :=and_mskN (bw (putAll B ps) (j/64)) j
   unfold usedN
   rw[Bool.eq_iff_iff,←this]
   simp
  generalize bw (putAll B ps) (j/64) &&& mskN j=y at *
  generalize bw (putAll B ps) (j/64)=x at *
  generalize mskN j=m at *
  generalize usedN (putAll B ps) j=u at *
  clear h h64
  go_enter Tryz.func67,Tryz.ntmps67
  go_wp2_with fail
  refine HI.out.mono ?_;rintro e w' ⟨rfl,rfl⟩
  go_wp2_with fail
  refine HB.out.mono ?_;rintro e w' ⟨rfl,rfl⟩
  go_wp2_with fail
  refine HG.out.mono ?_;rintro e w' ⟨rfl,rfl⟩
  go_wp2_with fail
  refine HM.out.mono ?_;rintro e w' ⟨rfl,rfl⟩
  go_wp2_with fail
  go_ret
  exact⟨rfl,rfl⟩
structure Gots (X:List Int) (T:List (Ino×Value)) (own:Nat→List Nat):Prop where
 len:T.length=32
 each:∀i:Nat,i<32→StoreP X (i:Int) (nT T i) (own i)∨((∀n o,¬StoreP X (i:Int) n o)∧nT T i=inoZ∧own i=[])
theorem gots_ex (X:List Int):∃T own,Gots X T own:=by
 have h:∀i:Nat,∃p:Ino×List Nat,StoreP X (i:Int) p.1 p.2∨((∀n o,¬StoreP X (i:Int) n o)∧p.1=inoZ∧p.2=[]):=λi=>by
  by_cases h:∃p:Ino×List Nat,StoreP X (i:Int) p.1 p.2
  ·obtain⟨p,hp⟩:=h
   exact⟨p,.inl hp⟩
  ·exact⟨(inoZ,[]),.inr ⟨λn o hs=>h ⟨(n,o),hs⟩,rfl,rfl⟩⟩
 obtain⟨f,hf⟩:=Classical.axiomOfChoice h
 refine⟨(List.range 32).map λi=>((f i).1,.slice none 0 0),λi=>(f i).2,by simp,λi hi=> ?_⟩
 have e:nT ((List.range 32).map λi=>((f i).1,Value.slice none 0 0)) i=(f i).1:=by
  unfold nT
  rw[List.getD_eq_getElem?_getD,List.getElem?_map,List.getElem?_range hi]
  rfl
 rw[e]
 exact hf i
theorem stored_F {X:List Int} {i:Int} {n:Ino} {o:List Nat} (h:StoreP X i n o):n.F=1∨n.F=2:=h.right.1
theorem Gots.zero {X:List Int} {T:List (Ino×Value)} {own:Nat→List Nat} (h:Gots X T own) {i:Nat} (hi:32≤i):nT T i=inoZ:=by
 unfold nT
 rw[List.getD_eq_getElem?_getD,List.getElem?_eq_none (by rw[h.len];omega)]
 rfl
theorem Gots.form {X:List Int} {T:List (Ino×Value)} {own:Nat→List Nat} (h:Gots X T own) (i:Nat):((nT T i).F≠0∧i<32∧StoreP X (i:Int) (nT T i) (own i))∨((nT T i).F=0∧nT T i=inoZ∧(i<32→own i=[]∧∀n o,¬StoreP X (i:Int) n o)):=by
 rcases Nat.lt_or_ge i 32 with hi|hi
 ·rcases h.each i hi with h1|⟨h1,h2,h3⟩
  ·exact .inl ⟨by have :=stored_F h1;omega,hi,h1⟩
  ·exact .inr ⟨by rw[h2];rfl,h2,λ_=>⟨h3,h1⟩⟩
 ·have :=h.zero hi
  exact .inr ⟨by rw[this];rfl,this,λh=>by omega⟩
theorem Gots.tabS {X:List Int} {T:List (Ino×Value)} {own:Nat→List Nat} (h:Gots X T own):TabS T:=λi hi=>by
 rcases h.form i with ⟨h1,-⟩|⟨-,h2,-⟩
 ·exact absurd hi h1
 ·rw[h2];rfl
theorem Gots.tabR {X:List Int} {T:List (Ino×Value)} {own:Nat→List Nat} (h:Gots X T own):TabR T:=λi hi hf=>by
 rcases h.form i with ⟨-,-,h1⟩|⟨h1,-⟩
 ·exact h1.right
 ·omega
theorem Gots.tabN {X:List Int} {T:List (Ino×Value)} {own:Nat→List Nat} (h:Gots X T own):TabN T:=tab_n h.tabS h.tabR λi hi=>by
 rcases h.form i with ⟨-,-,h1⟩|⟨h1,-⟩
 ·have :=stored_F h1;omega
 ·omega
theorem Gots.get {X:List Int} {T:List (Ino×Value)} {own:Nat→List Nat} (h:Gots X T own) {i:Nat} (hi:i<32) {n:Ino} {o:List Nat} {r:Int} (hg:GetR X (i:Int) n o r):
  n=nT T i∧o=own i∧((r=0∧(nT T i).F≠0)∨(r=2∧(nT T i).F=0∧FreeP X (i:Int))∨(r=10∧(nT T i).F=0∧¬FreeP X (i:Int))):=by
 rcases hg with ⟨-,g1,-⟩|⟨g0,-,g2,g3,g4⟩|⟨g0,-,g2,g3,g4,g5⟩|⟨g0,g1⟩
 ·omega
 ·rcases h.form i with ⟨-,-,e⟩|⟨e1,e2,e3⟩
  ·exact absurd g2 e.notFree
  ·exact⟨by rw[g3,e2],by rw[g4,(e3 hi).1],.inr (.inl ⟨g0,e1,g2⟩)⟩
 ·rcases h.form i with ⟨-,-,e⟩|⟨e1,e2,e3⟩
  ·exact absurd e (g3 _ _)
  ·exact⟨by rw[g4,e2],by rw[g5,(e3 hi).1],.inr (.inr ⟨g0,e1,g2⟩)⟩
 ·rcases h.form i with ⟨e0,-,e⟩|⟨e1,e2,e3⟩
  ·obtain⟨rfl,rfl⟩:=e.uniq g1
   exact⟨rfl,rfl,.inl ⟨g0,e0⟩⟩
  ·exact absurd g1 ((e3 hi).2 _ _)
theorem Gots.succ {X:List Int} {T:List (Ino×Value)} {own:Nat→List Nat} (h:Gots X T own) {x:Int} {n:Ino} {o:List Nat} {r:Int} (hg:GetR X x n o r):n.E.map (·.2)=succL T x:=by
 unfold succL
 by_cases hx:0≤x∧x<32
 ·obtain⟨j,rfl⟩:=Int.eq_ofNat_of_zero_le hx.1
  rw[if_pos hx,(h.get (i:=j) (by omega) hg).1]
  rfl
 ·rw[if_neg hx]
  rcases hg with ⟨-,-,g3,-⟩|⟨-,g1,-⟩|⟨-,g1,-⟩|⟨-,g1⟩
  ·rw[g3];rfl
  ·exact absurd g1 hx
  ·exact absurd g1 hx
  ·exact absurd g1.rng hx
theorem Gots.elen {X:List Int} {T:List (Ino×Value)} {own:Nat→List Nat} (h:Gots X T own) (i:Nat):(nT T i).E.length≤24:=by
 rcases h.form i with ⟨-,-,h1⟩|⟨-,h1,-⟩
 ·exact(blocks_le h1.right).1
 ·rw[h1];exact Nat.zero_le _
def ledE (E:List (ByteArray×Int)) (j i:Nat):Nat:=(E.take j).countP λe=>e.2==(i:Int)
theorem ledE_le (E:List (ByteArray×Int)) (j i:Nat):ledE E j i≤j:=
 Nat.le_trans List.countP_le_length (by rw[List.length_take];omega)
theorem ledE_zero (E:List (ByteArray×Int)) (i:Nat):ledE E 0 i=0:=by simp[ledE]
theorem ledE_succ {E:List (ByteArray×Int)} {j:Nat} (hj:j<E.length) (i:Nat):ledE E (j+1) i=ledE E j i+if eno E j=(i:Int) then 1 else 0:=by
 unfold ledE
 rw[List.take_succ_eq_append_getElem hj,List.countP_append,List.countP_singleton]
 have :eno E j=E[j].2:=by simp[eno,List.getD_eq_getElem?_getD,hj]
 rw[this]
 by_cases h:E[j].2=(i:Int)<;>simp[h]
def ledTo (T:List (Ino×Value)):Nat→Nat→Nat
 |0,_=>0
 |k+1,i=>ledTo T k i+ledE (nT T k).E (nT T k).E.length i
def ledT (T:List (Ino×Value)) (i:Nat):Nat:=ledTo T 32 i
def gotTo (T:List (Ino×Value)):Nat→List (Nat×Ino)
 |0=>[]
 |k+1=>gotTo T k++if (nT T k).F=0 then [] else [(k,nT T k)]
def ledL:List (Nat×Ino)→Nat→Nat
 | [],_=>0
 |p::l,i=>ledE p.2.E p.2.E.length i+ledL l i
theorem ledL_append (l m:List (Nat×Ino)) (i:Nat):ledL (l++m) i=ledL l i+ledL m i:=by
 induction l with
 |nil=>simp[ledL]
 |cons p l ih=>simp[ledL,ih];omega
theorem ledL_got {T:List (Ino×Value)} (hS:TabS T) (k i:Nat):ledL (gotTo T k) i=ledTo T k i:=by
 induction k with
 |zero=>rfl
 |succ k ih=>
  unfold gotTo ledTo
  rw[ledL_append,ih]
  by_cases h:(nT T k).F=0
  ·rw[if_pos h,hS k h];rfl
  ·rw[if_neg h];simp[ledL]
theorem gotTo_mem {T:List (Ino×Value)} {k:Nat} {p:Nat×Ino}:p∈gotTo T k↔p.1<k∧p.2=nT T p.1∧p.2.F≠0:=by
 induction k with
 |zero=>simp[gotTo]
 |succ k ih=>
  unfold gotTo
  rw[List.mem_append,ih]
  constructor
  ·rintro (⟨h1,h2,h3⟩|h)
   ·exact⟨by omega,h2,h3⟩
   ·split at h
    ·simp at h
    ·next hF=>
     rw[List.mem_singleton] at h
     subst h
     exact⟨by show k<_;omega,rfl,hF⟩
  ·rintro⟨h1,h2,h3⟩
   by_cases e:p.1=k
   ·right
    rw[if_neg (by rw[←e,←h2];exact h3),List.mem_singleton]
    obtain⟨a,c⟩:=p
    cases e
    exact congrArg (Prod.mk a) h2
   ·exact .inl ⟨by omega,h2,h3⟩
def superOk (X:List Int):Prop:=
 X.getD 0 0=7596835243318849792∧(X.getD 1 0=1∨X.getD 1 0=2)∧X.getD 2 0≤32∧(∀i:Nat,3≤i→i<8→X.getD i 0=0)∧∀i:Nat,820≤i→i<824→X.getD i 0=0
def allGotP (X:List Int) (T:List (Ino×Value)):Prop:=∀i:Nat,i<32→FreeP X (i:Int)∨(nT T i).F≠0
def leadP (X:List Int) (T:List (Ino×Value)):Prop:=(nT T 0).K=2∧∀i:Nat,i<32→0<ledT T i→¬FreeP X (i:Int)
def LinkP (i:Nat) (n:Ino) (c:Nat):Prop:=(n.K=1→(c:Int)=n.L∧1≤c)∧(n.K=2→n.L=1∧(i=0→c=0)∧(i≠0→c=1))
def linksP (T:List (Ino×Value)):Prop:=∀i:Nat,i<32→LinkP i (nT T i) (ledT T i)
def reachP (X:List Int) (T:List (Ino×Value)):Prop:=∀i:Nat,i<32→¬FreeP X (i:Int)→Reach T 0 (i:Int)
def metTo (T:List (Ino×Value)) (own:Nat→List Nat):Nat→Nat→Nat
 |0,_=>0
 |k+1,b=>metTo T own k b+(own k++filesL (nT T k)).count b
def metT (T:List (Ino×Value)) (own:Nat→List Nat) (b:Nat):Nat:=metTo T own 32 b
def onceP (X:List Int) (T:List (Ino×Value)) (own:Nat→List Nat):Prop:=∀b:Nat,b<256→metT T own b≤1∧(usedN X b=true↔metT T own b=1)
def tailP (X:List Int) (n:Ino):Prop:=n.K=1→∀k:Nat,k<13→n.B.getD k 0≠0→∀j:Nat,j<64→n.S≤64*(k:Int)+j→byt (X.getD (1080+8*(n.B.getD k 0).toNat+j/8) 0).toNat (j%8)=0
def tailsP (X:List Int) (T:List (Ino×Value)):Prop:=∀i:Nat,i<32→tailP X (nT T i)
def PointP (X:List Int) (T:List (Ino×Value)) (own:Nat→List Nat):Nat→Prop
 |0=>superOk X
 |1=>allGotP X T
 |2=>leadP X T
 |3=>linksP T
 |4=>reachP X T
 |5=>onceP X T own
 |6=>tailsP X T
 |_=>True
def FirstP (P:Nat→Prop) (k:Nat):Prop:=(k=0∧∀j,j<7→P j)∨(0<k∧k≤7∧¬P (k-1)∧∀j,j<k-1→P j)
theorem FirstP.uniq {P:Nat→Prop} {k k':Nat} (h:FirstP P k) (h':FirstP P k'):k=k':=by
 rcases h with ⟨rfl,h2⟩|⟨h0,h1,h2,h3⟩
 ·rcases h' with ⟨rfl,-⟩|⟨g0,g1,g2,-⟩
  ·rfl
  ·exact absurd (h2 _ (by omega)) g2
 ·rcases h' with ⟨rfl,g2⟩|⟨g0,g1,g2,g3⟩
  ·exact absurd (g2 _ (by omega)) h2
  ·rcases Nat.lt_trichotomy k k' with e|e|e
   ·exact absurd (g3 (k-1) (by omega)) h2
   ·exact e
   ·exact absurd (h3 (k'-1) (by omega)) g2
theorem tail_last {X:List Int} {n:Ino} (hB:n.B.length=13) (hR:RightP n) (hK:n.K=1):tailP X n↔(n.S%64≠0→n.B.getD (n.S/64).toNat 0≠0→∀j:Nat,n.S%64≤(j:Int)→j<64→byt (X.getD (1080+8*(n.B.getD (n.S/64).toNat 0).toNat+j/8) 0).toNat (j%8)=0):=by
 have hS:0≤n.S∧n.S≤832:=by
  rcases hR.2.2 with h|h
  ·exact h.2.1
  ·omega
 have hnum:=right_num hB hR
 constructor
 ·intro h h0 hb j hj hj64
  refine h hK (n.S/64).toNat (by omega) hb j hj64 ?_
  omega
 ·intro h _ k hk hb j hj hle
  have h1:=(hnum k hk).2 (by have :=(hnum k hk).1;omega)
  have h2:=h1.2.1
  have hk2:k=(n.S/64).toNat:=by omega
  subst hk2
  exact h (by omega) hb j (by omega) hj
set_option maxHeartbeats 2000000 in
theorem linked_at {n:Ino} (v:Value) (hB:n.B.length=13) (hK:n.K=1∨n.K=2) (i c:Nat) (w:World):
  Calls Tryz.prog 64 #[.int .i64 (i:Int),.agg (inoC n v),.int .i64 (c:Int)] w (BelowPost w (LinkP i n c)):=by
 have hb:=Blk.new w (inoC n v) 37
 have hk:=(Keeps.refl [] w).alloc (.cells (inoC n v) 37)
 have HP:Hid (∀r:Bool,(r=true↔((n.K=1→(c:Int)=n.L∧1≤c)∧(n.K=2→n.L=1∧(i=0→c=0)∧(i≠0→c=1))))→BelowPost w (LinkP i n c) (.returned (.bool r)) (w.alloc (.cells (inoC n v) 37))):=λr h=>⟨r,rfl,h,hk⟩
 have c1:(w.alloc (.cells (inoC n v) 37)).cell? ⟨w.heap.size,1,none⟩=some (.int .i64 n.K):=by rw[hb.cell];exact(inoAt v hB).f1
 have c2:(w.alloc (.cells (inoC n v) 37)).cell? ⟨w.heap.size,2,none⟩=some (.int .i64 n.L):=by rw[hb.cell];exact(inoAt v hB).f2
 clear hb hk
 generalize inoC n v=Z at *
 generalize LinkP i n c=pP at *
 generalize n.K=K at *
 generalize n.L=L at *
 obtain⟨ci,hci⟩:∃ci:Int,(c:Int)=ci:=⟨_,rfl⟩
 obtain⟨ii,hii⟩:∃ii:Int,(i:Int)=ii:=⟨_,rfl⟩
 have HCI:=Lib.hid hci
 have HII:=Lib.hid hii
 rw[hci,hii]
 rw[hci] at HP
 clear hci hii
 rcases hK with rfl|rfl
 ·by_cases e1:ci=L
  ·have b1:(ci==L)=true:=by simpa using e1
   by_cases e2:1≤ci
   ·have HF:=Lib.hid (HP.out true ⟨λ_=>⟨λ_=>⟨e1,by have :=HCI.out;omega⟩,λh=>by omega⟩,λ_=>rfl⟩)
    clear HP e1
    go_enter Tryz.func64,Tryz.ntmps64
    go_wp2_with fail
    go_ret
    exact HF.out
   ·have HF:=Lib.hid (HP.out false ⟨(λh=>by cases h),λh=>by have :=HCI.out;have :=(h.1 rfl).2;omega⟩)
    clear HP e1
    go_enter Tryz.func64,Tryz.ntmps64
    go_wp2_with fail
    go_ret
    exact HF.out
  ·have b1:(ci==L)=false:=by simpa using e1
   have HF:=Lib.hid (HP.out false ⟨(λh=>by cases h),λh=>absurd (h.1 rfl).1 e1⟩)
   clear HP e1
   go_enter Tryz.func64,Tryz.ntmps64
   go_wp2_with fail
   go_ret
   exact HF.out
 ·by_cases e0:ii=0
  ·subst e0
   by_cases e1:L=1
   ·subst e1
    by_cases e2:ci=0
    ·subst e2
     have HF:=Lib.hid (HP.out true ⟨λ_=>⟨λh=>by omega,λ_=>⟨rfl,λ_=>by have :=HCI.out;omega,λh=>by have :=HII.out;omega⟩⟩,λ_=>rfl⟩)
     clear HP
     go_enter Tryz.func64,Tryz.ntmps64
     go_wp2_with fail
     go_ret
     exact HF.out
    ·have b2:(ci==0)=false:=by simpa using e2
     have HF:=Lib.hid (HP.out false ⟨(λh=>by cases h),λh=>by have :=(h.2 rfl).2.1 (by have :=HII.out;omega);have :=HCI.out;omega⟩)
     clear HP e2
     go_enter Tryz.func64,Tryz.ntmps64
     go_wp2_with fail
     go_ret
     exact HF.out
   ·have b1:(L==1)=false:=by simpa using e1
    have HF:=Lib.hid (HP.out false ⟨(λh=>by cases h),λh=>absurd (h.2 rfl).1 e1⟩)
    clear HP e1
    go_enter Tryz.func64,Tryz.ntmps64
    go_wp2_with fail
    go_ret
    exact HF.out
  ·have b0:(ii==0)=false:=by simpa using e0
   by_cases e1:L=1
   ·subst e1
    by_cases e2:ci=1
    ·subst e2
     have HF:=Lib.hid (HP.out true ⟨λ_=>⟨λh=>by omega,λ_=>⟨rfl,λh=>by have :=HII.out;omega,λ_=>by have :=HCI.out;omega⟩⟩,λ_=>rfl⟩)
     clear HP e0
     go_enter Tryz.func64,Tryz.ntmps64
     go_wp2_with fail
     go_ret
     exact HF.out
    ·have b2:(ci==1)=false:=by simpa using e2
     have HF:=Lib.hid (HP.out false ⟨(λh=>by cases h),λh=>by have :=(h.2 rfl).2.2 (by have :=HII.out;omega);have :=HCI.out;omega⟩)
     clear HP e2 e0
     go_enter Tryz.func64,Tryz.ntmps64
     go_wp2_with fail
     go_ret
     exact HF.out
   ·have b1:(L==1)=false:=by simpa using e1
    have HF:=Lib.hid (HP.out false ⟨(λh=>by cases h),λh=>absurd (h.2 rfl).1 e1⟩)
    clear HP e1 e0
    go_enter Tryz.func64,Tryz.ntmps64
    go_wp2_with fail
    go_ret
    exact HF.out
def SupP (i:Int) (x:Int):Prop:=(i=0→x=7596835243318849792)∧(i=1→x=1∨x=2)∧(i=2→x≤32)∧(2<i→x=0)
def QuietPost (w:World) (p:Prop) (e:Ending) (w':World):Prop:=(∃r:Bool,e= .returned (.bool r)∧(r=true↔p))∧w=w'
set_option maxHeartbeats 2000000 in
theorem superRight_at (i x:Int) (hi:0≤i) (w:World):
  Calls Tryz.prog 63 #[.int .i64 i,.int .u64 x] w (QuietPost w (SupP i x)):=by
 have HP:Hid (∀r:Bool,(r=true↔((i=0→x=7596835243318849792)∧(i=1→x=1∨x=2)∧(i=2→x≤32)∧(2<i→x=0)))→QuietPost w (SupP i x) (.returned (.bool r)) w):=λr h=>⟨⟨r,rfl,h⟩,rfl⟩
 generalize SupP i x=pP at *
 by_cases e0:i=0
 ·subst e0
  by_cases e1:x=7596835243318849792
  ·have HF:=Lib.hid (HP.out true ⟨λ_=>⟨λ_=>e1,by omega,by omega,by omega⟩,λ_=>rfl⟩)
   have b1:(x==7596835243318849792)=true:=by simpa using e1
   clear HP e1
   go_enter Tryz.func63,Tryz.ntmps63
   go_wp2_with fail
   go_ret
   exact HF.out
  ·have HF:=Lib.hid (HP.out false ⟨(λh=>by cases h),λh=>absurd (h.1 rfl) e1⟩)
   have b1:(x==7596835243318849792)=false:=by simpa using e1
   clear HP e1
   go_enter Tryz.func63,Tryz.ntmps63
   go_wp2_with fail
   go_ret
   exact HF.out
 ·have b0:(i==0)=false:=by simpa using e0
  by_cases e1:i=1
  ·subst e1
   by_cases e2:x=1
   ·subst e2
    have HF:=Lib.hid (HP.out true ⟨λ_=>⟨by omega,λ_=> .inl rfl,by omega,by omega⟩,λ_=>rfl⟩)
    clear HP e0
    go_enter Tryz.func63,Tryz.ntmps63
    go_wp2_with fail
    go_ret
    exact HF.out
   ·have b2:(x==1)=false:=by simpa using e2
    by_cases e3:x=2
    ·subst e3
     have HF:=Lib.hid (HP.out true ⟨λ_=>⟨by omega,λ_=> .inr rfl,by omega,by omega⟩,λ_=>rfl⟩)
     clear HP e0 e2
     go_enter Tryz.func63,Tryz.ntmps63
     go_wp2_with fail
     go_ret
     exact HF.out
    ·have b3:(x==2)=false:=by simpa using e3
     have HF:=Lib.hid (HP.out false ⟨(λh=>by cases h),λh=>by have :=h.2.1 rfl;omega⟩)
     clear HP e0 e2 e3
     go_enter Tryz.func63,Tryz.ntmps63
     go_wp2_with fail
     go_ret
     exact HF.out
  ·have b1:(i==1)=false:=by simpa using e1
   by_cases e2:i=2
   ·subst e2
    by_cases e3:x≤32
    ·have HF:=Lib.hid (HP.out true ⟨λ_=>⟨by omega,by omega,λ_=>e3,by omega⟩,λ_=>rfl⟩)
     clear HP e0 e1
     go_enter Tryz.func63,Tryz.ntmps63
     go_wp2_with fail
     go_ret
     simpa[e3] using HF.out
    ·have HF:=Lib.hid (HP.out false ⟨(λh=>by cases h),λh=>absurd (h.2.2.1 rfl) e3⟩)
     clear HP e0 e1
     go_enter Tryz.func63,Tryz.ntmps63
     go_wp2_with fail
     go_ret
     simpa[e3] using HF.out
   ·have b2:(i==2)=false:=by simpa using e2
    by_cases e3:x=0
    ·subst e3
     have HF:=Lib.hid (HP.out true ⟨λ_=>⟨by omega,by omega,by omega,λ_=>rfl⟩,λ_=>rfl⟩)
     clear HP e0 e1 e2
     go_enter Tryz.func63,Tryz.ntmps63
     go_wp2_with fail
     go_ret
     exact HF.out
    ·have b3:(x==0)=false:=by simpa using e3
     have HF:=Lib.hid (HP.out false ⟨(λh=>by cases h),λh=>absurd (h.2.2.2 (by omega)) e3⟩)
     clear HP e0 e1 e2 e3
     go_enter Tryz.func63,Tryz.ntmps63
     go_wp2_with fail
     go_ret
     exact HF.out
structure SheetT (w:World) (b gp:Nat) (B:List Int) (ps:List (Int×Int)) (T:List (Ino×Value)) (own:Nat→List Nat):Prop where
 sh:ShAt w b gp B ps
 w64:In64 (putAll B ps)
 gots:Gots (putAll B ps) T own
 lt:b<w.heap.size∧gp<w.heap.size
theorem SheetT.keep {w w':World} {b gp:Nat} {B:List Int} {ps:List (Int×Int)} {T:List (Ino×Value)} {own:Nat→List Nat} (h:SheetT w b gp B ps T own) {l:List Nat} (hk:Keeps l w w') (hl:∀k∈l,w.heap.size≤k∨(k≠b∧k≠gp)):SheetT w' b gp B ps T own:=
 ⟨h.sh.keep hk (λhm=>by have :=hl _ hm;have :=h.lt;omega) (λhm=>by have :=hl _ hm;have :=h.lt;omega),h.w64,h.gots,by have :=h.lt;have :=hk.size;omega⟩
theorem SheetT.keep0 {w w':World} {b gp:Nat} {B:List Int} {ps:List (Int×Int)} {T:List (Ino×Value)} {own:Nat→List Nat} (h:SheetT w b gp B ps T own) (hk:Keeps [] w w'):SheetT w' b gp B ps T own:=h.keep hk (by simp)
def GotPost (w:World) (X:List Int) (T:List (Ino×Value)) (own:Nat→List Nat) (i:Nat) (e:Ending) (w':World):Prop:=
 ∃v g va ga r,e= .returned (.tuple #[.agg (inoC (nT T i) v),va,.int .i64 r])∧(nT T i).B.length=13∧EReads w' v g (nT T i).E∧w.heap.size≤g∧RowI w' va ga (own i)∧w.heap.size≤ga∧Keeps [] w w'∧
  ((r=0∧(nT T i).F≠0)∨(r=2∧(nT T i).F=0∧FreeP X (i:Int))∨(r=10∧(nT T i).F=0∧¬FreeP X (i:Int)))
theorem SheetT.get {w:World} {b gp:Nat} {B:List Int} {ps:List (Int×Int)} {T:List (Ino×Value)} {own:Nat→List Nat} (h:SheetT w b gp B ps T own) {i:Nat} (hi:i<32):
  Calls Tryz.prog 10 #[.pointer (some ⟨b,0,none⟩),.int .i64 (i:Int)] w (GotPost w (putAll B ps) T own i):=by
 refine(get_at h.sh h.w64 (i:Int)).mono ?_
 rintro e w' ⟨n,v,g,o,va,ga,r,rfl,hB,hE,hg,hO,hga,hk,hr⟩
 obtain⟨rfl,rfl,h3⟩:=h.gots.get hi hr
 exact⟨v,g,va,ga,r,rfl,hB,hE,hg,hO,hga,hk,h3⟩
theorem SheetT.below {w:World} {b gp:Nat} {B:List Int} {ps:List (Int×Int)} {T:List (Ino×Value)} {own:Nat→List Nat} (h:SheetT w b gp B ps T own) (d i:Int):
  Calls Tryz.prog 65 #[.pointer (some ⟨b,0,none⟩),.int .i64 d,.int .i64 i] w (BelowPost w (Reach T d i)):=
 belowOf_at (λx wx hk=>by
  refine(get_at (h.keep0 hk).sh h.w64 x).mono ?_
  rintro e w' ⟨n,v,g,o,va,ga,r,rfl,hB,hE,hg,hO,hga,hk,hr⟩
  obtain⟨a,cap,rfl,-,-,-⟩:=hO.reads
  exact⟨n,v,g,a,_,cap,r,rfl,hB,hE,hg,h.gots.succ hr,hk⟩) h.gots.tabN d i
theorem TabAtV.field {w:World} {g:Nat} {T:List (Ino×Value)} (h:TabAtV w g T) {i:Nat} (hi:i<32) {j:Nat} (hj:j<18):w.cell? ⟨g,i*18+j,none⟩=(inoC (nT T i) (vT T i))[j]? :=by
 rw[h.cell hi hj,inoC,List.getElem?_toArray]
set_option maxRecDepth 100000 in
set_option maxHeartbeats 4000000 in
theorem refCount_at {w:World} {T:List (Ino×Value)} (hok:TabOk T) (hlen:T.length=32) (hE:TabE w T) {m:Nat} (hm:∀i,(nT T i).E.length≤m) (hm40:m≤40) (i:Nat):
  Calls Tryz.prog 14 #[.agg (tabC T),.int .i64 (i:Int)] w λe w'=>e= .returned (.int .i64 (ledT T i:Int))∧Keeps [] w w':=by
 have HTV:Hid (TabAtV (w.alloc (.cells (tabC T) 39)) w.heap.size T):=⟨Blk.new w _ _,hok,hlen⟩
 have HK0:Hid (Keeps [] w (w.alloc (.cells (tabC T) 39))):=(Keeps.refl [] w).alloc _
 have HE:=Lib.hid hE
 have HM:=Lib.hid hm
 have HFE:Hid (∀c w',c=ledT T i→Keeps [] w w'→(Ending.returned (.int .i64 (c:Int)))= .returned (.int .i64 (ledT T i:Int))∧Keeps [] w w'):=λc w' h1 h2=>⟨by rw[h1],h2⟩
 have hsz:(w.alloc (.cells (tabC T) 39)).heap.size=w.heap.size+1:=World.size_alloc _ _
 have HSZ:=Lib.hid hsz
 obtain⟨w1,hw1⟩:∃w1,w.alloc (.cells (tabC T) 39)=w1:=⟨_,rfl⟩
 rw[hw1] at HTV HK0 HSZ
 have HW1:=Lib.hid hw1
 generalize tabC T=ZT at *
 clear hE hok hlen hm hsz hw1
 go_enter Tryz.func14,Tryz.ntmps14
 go_wp2_with fail
 try rw[HW1.out]
 go_loopg [5,6] 32 (λgh s5 s6 wx=>w1=wx∧∃k c:Nat,k+gh=32∧s6= .int .i64 (k:Int)∧s5= .int .i64 (c:Int)∧Hid (c=ledTo T k i∧c≤m*k))
 case atStart=>exact⟨rfl,0,0,by omega,rfl,rfl,rfl,by omega⟩
 case round=>
  obtain⟨rfl,k,c,hk,rfl,rfl,HP⟩:=hrel
  cases gk with
  |zero=>
   obtain rfl:k=32:=by omega
   have HF:=Lib.hid (HFE.out c _ HP.out.1 HK0.out)
   clear HP HFE HTV hk
   go_wp2_with fail
   go_ret
   exact HF.out
  |succ gg=>
   have hk32:k<32:=by omega
   have hki:(k:Int)<32:=by omega
   have hk0:(0:Int)≤(k:Int):=by omega
   obtain⟨g,hEk⟩:=HE.out k hk32
   have hEw:=hEk.keep HK0.out (by simp)
   obtain⟨an,cn,hv,hcn,hmn,HEX⟩:=hEw.open
   have hc17:w1.cell? ⟨w.heap.size,k*18+17,none⟩=some (.slice an (nT T k).E.length cn):=by
    rw[HTV.out.field hk32 (j:=17) (by omega),(inoAt _ (nT_len HTV.out.ok k)).f5,hv]
   have HEXX:=Lib.hid HEX
   have hE40:(nT T k).E.length≤m:=HM.out k
   have hmm:m*k≤m*32:=Nat.mul_le_mul_left m (by omega)
   have HEN:Hid (∀c',c'=ledTo T k i+ledE (nT T k).E (nT T k).E.length i→c'≤m*k+(nT T k).E.length→c'=ledTo T (k+1) i∧c'≤m*(k+1)):=λc' h1 h2=>⟨h1,by rw[Nat.mul_succ];omega⟩
   have HC0:=Lib.hid HP.out
   have HCB:Hid (∀j c',c'≤m*k+j→j≤(nT T k).E.length→(c':Int)<100000):=λj c' h1 h2=>by
    have :m*32≤40*32:=Nat.mul_le_mul_right 32 hm40
    omega
   clear hEw hEk HP hv
   generalize (nT T k).E=E at *
   obtain⟨mE,hmE⟩:∃mE,E.length=mE:=⟨_,rfl⟩
   have HME:=Lib.hid hmE
   rw[hmE] at hc17 hE40 HCB
   clear hmE
   go_wp2_with fail
   go_loopg [5,7] mE (λgh s5 s7 wx=>w1=wx∧∃j c':Nat,j+gh=mE∧s7= .int .i64 (j:Int)∧s5= .int .i64 (c':Int)∧Hid (c'=ledTo T k i+ledE E j i∧c'≤m*k+j))
   case atStart=>exact⟨rfl,0,c,by omega,rfl,rfl,by rw[ledE_zero];exact HC0.out.1,by have :=HC0.out.2;omega⟩
   case round=>
    obtain⟨rfl,j,c',hj,rfl,rfl,HP⟩:=hrel
    cases gk with
    |zero=>
     obtain rfl:j=mE:=by omega
     have HF:=Lib.hid (HEN.out c' (by rw[HME.out];exact HP.out.1) (by rw[HME.out];exact HP.out.2))
     clear HP HEN HEXX HCB HC0
     go_wp2_with fail
     go_roundg gg
     case measure=>omega
     case rel=>exact⟨rfl,k+1,c',by omega,by go_num,rfl,HF.out⟩
    |succ g2=>
     have hjm:j<mE:=by omega
     have hji:(j:Int)<(mE:Int):=by omega
     have hj0:(0:Int)≤(j:Int):=by omega
     obtain⟨hgl,off,rfl,d1,d2⟩:=HEXX.out j (by rw[HME.out];exact hjm)
     have hcb:=HCB.out j c' HP.out.2 (by omega)
     have hsu:=ledE_succ (E:=E) (j:=j) (by rw[HME.out];exact hjm) i
     by_cases he:eno E j=(i:Int)
     ·have hb:(eno E j==(i:Int))=true:=by simpa using he
      rw[if_pos he] at hsu
      have HN:Hid (c'+1=ledTo T k i+ledE E (j+1) i∧c'+1≤m*k+(j+1)):=by have :=HP.out;show _∧_;omega
      clear HP he hsu d1 HEN HEXX HC0
      generalize eno E j=y at *
      go_wp2_with fail
      go_roundg g2
      case measure=>omega
      case rel=>exact⟨rfl,j+1,c'+1,by omega,by go_num,by go_num,HN.out⟩
     ·have hb:(eno E j==(i:Int))=false:=by simpa using he
      rw[if_neg he] at hsu
      have HN:Hid (c'=ledTo T k i+ledE E (j+1) i∧c'≤m*k+(j+1)):=by have :=HP.out;show _∧_;omega
      clear HP he hsu d1 HEN HEXX HC0
      generalize eno E j=y at *
      go_wp2_with fail
      go_roundg g2
      case measure=>omega
      case rel=>exact⟨rfl,j+1,c',by omega,by go_num,rfl,HN.out⟩
def SameL (T T':List (Ino×Value)):Prop:=∀i,vT T' i=vT T i∧∃x,nT T' i={ nT T i with L:=x }
theorem SameL.refl (T:List (Ino×Value)):SameL T T:=λi=>⟨rfl,(nT T i).L,rfl⟩
theorem SameL.set {T T':List (Ino×Value)} (h:SameL T T') {i:Nat} (hi:i<T'.length) (x:Int):SameL T (T'.set i ({ nT T' i with L:=x },vT T' i)):=λq=>by
 obtain⟨h1,y,h2⟩:=h q
 rw[nT_set hi,vT_set hi]
 by_cases e:i=q
 ·subst e
  rw[if_pos rfl,if_pos rfl]
  exact⟨h1,x,by rw[h2]⟩
 ·rw[if_neg e,if_neg e]
  exact⟨h1,y,h2⟩
theorem SameL.tabE {T T':List (Ino×Value)} (h:SameL T T') {w:World} (hE:TabE w T):TabE w T':=λi hi=>by
 obtain⟨h1,x,h2⟩:=h i
 obtain⟨g,hg⟩:=hE i hi
 exact⟨g,by rw[h1,h2];exact hg⟩
theorem SameL.elen {T T':List (Ino×Value)} (h:SameL T T') (i:Nat):(nT T' i).E=(nT T i).E:=by
 obtain⟨-,x,h2⟩:=h i
 rw[h2]
theorem TabAtV.setL {w:World} {g:Nat} {T:List (Ino×Value)} (h:TabAtV w g T) {i:Nat} (hi:i<32) (x:Int):TabAtV (w.setCell ⟨g,i*18+2,none⟩ (.int .i64 x)) g (T.set i ({ nT T i with L:=x },vT T i)):=by
 have hB:=nT_len h.ok i
 have hv:(vT T i).oneCell'=true:=by
  unfold vT
  rw[List.getD_eq_getElem?_getD,List.getElem?_eq_getElem (by rw[h.len];exact hi)]
  exact(h.ok _ (List.getElem_mem (by rw[h.len];exact hi))).2
 have hok':TabOk (T.set i ({ nT T i with L:=x },vT T i)):=h.ok.set i hB hv
 refine⟨?_,hok',by rw[List.length_set,h.len]⟩
 have hb:=h.blk.set (i*18+2) (.int .i64 x)
 have e:(tabC T).setIfInBounds (i*18+2) (.int .i64 x)=tabC (T.set i ({ nT T i with L:=x },vT T i)):=by
  unfold tabC
  rw[List.setIfInBounds_toArray]
  congr 1
  apply List.ext_getElem?
  intro q
  have hl1:=tabL_len h.ok
  have hl2:=tabL_len hok'
  rw[List.length_set] at hl2
  rcases Nat.lt_or_ge q (T.length*18) with hq|hq
  ·have hq2:q=q/18*18+q%18:=by omega
   have hq3:q/18<T.length:=by omega
   have hq4:q%18<18:=Nat.mod_lt _ (by omega)
   have g1:=tabL_get h.ok (q/18) hq3 (q%18) hq4
   have g2:=tabL_get hok' (q/18) (by rw[List.length_set];exact hq3) (q%18) hq4
   rw[←hq2] at g1 g2
   rw[g2,List.getElem?_set,g1,nT_set (by rw[h.len];exact hi),vT_set (by rw[h.len];exact hi)]
   by_cases e:i*18+2=q
   ·have e1:i=q/18:=by omega
    have e2:q%18=2:=by omega
    rw[if_pos e,if_pos (by rw[hl1];omega),←e1,if_pos rfl,if_pos rfl,e2]
    rfl
   ·rw[if_neg e]
    by_cases e1:i=q/18
    ·have e2:q%18≠2:=by omega
     rw[←e1,if_pos rfl,if_pos rfl]
     generalize q%18=j at *
     rcases j with _|_|_|j
     ·rfl
     ·rfl
     ·exact absurd rfl e2
     ·rfl
    ·rw[if_neg e1,if_neg e1]
  ·rw[List.getElem?_eq_none (by rw[List.length_set,hl1];exact hq),List.getElem?_eq_none (by rw[hl2];exact hq)]
 rwa[e] at hb
theorem tabC_zero:(tabC tab0).size=576:=by
 rw[tabC,List.size_toArray,tabL_len tab0_ok]
 simp[tab0]
def LinksPost (w:World) (T:List (Ino×Value)) (e:Ending) (w':World):Prop:=∃T',e= .returned (.agg (tabC T'))∧TabOk T'∧T'.length=32∧SameL T T'∧Keeps [] w w'
set_option maxRecDepth 100000 in
set_option maxHeartbeats 4000000 in
theorem refLinks_at {w:World} {T:List (Ino×Value)} (hok:TabOk T) (hlen:T.length=32) (hE:TabE w T) {m:Nat} (hm:∀i,(nT T i).E.length≤m) (hm40:m≤40):
  Calls Tryz.prog 19 #[.agg (tabC T)] w (LinksPost w T):=by
 have hzt:=zero_tab
 obtain⟨ZT,hZT⟩:∃ZT,tabC tab0=ZT:=⟨_,rfl⟩
 have hzt2:∀w:World,(zeroValue 39).run Tryz.prog w= .ok (.agg ZT) w:=λw=>by rw[←hZT];exact hzt w
 have HZS:Hid (ZT.size=576):=by show _=_;rw[←hZT];exact tabC_zero
 clear hzt hZT
 have HT0:Hid (TabAtV ((w.alloc (.cells (tabC T) 39)).alloc (.cells ZT 39)) w.heap.size T):=⟨(Blk.new w _ _).alloc _,hok,hlen⟩
 have HR0:Hid (Blk ((w.alloc (.cells (tabC T) 39)).alloc (.cells ZT 39)) (w.heap.size+1) ZT 39):=by
  have :=Blk.new (w.alloc (.cells (tabC T) 39)) ZT 39
  rwa[World.size_alloc] at this
 have HK0:Hid (Keeps [] w ((w.alloc (.cells (tabC T) 39)).alloc (.cells ZT 39))):=((Keeps.refl [] w).alloc _).alloc _
 have HE:=Lib.hid hE
 have HM:=Lib.hid hm
 clear hE hm hok
 obtain⟨Z0,hZ0⟩:∃Z0,tabC T=Z0:=⟨_,rfl⟩
 rw[hZ0] at HT0 HR0 HK0 ⊢
 clear hZ0
 go_enter Tryz.func19,Tryz.ntmps19
 go_wp2_with fail
 go_loopg [3] 32 (λgh s3 wx=>∃(k:Nat) (Tc:List (Ino×Value)),k+gh=32∧s3= .int .i64 (k:Int)∧Hid (TabAtV wx w.heap.size Tc∧SameL T Tc∧Blk wx (w.heap.size+1) ZT 39∧Keeps [] w wx))
 case atStart=>exact⟨0,T,by omega,rfl,HT0.out,SameL.refl _,HR0.out,HK0.out⟩
 case round=>
  clear HT0 HR0 HK0
  obtain⟨k,Tc,hk,rfl,HI⟩:=hrel
  cases gk with
  |zero=>
   obtain rfl:k=32:=by omega
   obtain⟨i1,i2,i3,i4⟩:=HI.out
   obtain⟨w5,p1,p2,p3⟩:=store_tab (T:=Tc) i3 HZS.out i1.ok i1.len
   have HL:=Lib.hid i1.load
   have HS5:=Lib.hid p1
   have HL5:=Lib.hid p2.load
   have HF:Hid (LinksPost w T (.returned (.agg (tabC Tc))) w5):=⟨Tc,rfl,i1.ok,i1.len,i2,i4.trans p3 (by intro x hx;rw[List.mem_singleton] at hx;omega)⟩
   clear HI i1 i2 i3 i4 p1 p2 p3
   generalize tabC Tc=ZC at *
   go_wp2_with(first|((with_reducible show wpList _ _ _ (⟨_,.load 39 (.tmp 1),_,_,_,_⟩::_) _ _);refine wpList_load_any rfl 39 (.tmp 1) rfl _ rfl _ HL.out ?_)|((with_reducible show wpList _ _ _ (⟨_,.store 39 (.tmp 2) (.tmp 20),_,_,_,_⟩::_) _ _);refine wpList_store_any rfl 39 (.tmp 2) (.tmp 20) rfl _ rfl _ rfl _ HS5.out ?_))
   exact bodyPost_ret (results_cell Tryz.results19 rfl HL5.out) rfl HF.out
  |succ gg=>
   have hki:(k:Int)<32:=by omega
   have hk0:(0:Int)≤(k:Int):=by omega
   have hk32:k<32:=by omega
   obtain⟨i1,i2,i3,i4⟩:=HI.out
   have c0:=i1.form hk32
   have HL:=Lib.hid i1.load
   have HCO:=Lib.hid (refCount_at (w:=wr) i1.ok i1.len ((i2.tabE HE.out).keep i4) (m:=m) (λi=>by rw[i2.elen];exact HM.out i) hm40 k)
   have HI2:=Lib.hid (And.intro i1 (And.intro i2 (And.intro i3 i4)))
   have hFt:∀F:Int,0<F∨¬0<F:=λF=>by omega
   clear HI i1 i2 i3 i4
   rcases hFt (nT Tc k).F with hF|hF
   ·generalize hz:ledT Tc k=z at *
    obtain⟨ZC,hZC⟩:∃ZC,tabC Tc=ZC:=⟨_,rfl⟩
    rw[hZC] at HL HCO
    clear hZC hz
    generalize (nT Tc k).F=F at *
    have hzz:(z=0∧¬(1:Int)≤(z:Int))∨(1≤z∧(1:Int)≤(z:Int)):=by omega
    go_wp2_with((with_reducible show wpList _ _ _ (⟨_,.load 39 (.tmp 1),_,_,_,_⟩::_) _ _);refine wpList_load_any rfl 39 (.tmp 1) rfl _ rfl _ HL.out ?_)
    refine HCO.out.mono ?_;rintro e w3 ⟨rfl,hk3⟩
    have i1:=HI2.out.1.keep hk3 (by simp)
    have hL:=i1.len
    have hcL:w3.cell? ⟨w.heap.size,k*18+2,none⟩=some (.int .i64 (nT Tc k).L):=by rw[i1.field hk32 (j:=2) (by omega)];exact(inoAt _ (nT_len i1.ok k)).f2
    have hfL:w3.frozen? ⟨w.heap.size,k*18+2,none⟩=false:=i1.blk.frozen _
    have HN:Hid (∀x:Int,TabAtV (w3.setCell ⟨w.heap.size,k*18+2,none⟩ (.int .i64 x)) w.heap.size (Tc.set k ({ nT Tc k with L:=x },vT Tc k))∧SameL T (Tc.set k ({ nT Tc k with L:=x },vT Tc k))∧Blk (w3.setCell ⟨w.heap.size,k*18+2,none⟩ (.int .i64 x)) (w.heap.size+1) ZT 39∧Keeps [] w (w3.setCell ⟨w.heap.size,k*18+2,none⟩ (.int .i64 x))):=λx=>
     ⟨i1.setL hk32 x,HI2.out.2.1.set (by rw[hL];exact hk32) x,(HI2.out.2.2.1.keep hk3 (by simp)).other (by show w.heap.size+1≠w.heap.size;omega) _,(HI2.out.2.2.2.trans' hk3).setCell (.inr (Nat.le_refl _)) _⟩
    clear HI2 hk3 i1 HCO HL c0 hL
    generalize (nT Tc k).L=L at *
    rcases hzz with ⟨rfl,h1⟩|⟨hz,h1⟩
    ·go_wp2_with fail
     go_roundg gg
     case measure=>omega
     case rel=>exact⟨k+1,_,by omega,by go_num,HN.out _⟩
    ·have hmx:max (z:Int) 1=(z:Int):=by omega
     go_wp2_with fail
     go_roundg gg
     case measure=>omega
     case rel=>exact⟨k+1,_,by omega,by go_num,HN.out _⟩
   ·clear HCO HL
    generalize (nT Tc k).F=F at *
    go_wp2_with fail
    go_roundg gg
    case measure=>omega
    case rel=>exact⟨k+1,Tc,by omega,by go_num,HI2.out⟩
theorem zero_b32 (w:World):(zeroValue 99).run Tryz.prog w= .ok (.agg (bools (List.replicate 32 false)).toArray) w:=by kernel_rfl
theorem bools_at {w:World} {g T:Nat} {S:List Bool} (hb:Blk w g (bools S).toArray T) {k:Nat} (hk:k<S.length):w.cell? ⟨g,k,none⟩=some (.bool (S.getD k false)):=by
 rw[hb.cell,List.getElem?_toArray,bools_get hk]
theorem bools_put {w:World} {g T:Nat} {S:List Bool} (hb:Blk w g (bools S).toArray T) (k:Nat):Blk (w.setCell ⟨g,k,none⟩ (.bool true)) g (bools (S.set k true)).toArray T:=by
 have :=hb.set k (.bool true)
 rwa[List.setIfInBounds_toArray,bools_set] at this
theorem InM.more {T:List (Ino×Value)} {d:Int} {S0 S:List Bool} {k:Nat} (h:InM T d S0 S k) (hall:S0.getD k false=true→∀b∈succL T (k:Int),mk S b=true):InM T d S0 S (k+1):=
 ⟨h.1,h.2.1,λq hq hm b hb=>by
  by_cases e:q=k
  ·subst e;exact hall hm b hb
  ·exact h.2.2 q (by omega) hm b hb⟩
theorem InM.mark {T:List (Ino×Value)} (hN:TabN T) {d:Int} {S0 S:List Bool} {k:Nat} (h:InM T d S0 S k) (hk:k<32) (hm:S.getD k false=true) {b:Int} (hb:b∈succL T (k:Int)):InM T d S0 (S.set b.toNat true) k:=
 ⟨h.1.mark hN hk hm hb,h.2.1.trans (SubM.set S _),λq hq hqm c hc=>SubM.set S _ _ (h.2.2 q hq hqm c hc)⟩
theorem succL_mem {T:List (Ino×Value)} {k:Nat} (hk:k<32) {b:Int}:b∈succL T (k:Int)↔∃j,j<(nT T k).E.length∧eno (nT T k).E j=b:=by
 unfold succL
 rw[if_pos (by omega),Int.toNat_natCast]
 constructor
 ·intro h
  obtain⟨j,hj,e⟩:=List.getElem_of_mem h
  rw[List.length_map] at hj
  rw[List.getElem_map] at e
  exact⟨j,hj,by rw[←e];simp[eno,List.getD_eq_getElem?_getD,hj]⟩
 ·rintro⟨j,hj,e⟩
  refine List.mem_map.2 ⟨(nT T k).E[j],List.getElem_mem hj,?_⟩
  rw[←e]
  simp[eno,List.getD_eq_getElem?_getD,hj]
set_option maxRecDepth 100000 in
set_option maxHeartbeats 4000000 in
theorem refBelow_at {w:World} {T:List (Ino×Value)} (hok:TabOk T) (hlen:T.length=32) (hE:TabE w T) (hN:TabN T) (d i:Int):
  Calls Tryz.prog 31 #[.agg (tabC T),.int .i64 d,.int .i64 i] w (BelowPost w (Reach T d i)):=by
 have HBP:Hid (∀r w',(r=true↔Reach T d i)→Keeps [] w w'→BelowPost w (Reach T d i) (.returned (.bool r)) w'):=λr w' h1 h2=>⟨r,rfl,h1,h2⟩
 have hzb:=zero_b32
 have HNEW:Hid (Blk ((w.alloc (.cells (tabC T) 39)).alloc (.cells (bools (List.replicate 32 false)).toArray 99)) (w.heap.size+1) (bools (List.replicate 32 false)).toArray 99):=by
  have :=Blk.new (w.alloc (.cells (tabC T) 39)) (bools (List.replicate 32 false)).toArray 99
  rwa[show(w.alloc (.cells (tabC T) 39)).heap.size=w.heap.size+1 by simp] at this
 have HTV:Hid (TabAtV ((w.alloc (.cells (tabC T) 39)).alloc (.cells (bools (List.replicate 32 false)).toArray 99)) w.heap.size T):=⟨(Blk.new w _ _).alloc _,hok,hlen⟩
 have HK0:Hid (Keeps [] w ((w.alloc (.cells (tabC T) 39)).alloc (.cells (bools (List.replicate 32 false)).toArray 99))):=((Keeps.refl [] w).alloc _).alloc _
 have HE:=Lib.hid hE
 have HN:=Lib.hid hN
 clear hE hN hok hlen
 by_cases hdi:d=i
 ·have hb:(d==i)=true:=by rw[hdi];simp
  have HR:Hid (Reach T d i):=by rw[hdi];exact .here
  clear hdi HTV HNEW
  generalize (bools (List.replicate 32 false)).toArray=Z0 at *
  generalize tabC T=Z at *
  go_enter Tryz.func31,Tryz.ntmps31
  go_wp2_with fail
  go_ret
  exact HBP.out true _ ⟨λ_=>HR.out,λ_=>rfl⟩ HK0.out
 ·have hb:(d==i)=false:=by simpa using hdi
  by_cases hd:0≤d∧d<32
  ·obtain⟨dn,rfl⟩:=Int.eq_ofNat_of_zero_le hd.1
   have hdn:dn<32:=by omega
   have hdi32:(dn:Int)<32:=by omega
   have hdi31:¬(31:Int)<(dn:Int):=by omega
   have hdi0:¬(dn:Int)<0:=by omega
   have hdi00:(0:Int)≤(dn:Int):=by omega
   have HRS:Hid (RoundM T (dn:Int) ((List.replicate 32 false).set dn true) 0):=by
    have :=RoundM.start (T:=T) hd
    rwa[Int.toNat_natCast] at this
   have HOUT:Hid (¬(0≤i∧i<32)→¬Reach T (dn:Int) i):=λh hr=>by
    rcases hr.rng HN.out with e|e
    ·exact hdi e.symm
    ·exact h e
   have HEND:Hid (∀S,RoundM T (dn:Int) S 33→0≤i∧i<32→(S.getD i.toNat false=true↔Reach T (dn:Int) i)):=λS h1 h2=>h1.ended (by omega) h2
   have HNXT:Hid (∀S S' r,RoundM T (dn:Int) S r→InM T (dn:Int) S S' 32→RoundM T (dn:Int) S' (r+1)):=λS S' r h1 h2=>h1.next HN.out hd h2
   have hst:(bools (List.replicate 32 false)).toArray[dn]? =some (.bool false):=by
    rw[List.getElem?_toArray,bools_get (by rw[List.length_replicate];exact hdn)]
    rw[List.getD_eq_getElem?_getD,List.getElem?_replicate,if_pos hdn]
    rfl
   have cd:((w.alloc (.cells (tabC T) 39)).alloc (.cells (bools (List.replicate 32 false)).toArray 99)).cell? ⟨w.heap.size+1,dn,none⟩=some (.bool false):=by rw[HNEW.out.cell];exact hst
   have fd:((w.alloc (.cells (tabC T) 39)).alloc (.cells (bools (List.replicate 32 false)).toArray 99)).frozen? ⟨w.heap.size+1,dn,none⟩=false:=HNEW.out.frozen _
   have hszz:dn<(bools (List.replicate 32 false)).toArray.size:=by rw[List.size_toArray,bools_len,List.length_replicate];exact hdn
   have HSET:Hid (Blk ((w.alloc (.cells (tabC T) 39)).alloc (.cells ((bools (List.replicate 32 false)).toArray.setIfInBounds dn (.bool true)) 99)) (w.heap.size+1) (bools ((List.replicate 32 false).set dn true)).toArray 99):=by
    have h1:=Blk.new (w.alloc (.cells (tabC T) 39)) ((bools (List.replicate 32 false)).toArray.setIfInBounds dn (.bool true)) 99
    rw[show(w.alloc (.cells (tabC T) 39)).heap.size=w.heap.size+1 by simp] at h1
    rw[List.setIfInBounds_toArray,bools_set] at h1
    rw[List.setIfInBounds_toArray,bools_set]
    exact h1
   have HTV2:Hid (TabAtV ((w.alloc (.cells (tabC T) 39)).alloc (.cells ((bools (List.replicate 32 false)).toArray.setIfInBounds dn (.bool true)) 99)) w.heap.size T):=⟨(Blk.new w _ _).alloc _,HTV.out.ok,HTV.out.len⟩
   have HK2:Hid (Keeps [] w ((w.alloc (.cells (tabC T) 39)).alloc (.cells ((bools (List.replicate 32 false)).toArray.setIfInBounds dn (.bool true)) 99))):=((Keeps.refl [] w).alloc _).alloc _
   clear hd hst HTV HNEW HK0 hdi
   generalize (bools (List.replicate 32 false)).toArray=Z0 at *
   generalize tabC T=Z at *
   go_enter Tryz.func31,Tryz.ntmps31
   go_wp2_with fail
   obtain⟨W0,hW0⟩:∃W0,(w.alloc (.cells Z 39)).alloc (.cells (Z0.setIfInBounds dn (.bool true)) 99)=W0:=⟨_,rfl⟩
   rw[hW0] at HSET HTV2 HK2
   rw[hW0]
   clear hW0 cd fd hszz hzb
   go_loopg [8] 33 (λgh s8 wz=>∃(r:Nat) (S:List Bool),r+gh=33∧s8= .int .i64 (r:Int)∧Hid (Blk wz (w.heap.size+1) (bools S).toArray 99∧RoundM T (dn:Int) S r∧Keeps [w.heap.size+1] W0 wz))
   case atStart=>exact⟨0,_,rfl,rfl,HSET.out,HRS.out,Keeps.refl _ _⟩
   case round=>
    clear HSET HRS
    obtain⟨r,S,hr,rfl,HP⟩:=hrel
    cases gk with
    |zero=>
     obtain rfl:r=33:=by omega
     have HFK:Hid (Keeps [] w wr):=HK2.out.trans HP.out.2.2 (by intro z hz;rw[List.mem_singleton] at hz;omega)
     by_cases hi0:0≤i
     ·by_cases hi32:i<32
      ·obtain⟨k,rfl⟩:=Int.eq_ofNat_of_zero_le hi0
       have hlS:S.length=32:=HP.out.2.1.1.1
       have hk32:k<32:=by omega
       have c0:=bools_at HP.out.1 (k:=k) (by omega)
       have HEN:=Lib.hid (HEND.out S HP.out.2.1 ⟨hi0,hi32⟩)
       rw[Int.toNat_natCast] at HEN
       clear HEND HNXT HOUT HP hlS
       generalize S.getD k false=bk at *
       have HPO:=Lib.hid (HBP.out bk wr HEN.out HFK.out)
       go_wp2_with fail
       go_ret
       exact HPO.out
      ·have HNO:=Lib.hid (HOUT.out (λh=>hi32 h.2))
       clear HEND HNXT HOUT HP
       go_wp2_with fail
       go_ret
       exact HBP.out false _ ⟨(λh=>by cases h),λh=>absurd h HNO.out⟩ HFK.out
     ·have HNO:=Lib.hid (HOUT.out (λh=>hi0 h.1))
      clear HEND HNXT HOUT HP
      go_wp2_with fail
      go_ret
      exact HBP.out false _ ⟨(λh=>by cases h),λh=>absurd h HNO.out⟩ HFK.out
    |succ g2=>
     have hr33:(r:Int)<33:=by omega
     have hr0:(0:Int)≤(r:Int):=by omega
     have HSR:=Lib.hid HP.out.2.1
     have HI0:Hid (InM T (dn:Int) S S 0):=⟨HP.out.2.1.1,SubM.refl _,λq hq=>by omega⟩
     have HPS:Hid (Blk wr (w.heap.size+1) (bools S).toArray 99∧Keeps [w.heap.size+1] W0 wr):=⟨HP.out.1,HP.out.2.2⟩
     clear HP HEND
     go_wp2_with fail
     go_loopg [9] 32 (λgh s9 wz=>∃(k:Nat) (S':List Bool),k+gh=32∧s9= .int .i64 (k:Int)∧Hid (Blk wz (w.heap.size+1) (bools S').toArray 99∧InM T (dn:Int) S S' k∧Keeps [w.heap.size+1] W0 wz))
     case atStart=>exact⟨0,S,rfl,rfl,HPS.out.1,HI0.out,HPS.out.2⟩
     case round=>
      clear HPS HI0
      obtain⟨k,S',hk,rfl,HP⟩:=hrel
      cases gk with
      |zero=>
       obtain rfl:k=32:=by omega
       have HRN:Hid (Blk wr (w.heap.size+1) (bools S').toArray 99∧RoundM T (dn:Int) S' (r+1)∧Keeps [w.heap.size+1] W0 wr):=⟨HP.out.1,HNXT.out S S' r HSR.out HP.out.2.1,HP.out.2.2⟩
       clear HP
       go_wp2_with fail
       go_roundg g2
       case measure=>omega
       case rel=>exact⟨r+1,S',by omega,by go_num,HRN.out⟩
      |succ g3=>
       have hk32:(k:Int)<32:=by omega
       have hk0:(0:Int)≤(k:Int):=by omega
       have hkn:k<32:=by omega
       obtain⟨ge,hge⟩:=HE.out k hkn
       obtain⟨ae,ce,hve,hce,hme,HEC⟩:=hge.open
       have HTC:Hid (∀wz,Keeps [w.heap.size+1] W0 wz→wz.cell? ⟨w.heap.size,k*18+17,none⟩=some (.slice ae (nT T k).E.length ce)):=λwz hkz=>by
        have h1:=HTV2.out.keep hkz (by simp)
        rw[h1.cell hkn (by omega:17<18),←hve]
        have :=inoC_E (n:=nT T k) (vT T k) (nT_len h1.ok k)
        rwa[inoC,List.getElem?_toArray] at this
       have HSM:Hid (∀y,y∈succL T (k:Int)↔∃j,j<(nT T k).E.length∧eno (nT T k).E j=y):=λy=>succL_mem hkn
       have HLT:Hid ((nT T k).E.length≠0→ge<w.heap.size):=λh=>(HEC.out 0 (by omega)).1
       have hme2:ce≤9223372036854775807:=by unfold maxLen at hme;omega
       clear hge hve hme
       obtain⟨m,hm⟩:∃m,(nT T k).E.length=m:=⟨_,rfl⟩
       rw[hm] at HTC HSM hce HEC HLT
       clear hm
       obtain⟨E,hEE⟩:∃E,(nT T k).E=E:=⟨_,rfl⟩
       rw[hEE] at HSM HEC
       clear hEE
       go_wp2_with fail
       go_loopg [10] m (λgh s10 wz=>∃(j:Nat) (S':List Bool),j+gh=m∧s10= .int .i64 (j:Int)∧Hid (Blk wz (w.heap.size+1) (bools S').toArray 99∧InM T (dn:Int) S S' k∧Keeps [w.heap.size+1] W0 wz∧(S'.getD k false=true→∀t,t<j→mk S' (eno E t)=true)))
       case atStart=>exact⟨0,S',by omega,rfl,HP.out.1,HP.out.2.1,HP.out.2.2,λ_ t ht=>by omega⟩
       case round=>
        clear HP
        obtain⟨j,S',hj,rfl,HP⟩:=hrel
        have hlS:S'.length=32:=HP.out.2.1.1.1
        have cT:=HTC.out wr HP.out.2.2.1
        have cK:=bools_at HP.out.1 (k:=k) (by omega)
        cases gk with
        |zero=>
         obtain rfl:j=m:=by omega
         have HNE:Hid (Blk wr (w.heap.size+1) (bools S').toArray 99∧InM T (dn:Int) S S' (k+1)∧Keeps [w.heap.size+1] W0 wr):=⟨HP.out.1,HP.out.2.1.more (λhs y hy=>by
          obtain⟨t,ht,e⟩:=(HSM.out y).1 hy
          rw[←e]
          exact HP.out.2.2.2 (HP.out.2.1.2.1 k hs) t ht),HP.out.2.2.1⟩
         clear HP
         generalize S'.getD k false=bk at *
         go_wp2_with fail
         go_roundg g3
         case measure=>omega
         case rel=>exact⟨k+1,S',by omega,by go_num,HNE.out⟩
        |succ g4=>
         have hjm:j<m:=by omega
         have hji:(j:Int)<(m:Int):=by omega
         have hj0:(0:Int)≤(j:Int):=by omega
         cases hbk:S'.getD k false with
         |false=>
          have HNE:Hid (Blk wr (w.heap.size+1) (bools S').toArray 99∧InM T (dn:Int) S S' (k+1)∧Keeps [w.heap.size+1] W0 wr):=⟨HP.out.1,HP.out.2.1.more (λhs=>absurd (HP.out.2.1.2.1 k hs) (by rw[hbk];simp)),HP.out.2.2.1⟩
          rw[hbk] at cK
          clear HP hbk
          go_wp2_with fail
          go_roundg g3
          case measure=>omega
          case rel=>exact⟨k+1,S',by omega,by go_num,HNE.out⟩
         |true=>
          obtain⟨hgl,off,rfl,-,d2⟩:=HEC.out j hjm
          have hgn:ge∉[w.heap.size+1]:=by rw[List.mem_singleton];omega
          have hkw:Keeps [w.heap.size+1] w wr:=(HK2.out.mono (by simp)).trans' HP.out.2.2.1
          have cE:wr.cell? ⟨ge,off+j*2+1,none⟩=some (.int .i64 (eno E j)):=(World.cell?_of_block (w:=w) (a:=⟨ge,off+j*2+1,none⟩) (hkw.block ge hgl hgn)).trans d2
          have hyS:eno E j∈succL T (k:Int):=(HSM.out _).2 ⟨j,hjm,rfl⟩
          obtain⟨hy0,hy32⟩:=HN.out _ _ hyS
          have HIM:=Lib.hid (HP.out.2.1.mark HN.out hkn hbk hyS)
          have HOLD:=Lib.hid HP.out.2.2.2
          obtain⟨y,hy⟩:∃y:Nat,eno E j=(y:Int):=⟨(eno E j).toNat,by omega⟩
          rw[hy] at cE hy0 hy32 HIM
          rw[Int.toNat_natCast] at HIM
          have cY:=bools_at HP.out.1 (k:=y) (by omega)
          have fY:=HP.out.1.frozen y
          have HNB:=Lib.hid (bools_put HP.out.1 y)
          have HNK:Hid (Keeps [w.heap.size+1] W0 (wr.setCell ⟨w.heap.size+1,y,none⟩ (.bool true))):=HP.out.2.2.1.setCell (.inl (by simp)) _
          have HALL:Hid (∀t,t<j+1→mk (S'.set y true) (eno E t)=true):=λt ht=>by
           have hm:=set_mark S' (k:=y) (by omega)
           by_cases e:t=j
           ·rw[e,mk,hy,Int.toNat_natCast]
            exact(hm y).2 (.inl rfl)
           ·exact(hm _).2 (.inr (HOLD.out hbk t (by omega)))
          rw[hbk] at cK
          clear HP hbk hyS hgn hkw d2 hgl HOLD hy
          generalize S'.getD y false=by0 at *
          go_wp2_with fail
          go_roundg g4
          case measure=>omega
          case rel=>exact⟨j+1,S'.set y true,by omega,by go_num,HNB.out,HIM.out,HNK.out,λ_=>HALL.out⟩
  ·have HR:Hid (¬Reach T d i):=λh=>hdi (h.out hd).symm
   have hdd:(decide (d<0)||decide (31<d))=true:=by
    rw[Bool.or_eq_true,decide_eq_true_eq,decide_eq_true_eq]
    omega
   clear hdi HTV HNEW
   generalize (bools (List.replicate 32 false)).toArray=Z0 at *
   generalize tabC T=Z at *
   by_cases hd0:d<0
   all_goals
    first|have hd1:decide (d<0)=true:=decide_eq_true hd0|have hd1:decide (d<0)=false:=decide_eq_false hd0
    have hd2:¬d<0→31<d:=by omega
    first|have hd3:31<d:=hd2 hd0|skip
    clear hdd hd hd2
    go_enter Tryz.func31,Tryz.ntmps31
    go_wp2_with fail
    go_ret
    exact HBP.out false _ ⟨(λh=>by cases h),λh=>absurd h HR.out⟩ HK0.out
end Go.Proofs.YtphojondgfjmgaaGreatDoor
namespace Go.Proofs.YtphojondgfjmgaaGreatDoor
open Go.ChangeShapes Go.WideShapes Go.ChangeAt Go.RowKit
section
variable {H:Type} {enc:TypeId×Value→H} {W:World} {base:Nat} {spare:Nat→Bool} {held:Bool}
def intV:Option Value→Int
 |some (.int _ z)=>z
 |_=>0
set_option maxRecDepth 100000 in
theorem open_n13 {fuel:Nat} {cs:List Value} {x:DataW H×List MemPlace} (h:DataW.trod enc Tryz.prog W base spare held fuel 34 cs=some x):∃l:List Int,cs=zs l∧l.length=13:=by
 obtain⟨xs,m,-,-,hl,hlen,hf⟩:=DataW.trod_array Tryz.underlying34 h
 rw[show Tryz.prog.cellsOf 34 =13 by kernel_rfl] at hl
 have hone:∀i,i<13→∃z:Int,cs[i]? =some (.int .i64 z):=λi hi=>by
  have h1:=hf i hi
  rw[show Tryz.prog.cellsOf 3 =1 by kernel_rfl,Nat.mul_one,List.getElem?_eq_getElem (by omega:i<xs.length)] at h1
  obtain⟨z,e,-,-⟩:=DataW.trod_int Tryz.underlying3 h1
  refine⟨z,?_⟩
  have h2:=congrArg (λl=>l[0]?) e
  simpa using h2
 refine⟨(List.range 13).map λi=>intV cs[i]?,?_,by simp⟩
 apply List.ext_getElem?
 intro i
 by_cases hi:i<13
 ·obtain⟨z,hz⟩:=hone i hi
  have h2:(zs ((List.range 13).map λi=>intV cs[i]?))[i]? =some (.int .i64 (intV cs[i]?)):=by simp[zs,hi]
  rw[h2,hz]
  rfl
 ·rw[List.getElem?_eq_none (by omega),List.getElem?_eq_none (by simp[zs];omega)]
end
end Go.Proofs.YtphojondgfjmgaaGreatDoor
