/-
  Layer 6, the reference: Right. Layer 6, the reference: Few. Layer 8: the law InodeTurns.
-/
import Derived.Test.YtphojondgfjmgaaGreatDoorG04
import Derived.Test.YtphojondgfjmgaaGreatDoorG14
import Derived.BigQuiet
import Derived.Test.YtphojondgfjmgaaGreatDoorG03
namespace Go.Proofs.YtphojondgfjmgaaGreatDoor
open Go.RowKit
def NumR (n:Ino) (k:Nat):Prop:=(0≤n.B.getD k 0∧n.B.getD k 0≤255)∧(0<n.B.getD k 0→n.K≠2∧64*(k:Int)<n.S∧∀j,j<k→n.B.getD j 0≠n.B.getD k 0)
theorem right_num {n:Ino} (hB:n.B.length=13) (h:RightP n):∀k,k<13→NumR n k:=by
 intro k hk
 rcases h.2.2 with ⟨hK,h1,h2,h3,h4⟩|⟨hK,h1,h2,h3,h4⟩
 ·have h5:=h4 k hk
  refine⟨by omega,λh0=>⟨by omega,?_,λj hj=>h5.2 (by omega) j hj⟩⟩
  rcases Nat.lt_or_ge k (partsN n.S.toNat) with hp|hp
  ·unfold partsN at hp;omega
  ·have hp13:partsN n.S.toNat≤13:=by unfold partsN;omega
   rw[h3,uptoL_get hB hp13,if_neg (by omega)] at h0
   omega
 ·have e:n.B.getD k 0=0:=by
   rw[h3,List.getD_eq_getElem?_getD,List.getElem?_replicate]
   split<;>rfl
  exact⟨by omega,λh0=>by omega⟩
theorem num_file {n:Ino} (hB:n.B.length=13) (hF:n.F=1∨n.F=2) (hL:0≤n.L∧n.L≤65535) (hK:n.K=1) (h:∀k,k<13→NumR n k):RightP n↔(0≤n.S∧n.S≤832∧n.E.length=0):=by
 constructor
 ·intro hr
  rcases hr.2.2 with ⟨_,h1,h2,h3,h4⟩|⟨hK',_⟩
  ·exact⟨h1.1,h1.2,h2⟩
  ·omega
 ·rintro⟨h1,h2,h3⟩
  have hp13:partsN n.S.toNat≤13:=by unfold partsN;omega
  refine⟨hF,hL,.inl ⟨hK,⟨h1,h2⟩,h3,z_ext (by rw[hB,uptoL_len hB hp13]) λk hk=> ?_,λk hk=> ?_⟩⟩
  ·rw[hB] at hk
   rw[uptoL_get hB hp13]
   split
   ·rfl
   ·rename_i hp
    have h5:=h k hk
    rcases Int.lt_or_le 0 (n.B.getD k 0) with h0|h0
    ·have :=(h5.2 h0).2.1
     unfold partsN at hp
     omega
    ·have :=h5.1.1
     omega
  ·have h5:=h k hk
   refine⟨⟨h5.1.1,by have :=h5.1.2;omega⟩,λh0=>(h5.2 (by have :=h5.1.1;omega)).2.2⟩
theorem num_dir {n:Ino} (hB:n.B.length=13) (hF:n.F=1∨n.F=2) (hL:0≤n.L∧n.L≤65535) (hK:n.K=2) (h:∀k,k<13→NumR n k):RightP n↔(n.E.length≤24∧n.S=n.E.length)∧∀k,k<n.E.length→EntP n.E k:=by
 constructor
 ·intro hr
  rcases hr.2.2 with ⟨hK',_⟩|⟨_,h1,h2,h3,h4⟩
  ·omega
  ·exact⟨⟨h1,h2⟩,h4⟩
 ·rintro⟨⟨h1,h2⟩,h3⟩
  refine⟨hF,hL,.inr ⟨hK,h1,h2,z_ext (by rw[hB];rfl) λk hk=> ?_,h3⟩⟩
  rw[hB] at hk
  have h5:=h k hk
  have e:(List.replicate 13 (0:Int)).getD k 0=0:=by
   rw[List.getD_eq_getElem?_getD,List.getElem?_replicate]
   split<;>rfl
  rw[e]
  rcases Int.lt_or_le 0 (n.B.getD k 0) with h0|h0
  ·exact absurd hK (h5.2 h0).1
  ·have :=h5.1.1
   omega
set_option maxRecDepth 100000 in
set_option maxHeartbeats 8000000 in
theorem refRight_at (n:Ino) (v:Value) (g:Nat) (hB:n.B.length=13) (w:World) (hE:EReads w v g n.E) (hN:∀k,k<n.E.length→(enm n.E k).size≤9223372036854775807):
  Calls Tryz.prog 18 #[.agg (inoC n v)] w λe w'=>e= .returned (.bool (decide (RightP n)))∧Keeps [] w w':=by
 obtain⟨a,cap,rfl,hcap,hmax,HEC⟩:=hE.open
 have HN:=Lib.hid hN
 unfold maxLen at hmax
 obtain⟨Z,hZ⟩:∃Z,Z=inoC n (.slice a n.E.length cap):=⟨_,rfl⟩
 have hat:InoAt Z n (.slice a n.E.length cap):=by rw[hZ];exact inoAt _ hB
 rw[←hZ]
 have hb0:=Blk.new w Z 37
 have c0:(w.alloc (.cells Z 37)).cell? ⟨w.heap.size,0,none⟩=some (.int .i64 n.F):=by rw[hb0.cell];exact hat.f0
 have c1:(w.alloc (.cells Z 37)).cell? ⟨w.heap.size,1,none⟩=some (.int .i64 n.K):=by rw[hb0.cell];exact hat.f1
 have c2:(w.alloc (.cells Z 37)).cell? ⟨w.heap.size,2,none⟩=some (.int .i64 n.L):=by rw[hb0.cell];exact hat.f2
 have c3:(w.alloc (.cells Z 37)).cell? ⟨w.heap.size,3,none⟩=some (.int .i64 n.S):=by rw[hb0.cell];exact hat.f3
 have c17:(w.alloc (.cells Z 37)).cell? ⟨w.heap.size,17,none⟩=some (.slice a n.E.length cap):=by rw[hb0.cell];exact hat.f5
 have HCB:Hid (∀k,k<13→(w.alloc (.cells Z 37)).cell? ⟨w.heap.size,4+k,none⟩=some (.int .i64 (n.B.getD k 0))):=λk hk=>by rw[hb0.cell];exact hat.f4 k hk
 have HK:Hid (Keeps [] w (w.alloc (.cells Z 37))):=(Keeps.refl [] w).alloc _
 have HB0:=Lib.hid hb0
 have H3:=Lib.hid hat.f3
 have H17:=Lib.hid hat.f5
 have HR:=Lib.hid (right_num hB)
 have HRP:Hid (RightP n→(n.F=1∨n.F=2)∧(n.K=1∨n.K=2)∧0≤n.L∧n.L≤65535):=λh=>⟨h.1,h.2.2.imp (·.1) (·.1),h.2.1⟩
 have HNF:=Lib.hid (num_file hB)
 have HND:=Lib.hid (num_dir hB)
 have HNR:Hid (∀k,NumR n k↔(0≤n.B.getD k 0∧n.B.getD k 0≤255)∧(0<n.B.getD k 0→n.K≠2∧64*(k:Int)<n.S∧∀j,j<k→n.B.getD j 0≠n.B.getD k 0)):=λ_=>Iff.rfl
 clear hb0 hat hZ hB hE hN
 generalize hfe:n.F=f at *
 generalize hke:n.K=kd at *
 generalize hle:n.L=lk at *
 generalize hse:n.S=sz at *
 generalize hme:n.E.length=m at *
 clear hfe hke hle hse hme
 by_cases f1:f<1
 ·have HF:Hid (decide (RightP n)=false):=decide_eq_false λh=>by have :=HRP.out h;omega
  clear HRP HNF HND HNR HR HEC HN HCB
  go_enter Tryz.func18,Tryz.ntmps18
  go_wp2_with fail
  go_ret
  exact⟨by rw[HF.out];rfl,HK.out⟩
 ·skip
  by_cases f2:2<f
  ·have HF:Hid (decide (RightP n)=false):=decide_eq_false λh=>by have :=HRP.out h;omega
   clear HRP HNF HND HNR HR HEC HN HCB
   go_enter Tryz.func18,Tryz.ntmps18
   go_wp2_with fail
   go_ret
   exact⟨by rw[HF.out];rfl,HK.out⟩
  ·skip
   by_cases k1:kd<1
   ·have HF:Hid (decide (RightP n)=false):=decide_eq_false λh=>by have :=HRP.out h;omega
    clear HRP HNF HND HNR HR HEC HN HCB
    go_enter Tryz.func18,Tryz.ntmps18
    go_wp2_with fail
    go_ret
    exact⟨by rw[HF.out];rfl,HK.out⟩
   ·skip
    by_cases k2:2<kd
    ·have HF:Hid (decide (RightP n)=false):=decide_eq_false λh=>by have :=HRP.out h;omega
     clear HRP HNF HND HNR HR HEC HN HCB
     go_enter Tryz.func18,Tryz.ntmps18
     go_wp2_with fail
     go_ret
     exact⟨by rw[HF.out];rfl,HK.out⟩
    ·skip
     by_cases l1:lk<0
     ·have HF:Hid (decide (RightP n)=false):=decide_eq_false λh=>by have :=HRP.out h;omega
      clear HRP HNF HND HNR HR HEC HN HCB
      go_enter Tryz.func18,Tryz.ntmps18
      go_wp2_with fail
      go_ret
      exact⟨by rw[HF.out];rfl,HK.out⟩
     ·skip
      by_cases l2:65535<lk
      ·have HF:Hid (decide (RightP n)=false):=decide_eq_false λh=>by have :=HRP.out h;omega
       clear HRP HNF HND HNR HR HEC HN HCB
       go_enter Tryz.func18,Tryz.ntmps18
       go_wp2_with fail
       go_ret
       exact⟨by rw[HF.out];rfl,HK.out⟩
      ·skip
       have hfo:f=1∨f=2:=by omega
       have hlo:0≤lk∧lk≤65535:=by omega
       have HNF':Hid (kd=1→(∀k,k<13→NumR n k)→(RightP n↔(0≤sz∧sz≤832∧m=0))):=HNF.out hfo hlo
       have HND':Hid (kd=2→(∀k,k<13→NumR n k)→(RightP n↔(m≤24∧sz=m)∧∀k,k<m→EntP n.E k)):=HND.out hfo hlo
       have HKD:Hid (kd=1∨kd=2):=by show _∨_;omega
       clear HRP HNF HND hfo hlo
       go_enter Tryz.func18,Tryz.ntmps18
       go_wp2_with fail
       clear c0 c2 f1 f2 k1 k2 l1 l2
       go_loopg [3] 13 (λgh s3 wx=>∃k:Nat,k+gh=13∧s3= .int .i64 (k:Int)∧wx=(w.alloc (.cells Z 37))∧Hid (∀i,i<k→NumR n i))
       case atStart=>exact⟨0,by omega,rfl,rfl,by intro i hi;omega⟩
       case round=>
        obtain⟨k,hk,rfl,rfl,HP⟩:=hrel
        cases gk with
        |succ gg=>
         have hk13:k<13:=by omega
         have hlt:(k:Int)<13:=by omega
         have hk0:(0:Int)≤(k:Int):=by omega
         have hcb:=HCB.out k hk13
         have hw64:wrap64 (64*(k:Int))=64*(k:Int):=by unfold wrap64;omega
         have HNO:Hid (¬NumR n k→decide (RightP n)=false):=λh=>decide_eq_false λhr=>h (HR.out hr k hk13)
         have HNK:=Lib.hid (HNR.out k)
         generalize hx:n.B.getD k 0=x at *
         by_cases x0:x<0
         ·have HF:Hid (decide (RightP n)=false):=HNO.out λh=>by have :=HNK.out.1 h;omega
          clear HNO HNK HNR HNF' HND' HR HEC HN HP hk
          go_wp2_with fail
          go_ret
          exact⟨by rw[HF.out];rfl,HK.out⟩
         ·by_cases x1:255<x
          ·have HF:Hid (decide (RightP n)=false):=HNO.out λh=>by have :=HNK.out.1 h;omega
           clear HNO HNK HNR HNF' HND' HR HEC HN HP hk
           go_wp2_with fail
           go_ret
           exact⟨by rw[HF.out];rfl,HK.out⟩
          ·by_cases x2:0<x
           ·by_cases x3:kd=2
            ·have HF:Hid (decide (RightP n)=false):=HNO.out λh=>(HNK.out.1 h).2 x2 |>.1 x3
             subst x3
             clear HNO HNK HNR HNF' HND' HR HEC HN HP hk
             go_wp2_with fail
             go_ret
             exact⟨by rw[HF.out];rfl,HK.out⟩
            ·have x3':(kd==2)=false:=by simpa using x3
             by_cases x4:sz≤64*(k:Int)
             ·have HF:Hid (decide (RightP n)=false):=HNO.out λh=>by have :=((HNK.out.1 h).2 x2).2.1;omega
              clear HNO HNK HNR HNF' HND' HR HEC HN HP hk
              go_wp2_with fail
              go_ret
              exact⟨by rw[HF.out];rfl,HK.out⟩
             ·have HSTEP:Hid ((∀j,j<k→n.B.getD j 0≠x)→∀i,i<k+1→NumR n i):=λh i hi=>by
               by_cases e:i=k
               ·subst e;exact HNK.out.2 ⟨by omega,λ_=>⟨x3,by omega,h⟩⟩
               ·exact HP.out i (by omega)
              have HNE:Hid (∀j,j<k→n.B.getD j 0=x→decide (RightP n)=false):=λj hj he=>HNO.out λh=>((HNK.out.1 h).2 x2).2.2 j hj he
              clear HNO HNK HP
              go_wp2_with fail
              go_loopg [5] k (λgh s5 wx=>∃j:Nat,j+gh=k∧s5= .int .i64 (j:Int)∧wx=(w.alloc (.cells Z 37))∧Hid (∀i,i<j→n.B.getD i 0≠x))
              case atStart=>exact⟨0,by omega,rfl,rfl,by intro i hi;omega⟩
              case round=>
               obtain⟨j,hj,rfl,rfl,HQ⟩:=hrel
               cases gk with
               |zero=>
                obtain rfl:j=k:=by omega
                have HNX:=Lib.hid (HSTEP.out HQ.out)
                clear HSTEP HNE HQ hj hw64 x3' x4
                go_wp2_with fail
                go_roundg gg
                case measure=>omega
                case rel=>exact⟨j+1,by omega,by go_num,rfl,HNX.out⟩
               |succ g2=>
                have hjk:(j:Int)<(k:Int):=by omega
                have hj0:(0:Int)≤(j:Int):=by omega
                have hj13:(j:Int)<13:=by omega
                have hcj:=HCB.out j (by omega)
                generalize hy:n.B.getD j 0=y at *
                by_cases e:y=x
                ·have HF:=Lib.hid (HNE.out j (by omega) (by rw[hy,e]))
                 subst e
                 clear HSTEP HNE HQ HNR HNF' HND' HR HEC HN hj hk
                 go_wp2_with fail
                 go_ret
                 exact⟨by rw[HF.out];rfl,HK.out⟩
                ·have e':(y==x)=false:=by simpa using e
                 have HQ2:Hid (∀i,i<j+1→n.B.getD i 0≠x):=λi hi=>by
                  by_cases e2:i=j
                  ·subst e2;rw[hy];exact e
                  ·exact HQ.out i (by omega)
                 clear HQ HSTEP
                 go_wp2_with fail
                 go_roundg g2
                 case measure=>omega
                 case rel=>exact⟨j+1,by omega,by go_num,rfl,HQ2.out⟩
           ·obtain rfl:x=0:=by omega
            have HNX:Hid (∀i,i<k+1→NumR n i):=λi hi=>by
             by_cases e:i=k
             ·subst e;exact HNK.out.2 ⟨by omega,λh=>by omega⟩
             ·exact HP.out i (by omega)
            clear HNO HNK HP x0 x1 x2
            go_wp2_with fail
            go_loopg [5] k (λgh s5 wx=>∃j:Nat,j+gh=k∧s5= .int .i64 (j:Int)∧wx=(w.alloc (.cells Z 37)))
            case atStart=>exact⟨0,by omega,rfl,rfl⟩
            case round=>
             obtain⟨j,hj,rfl,rfl⟩:=hrel
             cases gk with
             |zero=>
              obtain rfl:j=k:=by omega
              clear hj
              go_wp2_with fail
              go_roundg gg
              case measure=>omega
              case rel=>exact⟨j+1,by omega,by go_num,rfl,HNX.out⟩
             |succ g2=>
              have hjk:(j:Int)<(k:Int):=by omega
              have hj0:(0:Int)≤(j:Int):=by omega
              clear HNX
              go_wp2_with fail
              go_roundg g2
              case measure=>omega
              case rel=>exact⟨j+1,by omega,by go_num,rfl⟩
        |zero=>
         obtain rfl:k=13:=by omega
         clear hk HR HNR HCB
         rcases HKD.out with rfl|rfl
         ·have HD:=Lib.hid (HNF'.out rfl HP.out)
          clear HNF' HND' HP HKD HEC HN
          by_cases s1:sz<0
          ·have HF:Hid (decide (RightP n)=false):=decide_eq_false λh=>by have :=HD.out.1 h;omega
           clear HD
           go_wp2_with fail
           go_ret
           exact⟨by rw[HF.out];rfl,HK.out⟩
          ·by_cases s2:832<sz
           ·have HF:Hid (decide (RightP n)=false):=decide_eq_false λh=>by have :=HD.out.1 h;omega
            clear HD
            go_wp2_with fail
            go_ret
            exact⟨by rw[HF.out];rfl,HK.out⟩
           ·by_cases s3:m=0
            ·have HF:Hid (decide (RightP n)=true):=decide_eq_true (HD.out.2 ⟨by omega,by omega,s3⟩)
             subst s3
             clear HD
             go_wp2_with fail
             go_ret
             exact⟨by rw[HF.out];rfl,HK.out⟩
            ·have HF:Hid (decide (RightP n)=false):=decide_eq_false λh=>by have :=HD.out.1 h;omega
             have s3':((m:Int)==0)=false:=by simp;omega
             clear HD
             go_wp2_with fail
             go_ret
             exact⟨by rw[HF.out];rfl,HK.out⟩
         ·have HD:=Lib.hid (HND'.out rfl HP.out)
          clear HNF' HND' HP HKD
          go_wp2_with fail
          clear c1 c3 c17
          go_loopg [6] m (λgh s6 wx=>∃k:Nat,k+gh=m∧s6= .int .i64 (k:Int)∧Hid ((∀i,i<k→EntP n.E i)∧Keeps [] (w.alloc (.cells Z 37)) wx))
          case atStart=>exact⟨0,by omega,rfl,by simp,Keeps.refl _ _⟩
          case round=>
           obtain⟨k,hk,rfl,HR⟩:=hrel
           have hbr:=HB0.out.keep HR.out.2 (by simp)
           have c17:wr.cell? ⟨w.heap.size,17,none⟩=some (.slice a m cap):=by rw[hbr.cell];exact H17.out
           have c3:wr.cell? ⟨w.heap.size,3,none⟩=some (.int .i64 sz):=by rw[hbr.cell];exact H3.out
           cases gk with
           |zero=>
            obtain rfl:k=m:=by omega
            have HKP:=Lib.hid (HK.out.trans' HR.out.2)
            have HD2:Hid (RightP n↔(k≤24∧sz=k)):=by
             show _↔_
             rw[HD.out]
             exact⟨λh=>h.1,λh=>⟨h,HR.out.1⟩⟩
            clear HR hk HD hbr HEC HN
            by_cases s1:24<k
            ·have HF:Hid (decide (RightP n)=false):=decide_eq_false λh=>by have :=HD2.out.1 h;omega
             clear HD2
             go_wp2_with fail
             go_ret
             exact⟨by rw[HF.out];rfl,HKP.out⟩
            ·by_cases s2:sz=k
             ·have HF:Hid (decide (RightP n)=true):=decide_eq_true (HD2.out.2 ⟨by omega,s2⟩)
              have s2':(sz==(k:Int))=true:=by simpa using s2
              clear HD2 s2
              go_wp2_with fail
              go_ret
              exact⟨by rw[HF.out];rfl,HKP.out⟩
             ·have HF:Hid (decide (RightP n)=false):=decide_eq_false λh=>s2 (HD2.out.1 h).2
              have s2':(sz==(k:Int))=false:=by simpa using s2
              clear HD2
              go_wp2_with fail
              go_ret
              exact⟨by rw[HF.out];rfl,HKP.out⟩
           |succ gg=>
            clear hbr c3
            have hkm:k<m:=by omega
            have hlt:(k:Int)<(m:Int):=by omega
            have hk0:(0:Int)≤(k:Int):=by omega
            obtain⟨hg,off,rfl,e0,e1⟩:=HEC.out k hkm
            have hkw:=HK.out.trans' HR.out.2
            have HLE:Hid ((loadVar 85 ⟨g,off+k*2,none⟩).run Tryz.prog wr= .ok (.agg #[.string (enm n.E k),.int .i64 (eno n.E k)]) wr):=load_entry ((World.cell?_of_block (hkw.block g hg (by simp))).trans e0) ((World.cell?_of_block (hkw.block g hg (by simp))).trans e1)
            have HG:=Lib.hid (λwx=>refGood_at (enm n.E k) (HN.out k hkm) wx)
            have HEP:Hid (EntP n.E k↔goodN (bl (enm n.E k))=true∧(0≤eno n.E k∧eno n.E k≤31)∧(0<k→leB (enm n.E k) (enm n.E (k-1))=false)):=Iff.rfl
            have HNO:Hid (¬EntP n.E k→decide (RightP n)=false):=λh=>decide_eq_false λhd=>h ((HD.out.1 hd).2 k hkm)
            have HKW:=Lib.hid hkw
            have HPRE:=Lib.hid HR.out.1
            have HKR:=Lib.hid HR.out.2
            have HPV:Hid (∀q,k=q+1→wr.cell? ⟨g,off+q*2,none⟩=some (.string (enm n.E q))):=λq hq=>by
             obtain⟨-,off',ho',f0,-⟩:=HEC.out q (by omega)
             cases ho'
             exact(World.cell?_of_block (w:=w) (a:=⟨g,off+q*2,none⟩) (hkw.block g hg (by simp))).trans f0
            have hza:∀w:World,(zeroValue 85).run Tryz.prog w= .ok (.agg #[.string ⟨#[]⟩,.int .i64 0]) w:=λw=>by kernel_rfl
            clear hkw e0 e1 HEC HR HD
            generalize hnm:enm n.E k=nm at *
            generalize eno n.E k=ino at *
            go_wp2_with((with_reducible show wpList _ _ _ (⟨_,.load 85 (.tmp 108),_,_,_,_⟩::_) _ _);refine wpList_load_any rfl 85 (.tmp 108) rfl _ rfl _ HLE.out ?_)
            cases hgd:goodN (bl nm)
            ·have HF:Hid (decide (RightP n)=false):=HNO.out λh=>by have :=(HEP.out.1 h).1;rw[hgd] at this;cases this
             rw[hgd] at HG
             clear HEP HNO hgd hk HPV HPRE HKR HN
             refine wp_region_each (S:=λwx=>wx=_) (by kernel_rfl) (by kernel_rfl) (λd _ _ _ _ h=>by cases d<;>exact h) rfl (by kernel_rfl) ?_
             repeat (first
              |(refine EachList.cons (.bool false) (EachIf.call rfl 35 #[.string nm] ?he ?h) ?_;(case he=>(intro wz;go_simp));(case h=>exact λwx hx=>(HG.out wx).mono λe w' he=>⟨he.1,he.2▸hx⟩);simp only[Act.put,List.setIfInBounds_toArray,List.set_cons_zero,List.set_cons_succ])
              |(refine EachList.cons undef (EachIf.off rfl) ?_;simp only[Act.put,List.setIfInBounds_toArray,List.set_cons_zero,List.set_cons_succ])
              |((with_reducible show EachList _ _ _ _ (⟨_,_,4,_,_,_⟩::_) _);refine EachList.cons (.bool true) (EachIf.val rfl ?h) ?_;(case h=>(intro wx hx;subst hx;first|(go_simp;done)|(go_simp;simp[*];done)));simp only[Act.put,List.setIfInBounds_toArray,List.set_cons_zero,List.set_cons_succ])
              |((with_reducible show EachList _ _ _ _ (⟨_,_,4,_,_,_⟩::_) _);refine EachList.cons (.bool false) (EachIf.val rfl ?h) ?_;(case h=>(intro wx hx;subst hx;first|(go_simp;done)|(go_simp;simp[*];done)));simp only[Act.put,List.setIfInBounds_toArray,List.set_cons_zero,List.set_cons_succ])
              |(refine EachList.cons ?_ (EachIf.val rfl ?h) ?_;(case h=>(intro wx hx;subst hx;go_simp;rfl));simp only[Act.put,List.setIfInBounds_toArray,List.set_cons_zero,List.set_cons_succ]))
             refine EachList.done λwx hx=> ?_
             subst hx
             go_wp2_with fail
             go_ret
             exact⟨by rw[HF.out];rfl,(HKW.out.alloc _).drew⟩
            ·rw[hgd] at HG
             by_cases hi0:ino<0
             ·have HF:Hid (decide (RightP n)=false):=HNO.out λh=>by have :=(HEP.out.1 h).2.1.1;omega
              clear HEP HNO hgd hk HPV HPRE HKR HN
              refine wp_region_each (S:=λwx=>wx=_) (by kernel_rfl) (by kernel_rfl) (λd _ _ _ _ h=>by cases d<;>exact h) rfl (by kernel_rfl) ?_
              repeat (first
               |(refine EachList.cons (.bool true) (EachIf.call rfl 35 #[.string nm] ?he ?h) ?_;(case he=>(intro wz;go_simp));(case h=>exact λwx hx=>(HG.out wx).mono λe w' he=>⟨he.1,he.2▸hx⟩);simp only[Act.put,List.setIfInBounds_toArray,List.set_cons_zero,List.set_cons_succ])
               |(refine EachList.cons undef (EachIf.off rfl) ?_;simp only[Act.put,List.setIfInBounds_toArray,List.set_cons_zero,List.set_cons_succ])
               |((with_reducible show EachList _ _ _ _ (⟨_,_,4,_,_,_⟩::_) _);refine EachList.cons (.bool true) (EachIf.val rfl ?h) ?_;(case h=>(intro wx hx;subst hx;first|(go_simp;done)|(go_simp;simp[*];done)));simp only[Act.put,List.setIfInBounds_toArray,List.set_cons_zero,List.set_cons_succ])
               |((with_reducible show EachList _ _ _ _ (⟨_,_,4,_,_,_⟩::_) _);refine EachList.cons (.bool false) (EachIf.val rfl ?h) ?_;(case h=>(intro wx hx;subst hx;first|(go_simp;done)|(go_simp;simp[*];done)));simp only[Act.put,List.setIfInBounds_toArray,List.set_cons_zero,List.set_cons_succ])
               |(refine EachList.cons ?_ (EachIf.val rfl ?h) ?_;(case h=>(intro wx hx;subst hx;go_simp;rfl));simp only[Act.put,List.setIfInBounds_toArray,List.set_cons_zero,List.set_cons_succ]))
              refine EachList.done λwx hx=> ?_
              subst hx
              go_wp2_with fail
              go_ret
              exact⟨by rw[HF.out];rfl,(HKW.out.alloc _).drew⟩
             ·by_cases hi1:31<ino
              ·have HF:Hid (decide (RightP n)=false):=HNO.out λh=>by have :=(HEP.out.1 h).2.1.2;omega
               clear HEP HNO hgd hk HPV HPRE HKR HN
               refine wp_region_each (S:=λwx=>wx=_) (by kernel_rfl) (by kernel_rfl) (λd _ _ _ _ h=>by cases d<;>exact h) rfl (by kernel_rfl) ?_
               repeat (first
                |(refine EachList.cons (.bool true) (EachIf.call rfl 35 #[.string nm] ?he ?h) ?_;(case he=>(intro wz;go_simp));(case h=>exact λwx hx=>(HG.out wx).mono λe w' he=>⟨he.1,he.2▸hx⟩);simp only[Act.put,List.setIfInBounds_toArray,List.set_cons_zero,List.set_cons_succ])
                |(refine EachList.cons undef (EachIf.off rfl) ?_;simp only[Act.put,List.setIfInBounds_toArray,List.set_cons_zero,List.set_cons_succ])
                |((with_reducible show EachList _ _ _ _ (⟨_,_,4,_,_,_⟩::_) _);refine EachList.cons (.bool true) (EachIf.val rfl ?h) ?_;(case h=>(intro wx hx;subst hx;first|(go_simp;done)|(go_simp;simp[*];done)));simp only[Act.put,List.setIfInBounds_toArray,List.set_cons_zero,List.set_cons_succ])
                |((with_reducible show EachList _ _ _ _ (⟨_,_,4,_,_,_⟩::_) _);refine EachList.cons (.bool false) (EachIf.val rfl ?h) ?_;(case h=>(intro wx hx;subst hx;first|(go_simp;done)|(go_simp;simp[*];done)));simp only[Act.put,List.setIfInBounds_toArray,List.set_cons_zero,List.set_cons_succ])
                |(refine EachList.cons ?_ (EachIf.val rfl ?h) ?_;(case h=>(intro wx hx;subst hx;go_simp;rfl));simp only[Act.put,List.setIfInBounds_toArray,List.set_cons_zero,List.set_cons_succ]))
               refine EachList.done λwx hx=> ?_
               subst hx
               go_wp2_with fail
               go_ret
               exact⟨by rw[HF.out];rfl,(HKW.out.alloc _).drew⟩
              ·by_cases hkz:k=0
               ·have HPN:Hid (∀i,i<k+1→EntP n.E i):=λi hi=>by
                 obtain rfl:i=k:=by omega
                 exact HEP.out.2 ⟨hgd,⟨by omega,by omega⟩,λh=>absurd h (by omega)⟩
                have hkn:¬(0:Int)<(k:Int):=by omega
                have hkd:decide (0<k)=false:=decide_eq_false (by omega)
                clear HEP HNO hgd HPV HPRE hkz HN
                refine wp_region_each (S:=λwx=>wx=_) (by kernel_rfl) (by kernel_rfl) (λd _ _ _ _ h=>by cases d<;>exact h) rfl (by kernel_rfl) ?_
                repeat (first
                 |(refine EachList.cons (.bool true) (EachIf.call rfl 35 #[.string nm] ?he ?h) ?_;(case he=>(intro wz;go_simp));(case h=>exact λwx hx=>(HG.out wx).mono λe w' he=>⟨he.1,he.2▸hx⟩);simp only[Act.put,List.setIfInBounds_toArray,List.set_cons_zero,List.set_cons_succ])
                 |(refine EachList.cons undef (EachIf.off rfl) ?_;simp only[Act.put,List.setIfInBounds_toArray,List.set_cons_zero,List.set_cons_succ])
                 |((with_reducible show EachList _ _ _ _ (⟨_,_,4,_,_,_⟩::_) _);refine EachList.cons (.bool true) (EachIf.val rfl ?h) ?_;(case h=>(intro wx hx;subst hx;first|(go_simp;done)|(go_simp;simp[*];done)));simp only[Act.put,List.setIfInBounds_toArray,List.set_cons_zero,List.set_cons_succ])
                 |((with_reducible show EachList _ _ _ _ (⟨_,_,4,_,_,_⟩::_) _);refine EachList.cons (.bool false) (EachIf.val rfl ?h) ?_;(case h=>(intro wx hx;subst hx;first|(go_simp;done)|(go_simp;simp[*];done)));simp only[Act.put,List.setIfInBounds_toArray,List.set_cons_zero,List.set_cons_succ])
                 |(refine EachList.cons ?_ (EachIf.val rfl ?h) ?_;(case h=>(intro wx hx;subst hx;go_simp;rfl));simp only[Act.put,List.setIfInBounds_toArray,List.set_cons_zero,List.set_cons_succ]))
                refine EachList.done λwx hx=> ?_
                subst hx
                go_wp2_with fail
                go_roundg gg
                case measure=>omega
                case rel=>exact⟨k+1,by omega,by go_num,HPN.out,(HKR.out.alloc _).drew⟩
               ·obtain⟨q,hq⟩:∃q,k=q+1:=⟨k-1,by omega⟩
                have hpv0:=HPV.out q hq
                have hpv:∀o,(wr.alloc o).cell? ⟨g,off+q*2,none⟩=some (.string (enm n.E q)):=λo=>by
                 rw[World.cell?_alloc_some _ _ _ (by rw[hpv0];rfl)]
                 exact hpv0
                have c17a:∀o,(wr.alloc o).cell? ⟨w.heap.size,17,none⟩=some (.slice (some ⟨g,off,none⟩) m cap):=λo=>by
                 rw[World.cell?_alloc_some _ _ _ (by rw[c17];rfl)]
                 exact c17
                clear hpv0
                have hkp:(0:Int)<(k:Int):=by omega
                have hkd:decide (0<k)=true:=decide_eq_true (by omega)
                have hkq:(k:Int)-1=(q:Int):=by omega
                have hqm:(q:Int)<(m:Int):=by omega
                have hq0:(0:Int)≤(q:Int):=by omega
                have hwq:IntKind.i64.wrap (q:Int)=(q:Int):=IntWalk.i64_in _ (by omega)
                have hlb:∀b,leB nm (enm n.E q)=b→(Op.bytesLess nm.toList (enm n.E q).toList||(nm.toList==(enm n.E q).toList))=b:=λb h=>h
                have HEP2:Hid (EntP n.E k↔leB nm (enm n.E q)=false):=by
                 show _↔_
                 rw[HEP.out,show k-1=q by omega]
                 exact⟨λh=>h.2.2 (by omega),λh=>⟨hgd,⟨by omega,by omega⟩,λ_=>h⟩⟩
                generalize enm n.E q=pm at *
                cases hle:leB nm pm
                ·have HPN:Hid (∀i,i<k+1→EntP n.E i):=λi hi=>by
                  by_cases e:i=k
                  ·subst e;exact HEP2.out.2 hle
                  ·exact HPRE.out i (by omega)
                 have hlb2:=hlb _ hle
                 clear HEP HEP2 HNO hgd HPV HPRE hkz hlb hle hq HN
                 refine wp_region_each (S:=λwx=>wx=_) (by kernel_rfl) (by kernel_rfl) (λd _ _ _ _ h=>by cases d<;>exact h) rfl (by kernel_rfl) ?_
                 repeat (first
                  |(refine EachList.cons (.bool true) (EachIf.call rfl 35 #[.string nm] ?he ?h) ?_;(case he=>(intro wz;go_simp));(case h=>exact λwx hx=>(HG.out wx).mono λe w' he=>⟨he.1,he.2▸hx⟩);simp only[Act.put,List.setIfInBounds_toArray,List.set_cons_zero,List.set_cons_succ])
                  |(refine EachList.cons undef (EachIf.off rfl) ?_;simp only[Act.put,List.setIfInBounds_toArray,List.set_cons_zero,List.set_cons_succ])
                  |((with_reducible show EachList _ _ _ _ (⟨_,_,4,_,_,_⟩::_) _);refine EachList.cons (.bool true) (EachIf.val rfl ?h) ?_;(case h=>(intro wx hx;subst hx;first|(go_simp;done)|(go_simp;simp[*];done)));simp only[Act.put,List.setIfInBounds_toArray,List.set_cons_zero,List.set_cons_succ])
                  |((with_reducible show EachList _ _ _ _ (⟨_,_,4,_,_,_⟩::_) _);refine EachList.cons (.bool false) (EachIf.val rfl ?h) ?_;(case h=>(intro wx hx;subst hx;first|(go_simp;done)|(go_simp;simp[*];done)));simp only[Act.put,List.setIfInBounds_toArray,List.set_cons_zero,List.set_cons_succ])
                  |((with_reducible show EachList _ _ _ _ (⟨some 133,_,_,_,_,_⟩::_) _);refine EachList.cons (.int .i64 (q:Int)) (EachIf.val rfl ?h) ?_;(case h=>(intro wx hx;subst hx;go_simp;done));simp only[Act.put,List.setIfInBounds_toArray,List.set_cons_zero,List.set_cons_succ])
                  |(refine EachList.cons ?_ (EachIf.val rfl ?h) ?_;(case h=>(intro wx hx;subst hx;go_simp;rfl));simp only[Act.put,List.setIfInBounds_toArray,List.set_cons_zero,List.set_cons_succ]))
                 refine EachList.done λwx hx=> ?_
                 subst hx
                 go_wp2_with fail
                 go_roundg gg
                 case measure=>omega
                 case rel=>exact⟨k+1,by omega,by go_num,HPN.out,(HKR.out.alloc _).drew⟩
                ·have HF:Hid (decide (RightP n)=false):=HNO.out λh=>by
                  have :=HEP2.out.1 h
                  rw[hle] at this
                  cases this
                 have hlb2:=hlb _ hle
                 clear HEP HEP2 HNO hgd HPV HPRE hkz hlb hle hq hk HKR HN
                 refine wp_region_each (S:=λwx=>wx=_) (by kernel_rfl) (by kernel_rfl) (λd _ _ _ _ h=>by cases d<;>exact h) rfl (by kernel_rfl) ?_
                 repeat (first
                  |(refine EachList.cons (.bool true) (EachIf.call rfl 35 #[.string nm] ?he ?h) ?_;(case he=>(intro wz;go_simp));(case h=>exact λwx hx=>(HG.out wx).mono λe w' he=>⟨he.1,he.2▸hx⟩);simp only[Act.put,List.setIfInBounds_toArray,List.set_cons_zero,List.set_cons_succ])
                  |(refine EachList.cons undef (EachIf.off rfl) ?_;simp only[Act.put,List.setIfInBounds_toArray,List.set_cons_zero,List.set_cons_succ])
                  |((with_reducible show EachList _ _ _ _ (⟨_,_,4,_,_,_⟩::_) _);refine EachList.cons (.bool true) (EachIf.val rfl ?h) ?_;(case h=>(intro wx hx;subst hx;first|(go_simp;done)|(go_simp;simp[*];done)));simp only[Act.put,List.setIfInBounds_toArray,List.set_cons_zero,List.set_cons_succ])
                  |((with_reducible show EachList _ _ _ _ (⟨_,_,4,_,_,_⟩::_) _);refine EachList.cons (.bool false) (EachIf.val rfl ?h) ?_;(case h=>(intro wx hx;subst hx;first|(go_simp;done)|(go_simp;simp[*];done)));simp only[Act.put,List.setIfInBounds_toArray,List.set_cons_zero,List.set_cons_succ])
                  |((with_reducible show EachList _ _ _ _ (⟨some 133,_,_,_,_,_⟩::_) _);refine EachList.cons (.int .i64 (q:Int)) (EachIf.val rfl ?h) ?_;(case h=>(intro wx hx;subst hx;go_simp;done));simp only[Act.put,List.setIfInBounds_toArray,List.set_cons_zero,List.set_cons_succ])
                  |(refine EachList.cons ?_ (EachIf.val rfl ?h) ?_;(case h=>(intro wx hx;subst hx;go_simp;rfl));simp only[Act.put,List.setIfInBounds_toArray,List.set_cons_zero,List.set_cons_succ]))
                 refine EachList.done λwx hx=> ?_
                 subst hx
                 go_wp2_with fail
                 go_ret
                 exact⟨by rw[HF.out];rfl,(HKW.out.alloc _).drew⟩
def FewPost (w:World) (n:Ino) (e:Ending) (w':World):Prop:=(∃b,e= .returned (.bool b)∧(b=true→n.E.length≤40∧∀k,k<n.E.length→(enm n.E k).size≤50))∧Keeps [] w w'
set_option maxRecDepth 100000 in
set_option maxHeartbeats 2000000 in
theorem refFew_at (n:Ino) (v:Value) (g:Nat) (hB:n.B.length=13) (w:World) (hE:EReads w v g n.E):
  Calls Tryz.prog 17 #[.agg (inoC n v)] w (FewPost w n):=by
 have HFP:Hid (∀b w',(b=true→n.E.length≤40∧∀k,k<n.E.length→(enm n.E k).size≤50)→Keeps [] w w'→FewPost w n (.returned (.bool b)) w'):=λb w' h hk=>⟨⟨b,rfl,h⟩,hk⟩
 obtain⟨a,cap,rfl,hcap,hmax,HEC⟩:=hE.open
 have hat:=inoAt (.slice a n.E.length cap) hB
 generalize inoC n (.slice a n.E.length cap)=Z at *
 have hb0:=Blk.new w Z 37
 have c17:(w.alloc (.cells Z 37)).cell? ⟨w.heap.size,17,none⟩=some (.slice a n.E.length cap):=by rw[hb0.cell];exact hat.f5
 have HK:Hid (Keeps [] w (w.alloc (.cells Z 37))):=(Keeps.refl [] w).alloc _
 unfold maxLen at hmax
 clear hb0 hat hB hE
 generalize hm:n.E.length=m at *
 clear hm
 go_enter Tryz.func17,Tryz.ntmps17
 go_wp2_with fail
 go_loopg [3] 50 (λgh s3 wx=>∃k:Nat,k+gh=50∧k≤m∧s3= .int .i64 (k:Int)∧wx=w.alloc (.cells Z 37)∧Hid (∀i,i<k→(enm n.E i).size≤50))
 case atStart=>exact⟨0,by omega,by omega,rfl,rfl,by intro i hi;omega⟩
 case round=>
  obtain⟨k,hk,hkm,rfl,rfl,HP⟩:=hrel
  by_cases hlt:k<m
  ·have h1:(k:Int)<(m:Int):=by omega
   cases gk with
   |zero=>
    have h50:¬(k:Int)<50:=by omega
    have h40:¬(m:Int)≤40:=by omega
    go_wp2_with fail
    go_ret
    exact HFP.out _ _ (λh=>(by cases h)) HK.out
   |succ gg=>
    have h50:(k:Int)<50:=by omega
    have hk0:(0:Int)≤(k:Int):=by omega
    obtain⟨hg,off,rfl,e0,-⟩:=HEC.out k hlt
    have c0:(w.alloc (.cells Z 37)).cell? ⟨g,off+k*2,none⟩=some (.string (enm n.E k)):=(World.cell?_of_block (w:=w) (a:=⟨g,off+k*2,none⟩) (HK.out.block g hg (by simp))).trans e0
    clear e0
    by_cases hs:50<(enm n.E k).size
    ·have hs':(50:Int)<((enm n.E k).size:Int):=by omega
     clear HEC HP
     generalize enm n.E k=nm at *
     go_wp2_with fail
     go_ret
     exact HFP.out _ _ (λh=>(by cases h)) HK.out
    ·have hs':¬(50:Int)<((enm n.E k).size:Int):=by omega
     have HP2:Hid (∀i,i<k+1→(enm n.E i).size≤50):=λi hi=>by
      by_cases e:i=k
      ·subst e;omega
      ·exact HP.out i (by omega)
     clear HEC HP
     generalize enm n.E k=nm at *
     go_wp2_with fail
     go_roundg gg
     case measure=>omega
     case rel=>exact⟨k+1,by omega,by omega,by go_num,rfl,HP2⟩
  ·have h1:¬(k:Int)<(m:Int):=by omega
   obtain rfl:k=m:=by omega
   have HQ:=Lib.hid HP.out
   go_wp2_with fail
   go_ret
   exact HFP.out _ _ (λh=>⟨by have :=of_decide_eq_true h;omega,HQ.out⟩) HK.out
end Go.Proofs.YtphojondgfjmgaaGreatDoor
namespace Go.Proofs.YtphojondgfjmgaaGreatDoor
open Go.RowKit
end Go.Proofs.YtphojondgfjmgaaGreatDoor
