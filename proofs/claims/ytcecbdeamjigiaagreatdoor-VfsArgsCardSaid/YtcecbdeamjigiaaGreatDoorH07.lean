/- Lemmas. -/
import Derived.Test.YtcecbdeamjigiaaGreatDoorH06
set_option maxHeartbeats 8000000
set_option maxRecDepth 100000
namespace Go.Proofs.YtcecbdeamjigiaaGreatDoor
open Go.RowKit
variable{w w':World}{T a b g:Nat}{C l ws:List Int}{v:Value}{P:Program}{E:List (ByteArray×Int)}{own:List Nat}
theorem Oa (b c:Nat)(y:c<=8)(w:World):(Instr.sliceAt 188 (.pointer (some ⟨b,0,none⟩)) none (some (.int .i64 (c:Int))) none).run Tryz.prog w= .ok (.slice (some ⟨b,0,none⟩) c 8) w:=by
 have h:c=0\/c=1\/c=2\/c=3\/c=4\/c=5\/c=6\/c=7\/c=8:=by omega
 rcases h with rfl|rfl|rfl|rfl|rfl|rfl|rfl|rfl|rfl
 all_goals (show Sem.run _ _ _=_;kernel_rfl)
theorem bm.reads{o n c:Nat}(h:bm w b (aR l).toArray T)(J:o+n<=l.length)(G:n<=c)(U:c<=1000):Reads w (.slice (some ⟨b,o,none⟩) n c) b (aR ((l.drop o).take n)):=by
 have y:(aR ((l.drop o).take n)).length=n:=by rw[bc,aI,bu];omega
 refine⟨_,c,by rw[y],by rw[y];exact G,by unfold maxLen;omega,λ_=>⟨h.lt,o,rfl,λj z=> ?_⟩⟩;rw[y] at z;rw[h.cell,aC,cC (by omega),cC (by rw[aI,bu];omega)];simp[z]
theorem ay.grown2{wr h:World}{row:Option Nat}(y:ay [] w wr)(z:wr.grownBy h row)(G:∀k,row=some k->w.heap.size<=k):ay [] w h:=y.grown z G
def kt (w:World) (X l:List Int) (m:Nat) (e:Ending) (w':World):Prop:=
 ∃v E ok g,e= .returned (.tuple #[v,.bool ok])/\bz w' v g E/\w.heap.size<=g/\(ok=true->kQ X l m/\E=oG X l m)/\(ok=false->¬kQ X l m/\E=[])/\ay [] w w'
theorem kt.no{X:List Int}{m:Nat}(h:¬kQ X l m)(y:ay [] w w'):kt w X l m (.returned (.tuple #[.slice none 0 0,.bool false])) w':=
 ⟨_,[],false,w.heap.size,rfl,bz.nil _ _,aG _,λh=>(by cases h),λ_=>⟨h,rfl⟩,y⟩
theorem FX{gp:Nat}{B:List Int}{ps:List (Int×Int)}(h:eF w b gp B ps)(eT:dD (az B ps))(l:List Int)(hl:l.length=13)(ML:∀k,0<=l.getD k 0/\l.getD k 0<256)(m:Nat)(hm:m<=832):
  Calls Tryz.prog 188 #[.pointer (some ⟨b,0,none⟩),.agg (zs l).toArray,.int .i64 (m:Int)] w (kt w (az B ps) l m):=by
 have HS:=ar h;have sf:=ar eT;have aB:=bm.new w (zs l).toArray 108;have nu:=ar aB;have fS:Hid (ay [] w (w.alloc (.cells (zs l).toArray 108))):=(ay.refl _ _).alloc _;have aP:=tj m 4 (by omega) (by omega) (by omega);rw[show(m+4-1)/4=aZ m by unfold aZ;congr 1] at aP;have HP:=ar aP;have J7:aZ m<=300:=by unfold aZ;omega
 have nJ:Hid (∀y,ay [] (w.alloc (.cells (zs l).toArray 108)) y->(loadVar 108 ⟨w.heap.size,0,none⟩).run Tryz.prog y= .ok (.agg (zs l).toArray) y):=λy hk=>
  eD (off:=0) (aB.keep hk (by simp)) hl (λk hk=>by rw[aX,aC,eR (by omega)])
 have R3:Hid (∀y k,k<13->ay [] (w.alloc (.cells (zs l).toArray 108)) y->y.cell? ⟨w.heap.size,k,none⟩=some (.int .i64 (l.getD k 0))):=λy k hk eI=>by
  rw[(aB.keep eI (by simp)).cell,aC,eR (by omega)]
 have XH:=ar ML;have HL:=ar hl;clear h eT aB aP ML;generalize hz:(zs l).toArray=Z at *;have HZ:=ar hz;clear hz;by_cases Ka:24<m
 ·have HN:Hid (¬kQ (az B ps) l m):=λh=>by have :=h.1;omega
  have bQ:(24:Int)<(m:Int):=by omega
  generalize aZ m=aa at *;clear hl;go_enter Tryz.func188,Tryz.ntmps188;go_wp2_with fail;refine(HP.out _).mono ?_;rintro e w' ⟨rfl,rfl⟩;go_wp2_with fail;have VB:decide (24<m)=true:=bj Ka;refine dv (S:=λy=>y=(w.alloc (.cells Z 108)).drew) (by kernel_rfl) (by kernel_rfl) (λd _ _ _ _ h=>by cases d<;>exact h) rfl (by kernel_rfl) ?_;repeat (first
   |(refine aJ.cons undef (ba.off rfl) ?_;simp only[Act.put,ag,ah,ai])
   |(refine aJ.cons (.bool true) (ba.val rfl ?h) ?_;(case h=>(intro y z;clear z;first|(go_simp;done)|(go_simp;simp[VB];done)));simp only[Act.put,ag,ah,ai])
   |(refine aJ.cons ?_ (ba.val rfl ?h) ?_;(case h=>(intro y z;go_simp;rfl));simp only[Act.put,ag,ah,ai]))
  refine aJ.done λy z=> ?_
  subst z;go_wp2_with fail;go_ret2;exact kt.no HN.out fS.out.drew
 ·have VB:decide (24<m)=false:=aT Ka
  have bI:¬(24:Int)<(m:Int):=by omega
  have KT:aZ m<=13:=by unfold aZ;omega
  have HU:=ar (MB l (aZ m) hl KT);have Dl:=ar (λy=>KC (a:=l) (b:=iz l (aZ m)) hl (mr hl KT) y);rw[HZ.out] at HU Dl;have YR:=yb;obtain⟨t,ht⟩:∃t,decide (l=iz l (aZ m))=t:=⟨_,rfl⟩;rw[ht] at Dl;have bA:=Dl.out;generalize (zs (iz l (aZ m))).toArray=ZU at *;clear Dl;cases t
  ·have HN:Hid (¬kQ (az B ps) l m):=λh=>of_decide_eq_false ht h.2.1
   clear ht hl HL XH;generalize aZ m=aa at *;go_enter Tryz.func188,Tryz.ntmps188;go_wp2_with fail;refine(HP.out _).mono ?_;rintro e w' ⟨rfl,rfl⟩;go_wp2_with fail;refine dv (S:=λy=>ay [] (w.alloc (.cells Z 108)) y) (by kernel_rfl) (by kernel_rfl) (λd _ _ _ _ h=>by cases d<;>exact h) ((ay.refl _ _).drew) (by kernel_rfl) ?_;repeat (first
    |(refine aJ.cons (.agg Z) (ba.load rfl 108 (.tmp 4) rfl _ rfl λy z=>nJ.out y z) ?_;simp only[Act.put,ag,ah,ai])
    |(refine aJ.cons (.agg ZU) (ba.call rfl 164 #[.agg Z,.int .i64 (aa:Int)] ?V ?h) ?_;(case V=>(intro wz;go_simp));(case h=>exact λy z=>(HU.out y).mono λe w' V=>⟨V.1,z.trans' V.2⟩);simp only[Act.put,ag,ah,ai])
    |(refine aJ.cons (.bool false) (ba.val rfl ?h) ?_;(case h=>(intro y z;clear z;first|(go_simp;done)|(go_simp;simp[VB];done)));simp only[Act.put,ag,ah,ai])
    |(refine aJ.cons ?_ (ba.val rfl ?h) ?_;(case h=>(intro y z;clear z;go_simp;rfl));simp only[Act.put,ag,ah,ai]))
   refine aJ.done λy z=> ?_
   have nR:=ar (fS.out.trans' z);clear z;go_wp2_with fail;go_ret2;exact kt.no HN.out nR.out
  ·have a8:=of_decide_eq_true ht
   have bv:=ar a8;clear a8;have BI:=λy=>Hu w.heap.size (aZ m) KT y
   clear ht hl;generalize MM:aZ m=aa at *;have Zb:=ar MM;clear MM;go_enter Tryz.func188,Tryz.ntmps188;go_wp2_with fail;refine(HP.out _).mono ?_;rintro e w' ⟨rfl,rfl⟩;go_wp2_with fail;refine dv (S:=λy=>ay [] (w.alloc (.cells Z 108)) y) (by kernel_rfl) (by kernel_rfl) (λd _ _ _ _ h=>by cases d<;>exact h) ((ay.refl _ _).drew) (by kernel_rfl) ?_;repeat (first
    |(refine aJ.cons (.agg Z) (ba.load rfl 108 (.tmp 4) rfl _ rfl λy z=>nJ.out y z) ?_;simp only[Act.put,ag,ah,ai])
    |(refine aJ.cons (.agg ZU) (ba.call rfl 164 #[.agg Z,.int .i64 (aa:Int)] ?V ?h) ?_;(case V=>(intro wz;go_simp));(case h=>exact λy z=>(HU.out y).mono λe w' V=>⟨V.1,z.trans' V.2⟩);simp only[Act.put,ag,ah,ai])
    |(refine aJ.cons (.bool false) (ba.val rfl ?h) ?_;(case h=>(intro y z;clear z;first|(go_simp;done)|(go_simp;simp[VB];done)));simp only[Act.put,ag,ah,ai])
    |(refine aJ.cons ?_ (ba.val rfl ?h) ?_;(case h=>(intro y z;clear z;go_simp;rfl));simp only[Act.put,ag,ah,ai]))
   refine aJ.done λw1 z=> ?_
   have iH:=ar z;clear z;obtain⟨E,hE⟩:∃E,E=oG (az B ps) l m:=⟨_,rfl⟩;have HE:=ar hE;have bb:E.length=m:=by rw[hE];exact mB _ _ _
   have wQ:=ar bb;have av:Hid (∀e,e<m->eh E e=sg ((iL (vA (az B ps) l e)).getD [])/\gT E e=rk (az B ps) l e):=λe V=>by rw[hE];exact ym _ _ _ _ V
   have bl:m<=4*aa/\∀k,k<aa->4*k<m:=by
    have hc:=Zb.out;unfold aZ at hc;exact⟨by omega,λk hk=>by omega⟩
   have aU:=ar bl;clear hE bb bl;obtain⟨i0,hi,bh,aY,bf⟩:=cJ Tryz.info_entry;have HI:=ar hi;have bK:=jd;clear hi;go_wp2_with fail;clear BI bA YR;go_loopg [9,29] aa (λgh s9 s29 y=>∃k:Nat,k+gh=aa/\s29= .int .i64 (k:Int)/\Hid (y.ownsRow (w.heap.size+1) 88 2 s9 (min m (4*k)) (dK (E.take (4*k)))/\(∀i,i<k->zv (az B ps) l m i)/\ay [] (w.alloc (.cells Z 108)) y))
   case atStart=>exact⟨0,by omega,rfl,⟨by simp[dK],.inl ⟨rfl,by simp⟩⟩,by simp,iH.out⟩
   case round=>
    clear iH;obtain⟨k,hk,rfl,HP⟩:=hrel;obtain⟨G,kD,eI⟩:=HP.out;cases gk with
    |zero=>
     obtain rfl:k=aa:=by omega
     have lX:Hid (kt w (az B ps) l m (.returned (.tuple #[u9,.bool true])) wr):=by
      have h1:=aU.out.1;rw[cy h1,aQ (by rw[wQ.out];exact h1)] at G;obtain⟨g,ho,hg⟩:=eE.of_row G;obtain⟨g2,bp,bE⟩:∃g2,w.heap.size<=g2/\bz wr u9 g2 E:=by
       by_cases h0:m=0
       ·exact⟨w.heap.size,aG _,(ho.ereads wQ.out.symm).anyG (by rw[wQ.out,h0]) _⟩
       ·exact⟨g,by have :=(hg h0).1;omega,ho.ereads wQ.out.symm⟩
      exact⟨u9,E,true,g2,rfl,bE,bp,λ_=>⟨⟨by omega,by rw[Zb.out];exact bv.out,by rw[Zb.out];exact kD⟩,HE.out⟩,λh=>(by cases h),fS.out.trans' eI⟩
     clear HP G kD eI hk;go_wp2_with fail;go_ret2;exact lX.out
    |succ gg=>
     have vB:k<aa:=by omega
     have bF:(k:Int)<(aa:Int):=by omega
     have ez:(0:Int)<=(k:Int):=by omega
     have a6:=aU.out.2 k vB;have aS:=R3.out wr k (by omega) eI;have bB:=XH.out k;have GR:Hid (¬zv (az B ps) l m k->¬kQ (az B ps) l m):=λh hh=>h (hh.2.2 k (by rw[Zb.out];exact vB))
     have QD:Hid (zv (az B ps) l m k↔l.getD k 0≠0/\(∀j,j<min 4 (m-4*k)->(iL (vA (az B ps) l (4*k+j))).isSome=true/\rk (az B ps) l (4*k+j)<32)/\fT E k=dy (az B ps) (1080+8*(l.getD k 0).toNat)):=by
      have e:=HE.out;show _↔_;rw[e];exact Iff.rfl
     have pY:=ar kD;have gI:=ar eI;have QE:Hid (∀j,j<4->rU l (4*k+j)=1080+8*(l.getD k 0).toNat+2*j):=λj J=>N8 l k j J
     obtain⟨q,hq⟩:∃q:Nat,l.getD k 0=(q:Int):=⟨(l.getD k 0).toNat,by omega⟩;rw[hq] at aS QD QE bB;rw[aH] at QD QE;rw[Nat.min_eq_right (by omega)] at G;have ac:=ar G;clear HP G kD eI hq;by_cases Vp:q=0
     ·subst Vp
      have HN:Hid (¬kQ (az B ps) l m):=GR.out λh=>(QD.out.1 h).1 rfl
      have nR:=ar (fS.out.trans' gI.out);clear QD QE GR hk;go_wp2_with fail;go_ret2;exact kt.no HN.out nR.out
     ·have e0:((q:Int)==0)=false:=cg.2 (by omega)
      have aw:=jm (q:Int) wr;rw[show gV (q:Int)=((1080+8*q:Nat):Int) by unfold gV;rw[aA (by omega)];omega] at aw;have R1:=ar aw;have j1:=ar (l6 (HS.out.keep (fS.out.trans' gI.out) (by simp) (by simp)) (1080+8*q) (by omega));obtain⟨r,hr⟩:∃r,r=dy (az B ps) (1080+8*q):=⟨_,rfl⟩;rw[<-hr] at j1 QD;have bC:=ar hr;have sI:r.length=8:=by rw[hr];exact fQ _ _
      have a7:Hid (∀j,j<4->r.getD (j*2) 0=((vA (az B ps) l (4*k+j):Nat):Int)/\r.getD (j*2+1) 0=rk (az B ps) l (4*k+j)):=λj J=>by
       have bD:=QE.out j J;rw[hr,iJ _ _ _ (by omega),iJ _ _ _ (by omega)];unfold vA rk;rw[bD];have eT:=sf.out (1080+8*q+2*j);rw[show 1080+8*q+j*2=1080+8*q+2*j by omega,show 1080+8*q+(j*2+1)=1080+8*q+2*j+1 by omega];exact⟨by omega,rfl⟩
      have yo:=ar sI;have bG:Hid (∀j,j<4->0<=rk (az B ps) l (4*k+j)):=λj J=>by
       have :=(sf.out (rU l (4*k+j)+1)).1;exact this
      clear hr sI QE aw;generalize hp:((1080+8*q:Nat):Int)=p at *;clear hp;obtain⟨c,hc⟩:∃c,c=min 4 (m-4*k):=⟨_,rfl⟩;have HC:=ar hc;have bN:c<=4:=by omega
      have bL:4*k+c<=m:=by omega
      have Hv:(m:Int)-(k:Int)*4=((m-4*k:Nat):Int):=by omega
      obtain⟨d,hd⟩:∃d,d=m-4*k:=⟨_,rfl⟩;rw[<-hd] at Hv hc;have bq:((4:Int)<=(d:Int)/\c=4)\/((d:Int)<4/\c=d):=by omega
      clear hc hd;have bJ:w.heap.size+1<=wr.heap.size:=by have :=gI.out.size;simpa using this
      go_wp2_with fail;refine R1.out.mono ?_;rintro e w' ⟨rfl,rfl⟩;go_wp2_with fail;refine j1.out.mono ?_;rintro e w3 ⟨rfl,aK⟩;obtain⟨w5,aW,pE,jG⟩:=br (P:= Tryz.prog) (ty:= 188) (cs:=aR r) (by rw[bc,yo.out];exact gH) (bm.new w3 (aR (List.replicate 8 0)).toArray 188) (by simp[bc,yo.out]) (eu _);have bO:=aK.size;have bg:=ar aW;have VC:=ar pE;have oH:Hid (ay [] wr w5):=((aK.alloc (.cells (aR (List.replicate 8 0)).toArray 188)).trans jG (by intro x z;rw[au] at z;omega));clear aW pE jG aK R1 j1;have pM:Hid (ay [] (w.alloc (.cells Z 108)) w5):=gI.out.trans' oH.out;have aD:Hid (∀g,u9.ownBlock=some g->g≠w3.heap.size):=λg hg=>by
       obtain⟨-,h1⟩:=ac.out;rcases h1 with ⟨hv,-⟩|⟨g2,cap,bM,hv,-,hh,-⟩
       ·rw[hv] at hg;cases hg
       ·rw[hv] at hg
        cases hg;have :=(Array.getElem?_eq_some_iff.1 hh).1;show g2≠w3.heap.size;omega
      have aF:Hid (w5.ownsRow (w.heap.size+1) 88 2 u9 (4*k+0) (dK (E.take (4*k+0)))):=cO ac.out oH.out (by simp);have bH:w.heap.size+1<=w3.heap.size:=by omega
      obtain⟨W,bn⟩:∃W,W=2*c:=⟨_,rfl⟩;have R4:Hid (∀j,j<c->(r.take W).getD (j*2) 0=((vA (az B ps) l (4*k+j):Nat):Int)/\(r.take W).getD (j*2+1) 0=rk (az B ps) l (4*k+j)):=λj J=>by
       have e0:(r.take W).getD (j*2) 0=r.getD (j*2) 0:=by simp[show j*2<W by omega]
       have e1:(r.take W).getD (j*2+1) 0=r.getD (j*2+1) 0:=by simp[show j*2+1<W by omega]
       rw[e0,e1];exact a7.out j (by omega)
      have VD:Hid (mM (r.take W) c↔∀j,j<c->(iL (vA (az B ps) l (4*k+j))).isSome=true/\rk (az B ps) l (4*k+j)<32):=by
       constructor
       ·intro h j J
        have :=h j J;rw[(R4.out j J).1,(R4.out j J).2,aH] at this;exact this
       ·intro h j J
        rw[(R4.out j J).1,(R4.out j J).2,aH];exact h j J
      have bk:Hid (E.take (4*k+c)=E.take (4*k)++jq (r.take W) c):=by
       show _=_;rw[List.take_add]
       congr 1
       have C4:((E.drop (4*k)).take c).length=c:=by rw[aI,bu,wQ.out];omega
       refine Rv (by rw[C4,gU]) λj J=> ?_
       rw[C4] at J;rw[(wR E (4*k) c j J).1,(wR E (4*k) c j J).2,(yh _ _ _ J).1,(yh _ _ _ J).2,(R4.out j J).1,(R4.out j J).2,aH];exact av.out _ (by omega)
      have uw:Hid (∀j,0<=(r.take W).getD j 0/\(r.take W).getD j 0<18446744073709551616):=λj=>by
       by_cases J:j<W
       ·have e0:(r.take W).getD j 0=r.getD j 0:=by simp[J]
        rw[e0,bC.out];by_cases bo:j<8
        ·rw[iJ _ _ _ bo];exact sf.out _
        ·rw[aj,aO (by rw[fQ];omega)]
         simp
       ·rw[aj,aO (by rw[aI];omega)]
        simp
      have aV:Reads w5 (.slice (some ⟨w3.heap.size,0,none⟩) W 8) w3.heap.size (aR (r.take W)):=by
       have :=VC.out.reads (o:=0) (n:=W) (c:=8) (by rw[yo.out];omega) (by omega) (by omega);rwa[List.drop_zero] at this
      have Ob:=ar (rS aV (by rw[aI,yo.out];omega) c (by rw[aI,yo.out];omega) uw.out);have VE:Hid (∀x:Int,x=(W:Int)->∀y,(Instr.sliceAt 188 (.pointer (some ⟨w3.heap.size,0,none⟩)) none (some (.int .i64 x)) none).run Tryz.prog y= .ok (.slice (some ⟨w3.heap.size,0,none⟩) W 8) y):=λx z y=>by
       rw[z];exact Oa _ _ (by omega) y
      have bR:1<=c:=by have :=HC.out;omega
      clear aV a7 R4 uw;have R5:=ar bn;clear bn;rcases bq with ⟨bw,aq⟩|⟨bw,aq⟩
      ·have RV:=VE.out 8 (by have :=R5.out;omega)
       have bs:=ar aq;clear aq VE;go_wp2_with(with_reducible refine gS 188 bg.out ?_);refine Ob.out.mono ?_;rintro e w6 Ex;rcases Ex with ⟨g7,rfl,XI,QF,R6,jz⟩|⟨rfl,ax,jz⟩
       ·have gW:=VD.out.1 R6
        have KU:=ar (cO aF.out jz (by simp));have mX:=ar (oH.out.trans' jz);have KV:=ar (VC.out.keep jz (by simp));have R7:Hid (∀j u,(dK (jq (r.take W) c))[j]? =some u->w6.cell? ((⟨g7,0,none⟩:Addr).add j)=some u):=λj u hu=>by
         obtain⟨-,-,ak,-⟩:=XI.cell (by omega);have J:=(List.getElem?_eq_some_iff.1 hu).1;rw[iE,gU] at J;rw[add_plain,aX,ak j J];exact hu
        have J6:Hid ((dK (jq (r.take W) c)).length=c*2):=by show _=_;rw[iE,gU]
        have aN:w.heap.size+1<=w6.heap.size:=by have :=mX.out.size;omega
        have hi:=HI.out;clear RV XI QF R6 jz Ob;go_wp2_with(at_builtin;refine dE _ rfl _ _ 32 rfl (w.heap.size+1) 88 i0 (.agg #[.string ⟨#[]⟩,.int .i64 0]) 2 24 Tryz.underlying32 hi bh aY bf rfl (by decide) u9 (4*k+0) _ rfl KU.out ⟨g7,0,none⟩ c c (dK (jq (r.take W) c)) rfl J6.out R7.out (ra _) (by unfold maxLen;omega) (by omega) aN ?_);intro v9 w7 Iq U _;have G:w7.ownsRow (w.heap.size+1) 88 2 v9 (4*k+c) (dK (E.take (4*k+c))):=by
         rw[bk.out,kU];exact Iq
        have ap:bm w7 w3.heap.size (aR r).toArray 188 :=(U.block _ KV.out.lt (λe=>aD.out _ e.symm rfl)).trans KV.out;have eI:ay [] (w.alloc (.cells Z 108)) w7:=(gI.out.trans' mX.out).grown2 U λg hg=>by have :=cE KU.out g hg;simpa using this
        clear Iq U KU mX KV pM oH aF aD VC gI ac hi;obtain⟨g0,af,aM⟩:=eE.of_row G;have Ag:=ar (af.ereads (by rw[aI,wQ.out];omega));have aL:Hid (rR (E.take (4*k+c))):=by
         have k6:∀e,e<4*k+c->0<=rk (az B ps) l e/\rk (az B ps) l e<32:=λe V=>by
          have h0:0<=rk (az B ps) l e:=(sf.out (rU l e+1)).1;refine⟨h0,?_⟩;by_cases bt:e<4*k
          ·have :=((pY.out (e/4) (by omega)).2.1 (e%4) (by omega)).2
           rw[show 4*(e/4)+e%4=e by omega] at this;exact this
          ·have :=(gW (e-4*k) (by omega)).2
           rw[show 4*k+(e-4*k)=e by omega] at this;exact this
         refine⟨by rw[aI,wQ.out];omega,λe V=> ?_,λe V=> ?_⟩
         ·rw[aI,wQ.out] at V
          rw[(tu E (4*k+c) e (by omega)).1,(av.out e (by omega)).1];have :=tY (vA (az B ps) l e);omega
         ·rw[aI,wQ.out] at V
          rw[(tu E (4*k+c) e (by omega)).2,(av.out e (by omega)).2];have :=k6 e (by omega);omega
        have R9:Hid (∀y,ay [] w7 y->Calls Tryz.prog 193 #[v9,.int .i64 (k:Int)] y λe w'=>e= .returned (.agg (aR (fT E k)).toArray)/\ay [] y w'):=λy ae=>by
         have :=tr (Ag.out.keep ae (by simp)) aL.out k (by rw[aI,wQ.out];omega);rw[zu E k c (by rw[HC.out,wQ.out]) (by rw[wQ.out];exact a6)] at this;exact this
        have QG:Hid (∀y,ay [] w7 y->(loadVar 188 ⟨w3.heap.size,0,none⟩).run Tryz.prog y= .ok (.agg (aR r).toArray) y):=λy ae=>ea (ap.keep ae (by simp)) yo.out
        have BQ:=ar (λy=>El (a:=fT E k) (b:=r) (jA _ _ _) yo.out y);have VF:=pZ;have gI:=ar eI;have ac:=ar G;obtain⟨t2,VG⟩:∃t2,decide (fT E k=r)=t2:=⟨_,rfl⟩;rw[VG] at BQ;have Za:=BQ.out;have AD:Hid (zv (az B ps) l m k↔t2=true):=by
         show _↔_;rw[QD.out,<-VG,decide_eq_true_iff];refine⟨λh=>h.2.2,λh=>⟨by omega,λi hi=>gW i ?_,h⟩⟩;have :=HC.out;omega
        clear G gW ap eI af aM VG BQ;generalize (aR (fT E k)).toArray=ZQ at *;generalize (aR r).toArray=ZP at *;cases t2;all_goals
         go_wp2_with fail;refine dv (S:=λy=>ay [] w7 y) (by kernel_rfl) (by kernel_rfl) (λd _ _ _ _ h=>by cases d<;>exact h) ((ay.refl _ _).drew) (by kernel_rfl) ?_;repeat (first
          |(refine aJ.cons (.agg ZP) (ba.load rfl 188 (.tmp 12) rfl _ rfl λy z=>QG.out y z) ?_;simp only[Act.put,ag,ah,ai])
          |(refine aJ.cons (.agg ZQ) (ba.call rfl 193 #[v9,.int .i64 (k:Int)] ?V ?h) ?_;(case V=>(intro wz;go_simp));(case h=>exact λy z=>(R9.out y z).mono λe w' V=>⟨V.1,z.trans' V.2⟩);simp only[Act.put,ag,ah,ai])
          |(refine aJ.cons ?_ (ba.val rfl ?h) ?_;(case h=>(intro y z;clear z;go_simp;rfl));simp only[Act.put,ag,ah,ai]))
         refine aJ.done λwz z=> ?_
         have Ah:=ar z;clear z
        ·have HN:Hid (¬kQ (az B ps) l m):=GR.out λh=>by have :=AD.out.1 h;cases this
         have nR:=ar (fS.out.trans' (gI.out.trans' Ah.out));go_wp2_with fail;go_ret2;exact kt.no HN.out nR.out
        ·have Sa:Hid (wz.ownsRow (w.heap.size+1) 88 2 v9 (min m (4*(k+1))) (dK (E.take (4*(k+1))))/\(∀i,i<k+1->zv (az B ps) l m i)/\ay [] (w.alloc (.cells Z 108)) wz):=by
          refine⟨?_,λi hi=> ?_,gI.out.trans' Ah.out⟩
          ·have h1:=cO ac.out Ah.out (by simp)
           have ak:=HC.out;rw[show min m (4*(k+1))=4*k+c by omega];have e:E.take (4*(k+1))=E.take (4*k+c):=by
            by_cases h4:c=4
            ·rw[h4,Nat.mul_add]
            ·rw[aQ (by rw[wQ.out];omega),aQ (by rw[wQ.out];omega)]
           rw[e];exact h1
          ·by_cases e:i=k
           ·subst e;exact AD.out.2 (by simp)
           ·exact pY.out i (by omega)
         go_wp2_with fail;go_roundg gg;case measure=>omega
         case rel=>exact⟨k+1,by omega,by go_num,Sa.out⟩
       ·have HN:Hid (¬kQ (az B ps) l m):=GR.out λh=>ax (VD.out.2 λj J=>(QD.out.1 h).2.1 j (by have :=HC.out;omega))
        have nR:=ar (fS.out.trans' ((gI.out.trans' oH.out).trans' jz));clear ax jz Ob;go_wp2_with fail;go_ret2;exact kt.no HN.out nR.out
      ·have bP:2*(d:Int)=(W:Int):=by have :=R5.out;omega
       have RV:=VE.out (W:Int) rfl;have bs:=ar aq;clear aq VE;go_wp2_with(with_reducible refine gS 188 bg.out ?_);refine Ob.out.mono ?_;rintro e w6 Ex;rcases Ex with ⟨g7,rfl,XI,QF,R6,jz⟩|⟨rfl,ax,jz⟩
       ·have gW:=VD.out.1 R6
        have KU:=ar (cO aF.out jz (by simp));have mX:=ar (oH.out.trans' jz);have KV:=ar (VC.out.keep jz (by simp));have R7:Hid (∀j u,(dK (jq (r.take W) c))[j]? =some u->w6.cell? ((⟨g7,0,none⟩:Addr).add j)=some u):=λj u hu=>by
         obtain⟨-,-,ak,-⟩:=XI.cell (by omega);have J:=(List.getElem?_eq_some_iff.1 hu).1;rw[iE,gU] at J;rw[add_plain,aX,ak j J];exact hu
        have J6:Hid ((dK (jq (r.take W) c)).length=c*2):=by show _=_;rw[iE,gU]
        have aN:w.heap.size+1<=w6.heap.size:=by have :=mX.out.size;omega
        have hi:=HI.out;clear RV XI QF R6 jz Ob;go_wp2_with(at_builtin;refine dE _ rfl _ _ 32 rfl (w.heap.size+1) 88 i0 (.agg #[.string ⟨#[]⟩,.int .i64 0]) 2 24 Tryz.underlying32 hi bh aY bf rfl (by decide) u9 (4*k+0) _ rfl KU.out ⟨g7,0,none⟩ c c (dK (jq (r.take W) c)) rfl J6.out R7.out (ra _) (by unfold maxLen;omega) (by omega) aN ?_);intro v9 w7 Iq U _;have G:w7.ownsRow (w.heap.size+1) 88 2 v9 (4*k+c) (dK (E.take (4*k+c))):=by
         rw[bk.out,kU];exact Iq
        have ap:bm w7 w3.heap.size (aR r).toArray 188 :=(U.block _ KV.out.lt (λe=>aD.out _ e.symm rfl)).trans KV.out;have eI:ay [] (w.alloc (.cells Z 108)) w7:=(gI.out.trans' mX.out).grown2 U λg hg=>by have :=cE KU.out g hg;simpa using this
        clear Iq U KU mX KV pM oH aF aD VC gI ac hi;obtain⟨g0,af,aM⟩:=eE.of_row G;have Ag:=ar (af.ereads (by rw[aI,wQ.out];omega));have aL:Hid (rR (E.take (4*k+c))):=by
         have k6:∀e,e<4*k+c->0<=rk (az B ps) l e/\rk (az B ps) l e<32:=λe V=>by
          have h0:0<=rk (az B ps) l e:=(sf.out (rU l e+1)).1;refine⟨h0,?_⟩;by_cases bt:e<4*k
          ·have :=((pY.out (e/4) (by omega)).2.1 (e%4) (by omega)).2
           rw[show 4*(e/4)+e%4=e by omega] at this;exact this
          ·have :=(gW (e-4*k) (by omega)).2
           rw[show 4*k+(e-4*k)=e by omega] at this;exact this
         refine⟨by rw[aI,wQ.out];omega,λe V=> ?_,λe V=> ?_⟩
         ·rw[aI,wQ.out] at V
          rw[(tu E (4*k+c) e (by omega)).1,(av.out e (by omega)).1];have :=tY (vA (az B ps) l e);omega
         ·rw[aI,wQ.out] at V
          rw[(tu E (4*k+c) e (by omega)).2,(av.out e (by omega)).2];have :=k6 e (by omega);omega
        have R9:Hid (∀y,ay [] w7 y->Calls Tryz.prog 193 #[v9,.int .i64 (k:Int)] y λe w'=>e= .returned (.agg (aR (fT E k)).toArray)/\ay [] y w'):=λy ae=>by
         have :=tr (Ag.out.keep ae (by simp)) aL.out k (by rw[aI,wQ.out];omega);rw[zu E k c (by rw[HC.out,wQ.out]) (by rw[wQ.out];exact a6)] at this;exact this
        have QG:Hid (∀y,ay [] w7 y->(loadVar 188 ⟨w3.heap.size,0,none⟩).run Tryz.prog y= .ok (.agg (aR r).toArray) y):=λy ae=>ea (ap.keep ae (by simp)) yo.out
        have BQ:=ar (λy=>El (a:=fT E k) (b:=r) (jA _ _ _) yo.out y);have VF:=pZ;have gI:=ar eI;have ac:=ar G;obtain⟨t2,VG⟩:∃t2,decide (fT E k=r)=t2:=⟨_,rfl⟩;rw[VG] at BQ;have Za:=BQ.out;have AD:Hid (zv (az B ps) l m k↔t2=true):=by
         show _↔_;rw[QD.out,<-VG,decide_eq_true_iff];refine⟨λh=>h.2.2,λh=>⟨by omega,λi hi=>gW i ?_,h⟩⟩;have :=HC.out;omega
        clear G gW ap eI af aM VG BQ;generalize (aR (fT E k)).toArray=ZQ at *;generalize (aR r).toArray=ZP at *;cases t2;all_goals
         go_wp2_with fail;refine dv (S:=λy=>ay [] w7 y) (by kernel_rfl) (by kernel_rfl) (λd _ _ _ _ h=>by cases d<;>exact h) ((ay.refl _ _).drew) (by kernel_rfl) ?_;repeat (first
          |(refine aJ.cons (.agg ZP) (ba.load rfl 188 (.tmp 12) rfl _ rfl λy z=>QG.out y z) ?_;simp only[Act.put,ag,ah,ai])
          |(refine aJ.cons (.agg ZQ) (ba.call rfl 193 #[v9,.int .i64 (k:Int)] ?V ?h) ?_;(case V=>(intro wz;go_simp));(case h=>exact λy z=>(R9.out y z).mono λe w' V=>⟨V.1,z.trans' V.2⟩);simp only[Act.put,ag,ah,ai])
          |(refine aJ.cons ?_ (ba.val rfl ?h) ?_;(case h=>(intro y z;clear z;go_simp;rfl));simp only[Act.put,ag,ah,ai]))
         refine aJ.done λwz z=> ?_
         have Ah:=ar z;clear z
        ·have HN:Hid (¬kQ (az B ps) l m):=GR.out λh=>by have :=AD.out.1 h;cases this
         have nR:=ar (fS.out.trans' (gI.out.trans' Ah.out));go_wp2_with fail;go_ret2;exact kt.no HN.out nR.out
        ·have Sa:Hid (wz.ownsRow (w.heap.size+1) 88 2 v9 (min m (4*(k+1))) (dK (E.take (4*(k+1))))/\(∀i,i<k+1->zv (az B ps) l m i)/\ay [] (w.alloc (.cells Z 108)) wz):=by
          refine⟨?_,λi hi=> ?_,gI.out.trans' Ah.out⟩
          ·have h1:=cO ac.out Ah.out (by simp)
           have ak:=HC.out;rw[show min m (4*(k+1))=4*k+c by omega];have e:E.take (4*(k+1))=E.take (4*k+c):=by
            by_cases h4:c=4
            ·rw[h4,Nat.mul_add]
            ·rw[aQ (by rw[wQ.out];omega),aQ (by rw[wQ.out];omega)]
           rw[e];exact h1
          ·by_cases e:i=k
           ·subst e;exact AD.out.2 (by simp)
           ·exact pY.out i (by omega)
         go_wp2_with fail;go_roundg gg;case measure=>omega
         case rel=>exact⟨k+1,by omega,by go_num,Sa.out⟩
       ·have HN:Hid (¬kQ (az B ps) l m):=GR.out λh=>ax (VD.out.2 λj J=>(QD.out.1 h).2.1 j (by have :=HC.out;omega))
        have nR:=ar (fS.out.trans' ((gI.out.trans' oH.out).trans' jz));clear ax jz Ob;go_wp2_with fail;go_ret2;exact kt.no HN.out nR.out
def l7 (w:World) (v:Value) (g:Nat) (Ls:List (List Int)):Prop:=
 ∃a cap,v= .slice a Ls.length cap/\Ls.length<=cap/\cap<=maxLen/\(Ls.length≠0->g<w.heap.size/\∃off,a=some ⟨g,off,none⟩/\∀k,k<Ls.length->∀j,j<8->w.cell? ⟨g,off+k*8+j,none⟩=some (.int .u64 ((Ls.getD k []).getD j 0)))
theorem l7.keep{Ls:List (List Int)}(h:l7 w v g Ls){l:List Nat}(G:ay l w w')(hg:Ls.length≠0->g∉l):l7 w' v g Ls:=by
 obtain⟨a,cap,W,V,h3,h4⟩:=h;refine⟨a,cap,W,V,h3,λJ=> ?_⟩;obtain⟨y,off,U,Z⟩:=h4 J;refine⟨bC y G.size,off,U,λk z j hj=> ?_⟩;exact(aL (w:=w) (w':=w') (a:=⟨g,off+k*8+j,none⟩) (G.block g y (hg J))).trans (Z k z j hj)
theorem l7.nil(w:World)(g:Nat):l7 w (.slice none 0 0) g []:=⟨none,0,rfl,by simp,by simp[maxLen],λh=>absurd rfl h⟩
def ke (n:bM) (own:List Nat):List Int:=
 if (eB n.B).length<=6 then lN n::n.S::(eB n.B++List.replicate (6-(eB n.B).length) 0) else lN n::n.S::((eB n.B).take 5++[9223372036854775808+((own.getD 0 0:Nat):Int)])
def iF (n:bM):List (List Int):=
 if (eB n.B).length<=6 then [] else [(eB n.B).drop 5++List.replicate (13-(eB n.B).length) 0]
def l8 (w:World) (R:List Int) (y:List (List Int)) (e:Ending) (w':World):Prop:=
 ∃h gb,e= .returned (.tuple #[.agg (aR R).toArray,h])/\l7 w' h gb y/\w.heap.size<=gb/\ay [] w w'
theorem dn{J:Func}{tmps:Array Value}{t:Nat}{z:Addr}{x:Value}(h:J.results= #[.cell a t,.tmp b])(y:tmps.getD a undef= .pointer (some z))(U:(loadVar t z).run P w= .ok v w)
  (G:tmps.getD b undef=x):(results J tmps).run P w= .ok (.tuple #[v,x]) w:=by
 rw[fU] at y G;unfold results;rw[h];simp[y,rb,U,G]
theorem jB{z:Array Oper}{o:Oper}{a:Act}{K:Act->World->Prop}{Q:Exit->Act->World->Prop}{E:Prop}(G:o.guard=none)(ty:TypeId)(x y:Operand)(ho:o.op= .store ty x y)(J:Addr)
  (Z:a.eval x= .pointer (some J)) (v:Value) (W:a.eval y=v) (w':World) (V:(storeVar ty J v).run P w= .ok () w') (h:K (a.put o.dst undef) w'):if Region.wanted o (yielded z a.tmps)=true then Oper.wp P o a w K Q else E:=by
 have U:Region.wanted o (yielded z a.tmps)=true:=by simp[Region.wanted,G]
 rw[aB U];unfold Oper.wp execOp;simp only[ho,Z,W,Instr.storeAt,Instr.sureAddr,bV,eM,b9,V];exact h
theorem mD{L:List Int}{G y J U z V Z W:Value}(hb:bm w b #[G,y,J,U,z,V,Z,W] T)(hl:L.length=8)(h:aR L=[G,y,J,U,z,V,Z,W]):l7 w (.slice (some ⟨b,0,none⟩) 1 1) b [L]:=by
 refine⟨_,1,rfl,aG _,by unfold maxLen;omega,λ_=>⟨hb.lt,0,rfl,λk hk j hj=> ?_⟩⟩;have ez:k=0:=by
  have :k<1:=hk;omega
 subst ez;have e:(0+0*8+j:Nat)=j:=by omega
 rw[e,hb.cell];have h2:(#[G,y,J,U,z,V,Z,W]:Array Value)=(aR L).toArray:=by rw[h]
 rw[h2,aC,cC (by omega)];rfl
theorem oI (b:Nat)(w:World):(Instr.sliceAt 188 (.pointer (some ⟨b,0,none⟩)) (some (.int .i64 2)) none none).run Tryz.prog w= .ok (.slice (some ⟨b,2,none⟩) 6 6) w:=by show Sem.run _ _ _=_;kernel_rfl
theorem BR (n:bM)(v:Value)(hB:n.B.length=13)(ht:uG n)(vo:Value)(own:List Nat)(h6:(eB n.B).length<=6):
  Calls Tryz.prog 215 #[.agg (aU n v),vo] w (l8 w (ke n own) (iF n)):=by
 have ah:ke n own=lN n::n.S::(eB n.B++List.replicate (6-(eB n.B).length) 0):=aB h6;have ac:iF n=[]:=aB h6;rw[ah,ac];have HH:=ar (AA n v hB ht);have BC:=ar (λV=>FK n.B hB V);obtain⟨J,h⟩:∃J,J=(w.alloc (.cells (aU n v) 110)).alloc (.cells (aR (List.replicate 8 0)).toArray 188):=⟨_,rfl⟩;have U:bm J w.heap.size (aU n v) 110 :=by
  rw[h];exact(bm.new w _ _).alloc _
 have KW:Hid (bm J (w.heap.size+1) (aR (List.replicate 8 0)).toArray 188):=by
  have :=bm.new (w.alloc (.cells (aU n v) 110)) (aR (List.replicate 8 0)).toArray 188;have e:(w.alloc (.cells (aU n v) 110)).heap.size=w.heap.size+1:=by simp
  rw[e,<-h] at this;exact this
 have fS:Hid (ay [] w J):=by
  rw[h];exact((ay.refl [] w).alloc _).alloc _
 have vv:=ar (cH U hB);have n5:Hid (∀V,ay [] J V->(loadVar 108 ⟨w.heap.size,4,none⟩).run Tryz.prog V= .ok (.agg (zs n.B).toArray) V):=λV hk=>eD (off:=4) (U.keep hk (by simp)) hB λk hk=>ya _ (by omega)
 have p8:=jd;have aq:(eB n.B).length<=13:=jM n.B 13;have nv:=ar h;have YU:Hid (qc n=lN n::n.S::List.replicate 6 0):=rfl;have Sb:=yf n;generalize lN n=t at *;generalize n.S=s at *;generalize qc n=H at *;generalize eB n.B=R at *;generalize (zs n.B).toArray=ZB at *;generalize aU n v=Z at *;clear U h ah ac ht hB;generalize sG:(aR (List.replicate 8 0)).toArray=Z8 at *;have xH:=ar sG;clear sG;go_enter Tryz.func215,Tryz.ntmps215;go_wp2_with((with_reducible show wpList _ _ _ (⟨_,.load 110 (.tmp 2),_,_,_,_⟩::_) _ _);rw[<-nv.out];refine eU rfl 110 (.tmp 2) rfl _ rfl _ vv.out ?_);refine(HH.out _).mono ?_;rintro e w1 ⟨rfl,dc⟩;obtain⟨w2,ag,AE,af⟩:=br (P:= Tryz.prog) (ty:= 188) (cs:=aR H) (by rw[bc,Sb];exact gH) (bm.new w1 Z8 188) (by rw[<-xH.out];simp[bc,Sb]) (eu _);have mY:ay [] J w2:=(dc.alloc (.cells Z8 188)).trans af (by intro x hx;rw[au] at hx;have :=dc.size;omega);have ak:w.heap.size+1<w1.heap.size:=bC KW.out.lt dc.size;have ai:=ar ag;have XJ:=ar AE;have fj:=ar mY;have Zc:=ar (n5.out w2 mY);clear ag AE af mY dc HH;generalize av:w1.heap.size=g6 at *;go_wp2_with(first|(with_reducible refine gS 188 ai.out ?_)|(with_reducible refine gL 108 Zc.out ?_));refine(BC.out _).mono ?_;rintro e w3 ⟨va,ga,rfl,GQ,sk,y⟩;obtain⟨vc,w4,zt,BS,G⟩:=mz (o:=2) (n:=6) (cap:=6) (XJ.out.keep y (by simp)) GQ h6 (by rw[Sb];omega);obtain⟨aa,ca,rfl,-,-,-⟩:=fM GQ;have z:H.take 2++R++H.drop (2+R.length)=t::s::(R++List.replicate (6-R.length) 0):=by
  rw[YU.out,show 2+R.length=R.length+1+1 by omega,List.drop_succ_cons,List.drop_succ_cons,gY];rfl
 rw[z] at BS;have W:(t::s::(R++List.replicate (6-R.length) 0)).length=8:=by simp;omega
 have aj:=ar (ea BS W);have nK:Hid (ay [] w w4):=((fS.out.trans' fj.out).trans' y).trans G (by intro x hx;rw[au] at hx;omega);have ae:bm w4 (w.heap.size+1) Z8 188 :=(((KW.out.keep fj.out (by simp)).keep y (by simp)).keep G (by rw[au];omega));obtain⟨w5,hS,pE,jG⟩:=br (P:= Tryz.prog) (ty:= 188) (cs:=aR (t::s::(R++List.replicate (6-R.length) 0))) (by rw[bc,W];exact gH) ae (by rw[<-xH.out];simp[bc,W]) (eu _);have HS:=ar hS;have Ey:=ar (ea pE W);have oH:Hid (ay [] w w5):=nK.out.trans jG (by intro x hx;rw[au] at hx;omega);have UC:=ar zt;have BI:=oI g6;have ap:(R.length:Int)<=6:=by omega
 clear GQ sk y zt BS G z W ae hS pE jG Sb;go_wp2_with(first|((with_reducible show wpList _ _ _ (⟨some 20,_,_,_,_,_⟩::_) _ _);refine gj rfl (.tmp 18) (.tmp 19) 69 69 rfl _ _ rfl rfl (UC.out _) ?_)|(with_reducible refine gL 188 aj.out ?_)|(with_reducible refine gS 188 HS.out ?_));exact aK (dn Tryz.results215 rfl Ey.out rfl) rfl ⟨_,w.heap.size,rfl,l7.nil _ _,aG _,oH.out⟩
theorem oJ{xs:List Nat}(h:Reads w v g (cW xs)):∃a cap,v= .slice a xs.length cap/\xs.length<=cap/\cap<=maxLen/\
  Hid (∀k,k<xs.length->g<w.heap.size/\∃off,a=some ⟨g,off,none⟩/\w.cell? ⟨g,off+k,none⟩=some (.int .i64 ((xs.getD k 0:Nat):Int))):=by
 obtain⟨a,cap,z,J,G,V⟩:=h;rw[fO] at *;refine⟨a,cap,z,J,G,λk y=> ?_⟩;obtain⟨Z,off,W,U⟩:=V (by intro e;have :=ck List.length e;rw[fO,cp] at this;omega);exact⟨Z,off,W,(U k y).trans (mV y)⟩
theorem Reads.part{off L cap:Nat}{R:List Int}(h:Reads w (.slice (some ⟨g,off,none⟩) L cap) g (aR R)){o n:Nat}(hn:o+n<=R.length):Reads w (.slice (some ⟨g,off+o,none⟩) n (cap-o)) g (aR ((R.drop o).take n)):=by
 obtain⟨a,c,hv,J,h2,Z⟩:=h;cases hv;rw[bc] at J;have y:(aR ((R.drop o).take n)).length=n:=by rw[bc,aI,bu];omega
 refine⟨_,cap-o,by rw[y],by rw[y];omega,by omega,λhx=> ?_⟩;have W:0<n:=by
  rcases eC n with z|z
  ·subst z;exact absurd (bg y) hx
  ·exact z
 obtain⟨hg,RO,V,U⟩:=Z (by intro e;have :=ck List.length e;rw[bc,cp] at this;omega);cases V;refine⟨hg,_,rfl,λj G=> ?_⟩;rw[y] at G;have :=U (o+j) (by rw[bc];omega);rw[Nat.add_assoc,this,cC (by omega),cC (by rw[aI,bu];omega)];simp[G]
theorem FY (n:bM)(v:Value)(hB:n.B.length=13)(ht:uG n)(vo:Value)(go:Nat)(own:List Nat)(ho:Reads w vo go (cW own))(bb:own.getD 0 0<256)(h1:1<=own.length)(h6:6<(eB n.B).length):
  Calls Tryz.prog 215 #[.agg (aU n v),vo] w (l8 w (ke n own) (iF n)):=by
 have aM:ke n own=lN n::n.S::((eB n.B).take 5++[9223372036854775808+((own.getD 0 0:Nat):Int)]):=aA (by omega);have aN:iF n=[(eB n.B).drop 5++List.replicate (13-(eB n.B).length) 0]:=aA (by omega);rw[aM,aN];obtain⟨ao,co,rfl,Ir,bE,VH⟩:=oJ ho;obtain⟨bf,KX,rfl,Zd⟩:=VH.out 0 (by omega);have nM:0<(own.length:Int):=by omega
 obtain⟨x0,aH⟩:∃x0,x0=own.getD 0 0:=⟨_,rfl⟩;rw[<-aH] at bb Zd ⊢;rw[dH] at Zd;have XK:=ar Zd;clear Zd aH VH ho;have HH:=ar (AA n v hB ht);have BC:=ar (λU=>FK n.B hB U);obtain⟨W0,af⟩:∃W0,W0=(w.alloc (.cells (aU n v) 110)).alloc (.cells (aR (List.replicate 8 0)).toArray 188):=⟨_,rfl⟩;have ap:bm W0 w.heap.size (aU n v) 110 :=by
  rw[af];exact(bm.new w _ _).alloc _
 have KW:Hid (bm W0 (w.heap.size+1) (aR (List.replicate 8 0)).toArray 188):=by
  have :=bm.new (w.alloc (.cells (aU n v) 110)) (aR (List.replicate 8 0)).toArray 188;have e:(w.alloc (.cells (aU n v) 110)).heap.size=w.heap.size+1:=by simp
  rw[e,<-af] at this;exact this
 have fS:Hid (ay [] w W0):=by
  rw[af];exact((ay.refl [] w).alloc _).alloc _
 have vv:=ar (cH ap hB);have n5:Hid (∀U,ay [] W0 U->(loadVar 108 ⟨w.heap.size,4,none⟩).run Tryz.prog U= .ok (.agg (zs n.B).toArray) U):=λU hk=>eD (off:=4) (ap.keep hk (by simp)) hB λk hk=>ya _ (by omega)
 have p8:=jd;have bw:(eB n.B).length<=13:=jM n.B 13;have nv:=ar af;have YU:Hid (qc n=lN n::n.S::List.replicate 6 0):=rfl;have Sb:=yf n;generalize lN n=t at *;generalize n.S=s at *;generalize qc n=H at *;generalize eB n.B=R at *;generalize (zs n.B).toArray=ZB at *;generalize aU n v=Z at *;clear ap af aM aN ht hB;generalize sG:(aR (List.replicate 8 0)).toArray=Z8 at *;have xH:=ar sG;clear sG;go_enter Tryz.func215,Tryz.ntmps215;go_wp2_with((with_reducible show wpList _ _ _ (⟨_,.load 110 (.tmp 2),_,_,_,_⟩::_) _ _);rw[<-nv.out];refine eU rfl 110 (.tmp 2) rfl _ rfl _ vv.out ?_);refine(HH.out _).mono ?_;rintro e w1 ⟨rfl,dc⟩;obtain⟨w2,aG,AE,aT⟩:=br (P:= Tryz.prog) (ty:= 188) (cs:=aR H) (by rw[bc,Sb];exact gH) (bm.new w1 Z8 188) (by rw[<-xH.out];simp[bc,Sb]) (eu _);have mY:ay [] W0 w2:=(dc.alloc (.cells Z8 188)).trans aT (by intro x hx;rw[au] at hx;have :=dc.size;omega);have bs:w.heap.size+1<w1.heap.size:=bC KW.out.lt dc.size;have bj:=ar aG;have XJ:=ar AE;have fj:=ar mY;have Zc:=ar (n5.out w2 mY);clear aG AE aT mY dc HH;generalize bp:w1.heap.size=g6 at *;go_wp2_with(first|(with_reducible refine gS 188 bj.out ?_)|(with_reducible refine gL 108 Zc.out ?_));refine(BC.out _).mono ?_;rintro e w3 ⟨va,ga,rfl,GQ,sk,ah⟩;obtain⟨aa,ca,rfl,bt,bz,aY⟩:=fM GQ;obtain⟨-,aJ,rfl,-⟩:=aY.out 0 (by omega);have aw:=GQ.part (o:=0) (n:=5) (by omega);rw[dH,Nat.sub_zero,List.drop_zero] at aw;have NX:(R.take 5).length=5:=by rw[aI];omega
 obtain⟨vc,w4,zt,BS,aj⟩:=mz (w:=w3.drew) (o:=2) (n:=6) (cap:=6) (XJ.out.keep ah (by simp)).drew (show Reads w3.drew _ ga (aR (R.take 5)) from aw) (by omega) (by rw[Sb];omega);have RS:=zt 3;have BI:=oI g6;have bv:¬(R.length:Int)<=6:=by omega
 have bl:(5:Int)<=(ca:Int):=by omega
 have bq:5<=ca:=by omega
 go_wp2_with fail;go_region_with (fail)
 have nK:Hid (ay [] w w4):=(((fS.out.trans' fj.out).trans' ah).drew).trans aj (by intro x hx;rw[au] at hx;omega);have ak:H.take 2++R.take 5++H.drop (2+(R.take 5).length)=t::s::(R.take 5++[0]):=by
  rw[YU.out,NX];rfl
 rw[ak] at BS;have tX:(t::s::(R.take 5++[(0:Int)])).length=8:=by simp[NX]
 have aV:Hid (bm w4 (w.heap.size+1) Z8 188):=((KW.out.keep fj.out (by simp)).keep ah (by simp)).drew.keep aj (by rw[au];omega);have bG:g6<w2.heap.size:=XJ.out.lt;have bD:g6<ga:=by omega
 have aW:Hid (Reads w4 (.slice (some ⟨ga,aJ,none⟩) R.length ca) ga (aR R)):=(show Reads w3.drew _ ga (aR R) from GQ).keep aj (by rw[au];omega);have a8:=(aL (w:=w) (w':=w4) (a:=⟨go,KX,none⟩) (nK.out.block go bf (by simp))).trans XK.out;have c7:w4.cell? ⟨g6,7,none⟩=some (.int .u64 ((t::s::(R.take 5++[(0:Int)])).getD 7 0)):=by
  rw[BS.cell,aC,cC (by omega)]
 have f7:w4.frozen? ⟨g6,7,none⟩=false:=BS.frozen 7;have aP:bits .or .u64 9223372036854775808 (x0:Int)=((9223372036854775808+x0:Nat):Int):=by
  rw[show(9223372036854775808:Int)=((9223372036854775808:Nat):Int) from rfl,u64_or_nat _ _ (by omega) (by omega),nat_join 63 _ _ (by decide) (by omega)]
 obtain⟨X,hX⟩:∃X:Int,X=((9223372036854775808+x0:Nat):Int):=⟨_,rfl⟩;rw[<-hX] at aP;have Ze:(9223372036854775808:Int)+((x0:Nat):Int)=X:=by omega
 rw[Ze];have ba:=kr (x:=(x0:Int)) (by omega) (by omega);have Zf:bm (w4.setCell ⟨g6,7,none⟩ (.int .u64 X)) g6 (aR (t::s::(R.take 5++[X]))).toArray 188 :=by
  have :=BS.set 7 (.int .u64 X);rw[ag,jw] at this;have e:(t::s::(R.take 5++[(0:Int)])).set 7 X=t::s::(R.take 5++[X]):=by
   rw[ai,ai,cZ _ _ (by omega),NX];rfl
  rw[e] at this;exact this
 have aZ:=ar Zf;have wV:Hid ((t::s::(R.take 5++[X])).length=8):=by show _=_;simp[NX]
 obtain⟨W5,ae⟩:∃W5,W5=(w4.setCell ⟨g6,7,none⟩ (.int .u64 X)).alloc (.cells Z8 188):=⟨_,rfl⟩;have bg:=ar ae;have XL:(w4.setCell ⟨g6,7,none⟩ (.int .u64 X)).heap.size=w4.heap.size:=by simp[World.setCell]
 have XM:Hid (bm W5 w4.heap.size (aR (List.replicate 8 0)).toArray 188):=by
  have :=bm.new (w4.setCell ⟨g6,7,none⟩ (.int .u64 X)) Z8 188;rw[XL,<-ae,<-xH.out] at this;exact this
 have Zg:Hid (ay [g6] w4 W5):=by
  rw[ae];exact((ay.refl [g6] w4).setCell (.inl (by simp)) _).alloc _
 have aS:Hid (bm W5 g6 (aR (t::s::(R.take 5++[X]))).toArray 188):=by
  rw[ae];exact Zf.alloc _
 have bA:g6<w4.heap.size:=BS.lt;generalize (t::s::(R.take 5++[(0:Int)])).getD 7 0=y7 at *;clear BS Zf aj zt RS aw ak tX ah GQ sk ae hX;go_wp2_with fail;rw[<-bg.out];have aB:Hid (Reads W5 (.slice (some ⟨ga,aJ,none⟩) R.length ca) ga (aR R)):=aW.out.keep Zg.out (by rw[au];omega);have Zh:=aB.out.part (o:=5) (n:=R.length-5) (by omega);rw[aQ (by rw[bu];omega)] at Zh;have VI:(R.drop 5).length=R.length-5:=bu;obtain⟨bB,J,R2,MJ,jz⟩:=mz (w:=W5.drew) (o:=0) (n:=8) (cap:=8) (bm.drew XM.out) (show Reads W5.drew _ ga (aR (R.drop 5)) from Zh) (by omega) (by rw[bh];omega);have bk:=R2 3;have XN:(List.replicate 8 (0:Int)).take 0++R.drop 5++(List.replicate 8 (0:Int)).drop (0+(R.drop 5).length)=R.drop 5++List.replicate (13-R.length) 0:=by
  rw[VI,eX,bW,aX,gY,show 8-(R.length-5)=13-R.length by omega]
 rw[XN] at MJ;have bn:=rj w4.heap.size;have bF:(5:Int)<=(R.length:Int):=by omega
 have bo:¬ca=5:=by omega
 have bH:5<=R.length:=by omega
 clear aP ba c7 f7 a8 BI;go_region_with (fail)
 have VJ:(R.drop 5++List.replicate (13-R.length) 0).length=8:=by rw[aF,VI,bh];omega
 have bI:w4.heap.size<J.heap.size:=MJ.lt;have ax:Hid (∀U,ay [w.heap.size+1] J U->(loadVar 188 ⟨g6,0,none⟩).run Tryz.prog U= .ok (.agg (aR (t::s::(R.take 5++[X]))).toArray) U):=λU hk=>ea (((bm.drew aS.out).keep jz (by rw[au];omega)).keep hk (by rw[au];omega)) wV.out
 have Oc:Hid (∀U,ay [w.heap.size+1] J U->(loadVar 188 ⟨w4.heap.size,0,none⟩).run Tryz.prog U= .ok (.agg (aR (R.drop 5++List.replicate (13-R.length) 0)).toArray) U):=λU hk=>ea (MJ.keep hk (by rw[au];omega)) VJ
 have az:bm J (w.heap.size+1) Z8 188 :=(bm.drew (aV.out.keep Zg.out (by rw[au];omega))).keep jz (by rw[au];omega);have N7:Hid (∀U,ay [] J U->∃z,(storeVar 188 ⟨w.heap.size+1,0,none⟩ (.agg (aR (t::s::(R.take 5++[X]))).toArray)).run Tryz.prog U= .ok () z/\bm z (w.heap.size+1) (aR (t::s::(R.take 5++[X]))).toArray 188/\ay [w.heap.size+1] U z):=λU hk=>
  br (P:= Tryz.prog) (ty:= 188) (cs:=aR (t::s::(R.take 5++[X]))) (by rw[bc,wV.out];exact gH) (az.keep hk (by simp)) (by rw[<-xH.out,bU,bc,bc,wV.out,bh]) (eu _)
 have mX:Hid (ay [] w J):=((nK.out.trans Zg.out (by intro x hx;rw[au] at hx;omega)).drew).trans jz (by intro x hx;rw[au] at hx;omega);clear MJ jz R2 bk Zh XN az aB aW XM aS aZ aV;generalize aO:aR (t::s::(R.take 5++[X]))=ZO at *;generalize aq:aR (R.drop 5++List.replicate (13-R.length) 0)=av at *;have aD:av.length=8:=by rw[<-aq,bc,VJ]
 obtain⟨W,V,a2,a3,a4,a5,a6,a7,rfl⟩:∃W V a2 a3 a4 a5 a6 a7,av=[W,V,a2,a3,a4,a5,a6,a7]:=by
  match av,aD with
  | [a,b,c,d,e,f,g,h],_=>exact⟨a,b,c,d,e,f,g,h,rfl⟩
 have ac:=ar aq;have BU:=ar aO;have Od:=ar VJ;clear aq aO aD VJ;go_wp2_with fail;refine wp_region_any (by kernel_rfl) ?_
 (try (change wpAny _ _ _ _ _ _ _ (World.drew _)))
 refine dF (rs:=[0,1]) (by kernel_rfl) (by simp) ?_;refine cd rfl (λK y=> ?_) ?_
 ·refine jV rfl 188 (.tmp 6) rfl _ rfl _ (ax.out _ (by first|exact(ay.refl _ _).drew|exact((ay.refl _ _).drew).alloc _|exact((ay.refl _ _).drew).trans' G.out|exact(((ay.refl _ _).drew).alloc _).trans' G.out|exact(((ay.refl _ _).drew).trans' G.out).alloc _)) ?_
  refine y _ _ ?_;clear y K;refine dF (rs:=[1,3]) (by kernel_rfl) (by simp) ?_;refine cd rfl (λK y=> ?_) ?_
  ·refine jV rfl 188 (.tmp 9) rfl _ rfl _ (Oc.out _ (by first|exact(ay.refl _ _).drew|exact((ay.refl _ _).drew).alloc _|exact((ay.refl _ _).drew).trans' G.out|exact(((ay.refl _ _).drew).alloc _).trans' G.out|exact(((ay.refl _ _).drew).trans' G.out).alloc _)) ?_
   refine y _ _ ?_;clear y K;refine dF (rs:=[2,3]) (by kernel_rfl) (by simp) ?_;refine cd rfl (λK y=> ?_) ?_
   ·go_simp
    refine y _ _ ?_;clear y K;refine dF (rs:=[3]) (by kernel_rfl) (by simp) ?_;refine cd rfl (λK y=> ?_) ?_
    ·obtain⟨z,hS,uK,Ez⟩:=N7.out _ (((ay.refl _ _).drew).alloc _)
     have HS:=ar hS;have Dr:=ar uK;have G:=ar Ez;clear hS uK Ez;refine jB rfl 188 (.tmp 4) (.tmp 38) rfl _ rfl _ rfl _ HS.out ?_;refine y _ _ ?_;clear y K;refine dF (rs:=[4]) (by kernel_rfl) (by simp) ?_;refine cd rfl (λK y=> ?_) ?_
     ·go_simp
      refine y _ _ ?_;clear y K;refine wpAny_done (by kernel_rfl) ?_ _;go_wp2_with fail;have qa:bm z J.heap.size #[W,V,a2,a3,a4,a5,a6,a7] 188 :=bm.keep (bm.new J.drew #[W,V,a2,a3,a4,a5,a6,a7] 188) G.out (by rw[au];show ¬J.heap.size=_;omega);have Iu:ay [] w z:=((mX.out.drew).alloc _).trans G.out (by intro x hx;rw[au] at hx;omega);exact aK (dn Tryz.results215 rfl (by have :=Dr.out;rw[<-BU.out] at this;exact ea this wV.out) rfl) rfl ⟨.slice (some ⟨J.heap.size,0,none⟩) 1 1,J.heap.size,(by rw[Ze,BU.out];rfl),mD qa Od.out ac.out,by omega,Iu⟩
     exact dt
    exact dt
   refine cd rfl (λK y=> ?_) ?_
   ·obtain⟨z,hS,uK,Ez⟩:=N7.out _ ((ay.refl _ _).drew)
    have HS:=ar hS;have Dr:=ar uK;have G:=ar Ez;clear hS uK Ez;refine jB rfl 188 (.tmp 4) (.tmp 38) rfl _ rfl _ rfl _ HS.out ?_;refine y _ _ ?_;clear y K;refine dF (rs:=[2]) (by kernel_rfl) (by simp) ?_;refine cd rfl (λK y=> ?_) ?_
    ·go_simp
     refine y _ _ ?_;clear y K;refine dF (rs:=[4]) (by kernel_rfl) (by simp) ?_;refine cd rfl (λK y=> ?_) ?_
     ·go_simp
      refine y _ _ ?_;clear y K;refine wpAny_done (by kernel_rfl) ?_ _;go_wp2_with fail;have qa:bm (z.alloc (.cells #[W,V,a2,a3,a4,a5,a6,a7] 188)) z.heap.size #[W,V,a2,a3,a4,a5,a6,a7] 188 :=bm.new z #[W,V,a2,a3,a4,a5,a6,a7] 188;have Xq:J.heap.size<=z.heap.size:=G.out.size;have Iu:ay [] w (z.alloc (.cells #[W,V,a2,a3,a4,a5,a6,a7] 188)):=((mX.out.drew).trans G.out (by intro x hx;rw[au] at hx;omega)).alloc _;exact aK (dn Tryz.results215 rfl (by have :=Dr.out;rw[<-BU.out] at this;exact ea (this.alloc _) wV.out) rfl) rfl ⟨.slice (some ⟨z.heap.size,0,none⟩) 1 1,z.heap.size,(by rw[Ze,BU.out];rfl),mD qa Od.out ac.out,by omega,Iu⟩
     exact dt
    exact dt
   exact dt
  refine cd rfl (λK y=> ?_) ?_
  ·obtain⟨z,hS,uK,Ez⟩:=N7.out _ ((ay.refl _ _).drew)
   have HS:=ar hS;have Dr:=ar uK;have G:=ar Ez;clear hS uK Ez;refine jB rfl 188 (.tmp 4) (.tmp 38) rfl _ rfl _ rfl _ HS.out ?_;refine y _ _ ?_;clear y K;refine dF (rs:=[1]) (by kernel_rfl) (by simp) ?_;refine cd rfl (λK y=> ?_) ?_
   ·refine jV rfl 188 (.tmp 9) rfl _ rfl _ (Oc.out _ (by first|exact(ay.refl _ _).drew|exact((ay.refl _ _).drew).alloc _|exact((ay.refl _ _).drew).trans' G.out|exact(((ay.refl _ _).drew).alloc _).trans' G.out|exact(((ay.refl _ _).drew).trans' G.out).alloc _)) ?_
    refine y _ _ ?_;clear y K;refine dF (rs:=[2]) (by kernel_rfl) (by simp) ?_;refine cd rfl (λK y=> ?_) ?_
    ·go_simp
     refine y _ _ ?_;clear y K;refine dF (rs:=[4]) (by kernel_rfl) (by simp) ?_;refine cd rfl (λK y=> ?_) ?_
     ·go_simp
      refine y _ _ ?_;clear y K;refine wpAny_done (by kernel_rfl) ?_ _;go_wp2_with fail;have qa:bm (z.alloc (.cells #[W,V,a2,a3,a4,a5,a6,a7] 188)) z.heap.size #[W,V,a2,a3,a4,a5,a6,a7] 188 :=bm.new z #[W,V,a2,a3,a4,a5,a6,a7] 188;have Xq:J.heap.size<=z.heap.size:=G.out.size;have Iu:ay [] w (z.alloc (.cells #[W,V,a2,a3,a4,a5,a6,a7] 188)):=((mX.out.drew).trans G.out (by intro x hx;rw[au] at hx;omega)).alloc _;exact aK (dn Tryz.results215 rfl (by have :=Dr.out;rw[<-BU.out] at this;exact ea (this.alloc _) wV.out) rfl) rfl ⟨.slice (some ⟨z.heap.size,0,none⟩) 1 1,z.heap.size,(by rw[Ze,BU.out];rfl),mD qa Od.out ac.out,by omega,Iu⟩
     exact dt
    exact dt
   exact dt
  exact dt
 refine cd rfl (λK y=> ?_) ?_
 ·refine jV rfl 188 (.tmp 9) rfl _ rfl _ (Oc.out _ (by first|exact(ay.refl _ _).drew|exact((ay.refl _ _).drew).alloc _|exact((ay.refl _ _).drew).trans' G.out|exact(((ay.refl _ _).drew).alloc _).trans' G.out|exact(((ay.refl _ _).drew).trans' G.out).alloc _)) ?_
  refine y _ _ ?_;clear y K;refine dF (rs:=[0,2]) (by kernel_rfl) (by simp) ?_;refine cd rfl (λK y=> ?_) ?_
  ·refine jV rfl 188 (.tmp 6) rfl _ rfl _ (ax.out _ (by first|exact(ay.refl _ _).drew|exact((ay.refl _ _).drew).alloc _|exact((ay.refl _ _).drew).trans' G.out|exact(((ay.refl _ _).drew).alloc _).trans' G.out|exact(((ay.refl _ _).drew).trans' G.out).alloc _)) ?_
   refine y _ _ ?_;clear y K;refine dF (rs:=[2,3]) (by kernel_rfl) (by simp) ?_;refine cd rfl (λK y=> ?_) ?_
   ·go_simp
    refine y _ _ ?_;clear y K;refine dF (rs:=[3]) (by kernel_rfl) (by simp) ?_;refine cd rfl (λK y=> ?_) ?_
    ·obtain⟨z,hS,uK,Ez⟩:=N7.out _ (((ay.refl _ _).drew).alloc _)
     have HS:=ar hS;have Dr:=ar uK;have G:=ar Ez;clear hS uK Ez;refine jB rfl 188 (.tmp 4) (.tmp 38) rfl _ rfl _ rfl _ HS.out ?_;refine y _ _ ?_;clear y K;refine dF (rs:=[4]) (by kernel_rfl) (by simp) ?_;refine cd rfl (λK y=> ?_) ?_
     ·go_simp
      refine y _ _ ?_;clear y K;refine wpAny_done (by kernel_rfl) ?_ _;go_wp2_with fail;have qa:bm z J.heap.size #[W,V,a2,a3,a4,a5,a6,a7] 188 :=bm.keep (bm.new J.drew #[W,V,a2,a3,a4,a5,a6,a7] 188) G.out (by rw[au];show ¬J.heap.size=_;omega);have Iu:ay [] w z:=((mX.out.drew).alloc _).trans G.out (by intro x hx;rw[au] at hx;omega);exact aK (dn Tryz.results215 rfl (by have :=Dr.out;rw[<-BU.out] at this;exact ea this wV.out) rfl) rfl ⟨.slice (some ⟨J.heap.size,0,none⟩) 1 1,J.heap.size,(by rw[Ze,BU.out];rfl),mD qa Od.out ac.out,by omega,Iu⟩
     exact dt
    exact dt
   refine cd rfl (λK y=> ?_) ?_
   ·obtain⟨z,hS,uK,Ez⟩:=N7.out _ ((ay.refl _ _).drew)
    have HS:=ar hS;have Dr:=ar uK;have G:=ar Ez;clear hS uK Ez;refine jB rfl 188 (.tmp 4) (.tmp 38) rfl _ rfl _ rfl _ HS.out ?_;refine y _ _ ?_;clear y K;refine dF (rs:=[2]) (by kernel_rfl) (by simp) ?_;refine cd rfl (λK y=> ?_) ?_
    ·go_simp
     refine y _ _ ?_;clear y K;refine dF (rs:=[4]) (by kernel_rfl) (by simp) ?_;refine cd rfl (λK y=> ?_) ?_
     ·go_simp
      refine y _ _ ?_;clear y K;refine wpAny_done (by kernel_rfl) ?_ _;go_wp2_with fail;have qa:bm (z.alloc (.cells #[W,V,a2,a3,a4,a5,a6,a7] 188)) z.heap.size #[W,V,a2,a3,a4,a5,a6,a7] 188 :=bm.new z #[W,V,a2,a3,a4,a5,a6,a7] 188;have Xq:J.heap.size<=z.heap.size:=G.out.size;have Iu:ay [] w (z.alloc (.cells #[W,V,a2,a3,a4,a5,a6,a7] 188)):=((mX.out.drew).trans G.out (by intro x hx;rw[au] at hx;omega)).alloc _;exact aK (dn Tryz.results215 rfl (by have :=Dr.out;rw[<-BU.out] at this;exact ea (this.alloc _) wV.out) rfl) rfl ⟨.slice (some ⟨z.heap.size,0,none⟩) 1 1,z.heap.size,(by rw[Ze,BU.out];rfl),mD qa Od.out ac.out,by omega,Iu⟩
     exact dt
    exact dt
   exact dt
  refine cd rfl (λK y=> ?_) ?_
  ·go_simp
   refine y _ _ ?_;clear y K;refine dF (rs:=[0]) (by kernel_rfl) (by simp) ?_;refine cd rfl (λK y=> ?_) ?_
   ·refine jV rfl 188 (.tmp 6) rfl _ rfl _ (ax.out _ (by first|exact(ay.refl _ _).drew|exact((ay.refl _ _).drew).alloc _|exact((ay.refl _ _).drew).trans' G.out|exact(((ay.refl _ _).drew).alloc _).trans' G.out|exact(((ay.refl _ _).drew).trans' G.out).alloc _)) ?_
    refine y _ _ ?_;clear y K;refine dF (rs:=[3]) (by kernel_rfl) (by simp) ?_;refine cd rfl (λK y=> ?_) ?_
    ·obtain⟨z,hS,uK,Ez⟩:=N7.out _ (((ay.refl _ _).drew).alloc _)
     have HS:=ar hS;have Dr:=ar uK;have G:=ar Ez;clear hS uK Ez;refine jB rfl 188 (.tmp 4) (.tmp 38) rfl _ rfl _ rfl _ HS.out ?_;refine y _ _ ?_;clear y K;refine dF (rs:=[4]) (by kernel_rfl) (by simp) ?_;refine cd rfl (λK y=> ?_) ?_
     ·go_simp
      refine y _ _ ?_;clear y K;refine wpAny_done (by kernel_rfl) ?_ _;go_wp2_with fail;have qa:bm z J.heap.size #[W,V,a2,a3,a4,a5,a6,a7] 188 :=bm.keep (bm.new J.drew #[W,V,a2,a3,a4,a5,a6,a7] 188) G.out (by rw[au];show ¬J.heap.size=_;omega);have Iu:ay [] w z:=((mX.out.drew).alloc _).trans G.out (by intro x hx;rw[au] at hx;omega);exact aK (dn Tryz.results215 rfl (by have :=Dr.out;rw[<-BU.out] at this;exact ea this wV.out) rfl) rfl ⟨.slice (some ⟨J.heap.size,0,none⟩) 1 1,J.heap.size,(by rw[Ze,BU.out];rfl),mD qa Od.out ac.out,by omega,Iu⟩
     exact dt
    exact dt
   exact dt
  exact dt
 exact dt
def dN (E:List (ByteArray×Int)) (b:Nat):Nat:=((dA E b).length+2)/3
def eL (E:List (ByteArray×Int)):Nat->Nat
 |0=>0
 |b+1=>eL E b+dN E b
theorem qg (E:List (ByteArray×Int)){b c:Nat}(h:b<=c):eL E b<=eL E c:=by
 induction h with
 |refl=>exact aG _
 |step h ih=>exact cu ih (Nat.le_add_right _ _)
def tZ (l:List (ByteArray×Int)) (x:Nat):List (ByteArray×Int):=(l.drop (3*x)).take 3
theorem kF (l:List (ByteArray×Int))(x:Nat):(tZ l x).length=min 3 (l.length-3*x):=by simp[tZ]
def ux (ws:List Int) (x:Int):List Int:=x::(ws++List.replicate (7-ws.length) 0)
theorem Sc (h:ws.length<=7)(x:Int):(ux ws x).length=8:=by simp[ux];omega
theorem lF (ws:List Int)(x:Int)(i:Nat):(ux ws x).getD (i+1) 0=ws.getD i 0:=by
 show(ws++List.replicate (7-ws.length) 0).getD i 0=_;rw[aj,aj];by_cases h:i<ws.length
 ·rw[aW h]
 ·rw[aM (by omega),aY,aO (by omega:ws.length<=i)]
  split<;>rfl
def Sd (E:List (ByteArray×Int)) (own:List Nat) (b j:Nat):List Int:=
 ux (dR (tZ (dA E b) j)) (if j+1<dN E b then ((own.getD (eL E b+(j+1)) 0:Nat):Int) else 0)
def tz (E:List (ByteArray×Int)) (own:List Nat):Nat->List (List Int)
 |0=>[]
 |b+1=>tz E own b++(List.range (dN E b)).map (Sd E own b)
theorem lG (E:List (ByteArray×Int))(own:List Nat):∀b,(tz E own b).length=eL E b
 |0=>rfl
 |b+1=>by rw[tz,eL,aF,lG E own b,bJ,eJ]
theorem oa (E:List (ByteArray×Int))(own:List Nat){y j:Nat}(G:j<dN E y):∀{b:Nat},y<b->(tz E own b).getD (eL E y+j) []=Sd E own y j
 |0,h=>by omega
 |b+1,h=>by
  rw[tz,aj];by_cases e:y=b
  ·subst e
   rw[aM (by rw[lG];omega),lG,cX];simp[G]
  ·have z:y<b:=by omega
   have J:eL E y+j<eL E b:=by
    have :=qg E (show y+1<=b from z);rw[eL] at this;omega
   rw[aW (by rw[lG];exact J),<-aj];exact oa E own G z
theorem qh (E:List (ByteArray×Int)){k:Nat}:∀{b:Nat},k<eL E b->∃y j,y<b/\j<dN E y/\k=eL E y+j
 |0,h=>by rw[eL] at h;omega
 |b+1,h=>by
  by_cases z:k<eL E b
  ·obtain⟨y,j,U,J,G⟩:=qh E z
   exact⟨y,j,by omega,J,G⟩
  ·rw[eL] at h
   exact⟨b,k-eL E b,by omega,by omega,by omega⟩
def hdD (E:List (ByteArray×Int)) (own:List Nat) (b:Nat):Int:=if 0<dN E b then ((own.getD (eL E b) 0:Nat):Int) else 0
def vD (E:List (ByteArray×Int)) (own:List Nat) (b p q:Nat):Int:=
 if q<b then hdD E own q else if q=b/\0<p then ((own.getD (eL E q) 0:Nat):Int) else 0
def nC (n:bM) (own:List Nat) (b p:Nat):List Int:=
 [lN n,n.S,vD n.E own b p 0,vD n.E own b p 1,vD n.E own b p 2,vD n.E own b p 3,0,0]
def BV (n:bM) (own:List Nat):List Int:=nC n own 4 0
theorem tA (n:bM)(own:List Nat)(b p:Nat):(nC n own b p).length=8:=rfl
theorem Oe (n:bM)(own:List Nat):nC n own 0 0=lN n::n.S::List.replicate 6 0:=by
 unfold nC vD;simp[List.replicate]
theorem ua (E:List (ByteArray×Int))(own:List Nat)(b q:Nat):vD E own b (dN E b) q=vD E own (b+1) 0 q:=by
 unfold vD;by_cases G:q<b
 ·rw[aB G,aB (by omega)]
 ·rw[aA G]
  by_cases z:q=b
  ·subst z
   rw[aB (show q<q+1 by omega),hdD];by_cases y:0<dN E q
   ·rw[aB ⟨rfl,y⟩,aB y]
   ·rw[aA (λh=>y h.2),aA y]
  ·rw[aA (λh=>z h.1),aA (by omega),aA (by omega)]
theorem Og (n:bM)(own:List Nat)(b:Nat):nC n own b (dN n.E b)=nC n own (b+1) 0:=by
 unfold nC;rw[ua,ua,ua,ua]
theorem Oh (n:bM)(own:List Nat)(b p:Nat)(h:p≠0):nC n own b p=nC n own b (p+1):=by
 have :∀q,vD n.E own b p q=vD n.E own b (p+1) q:=λq=>by
  unfold vD;have y:(q=b/\0<p)↔(q=b/\0<p+1):=by omega
  simp only[y]
 unfold nC;rw[this,this,this,this]
theorem Sg (n:bM)(own:List Nat)(b:Nat)(h:b<4):(nC n own b 0).set (2+b) ((own.getD (eL n.E b) 0:Nat):Int)=nC n own b 1:=by
 rcases (show b=0\/b=1\/b=2\/b=3 by omega) with rfl|rfl|rfl|rfl<;>simp[nC,vD]
structure yq (E:List (ByteArray×Int)) (own:List Nat) (b:Nat) (pre:List Nat) (C:List Int):Prop where
 len:C.length=8*own.length
 done:∀b',b'<b->∀j,j<dN E b'->∀i,i<8->C.getD (8*(eL E b'+j)+i) 0=(Sd E own b' j).getD i 0
 part:∀j,j<pre.length->∀i,i<8->C.getD (8*(eL E b+j)+i) 0=(ux (dR (tZ (dA E b) (pre.getD j 0))) (if j+1<pre.length then ((own.getD (eL E b+(j+1)) 0:Nat):Int) else 0)).getD i 0
 rest:∀i,8*(eL E b+pre.length)<=i->C.getD i 0=0
theorem yq.start(E:List (ByteArray×Int))(own:List Nat):yq E own 0 [] (List.replicate (8*own.length) 0):=
 ⟨by simp,λy h=>by omega,λj h=>by simp at h,λi _=>by
  rw[aj,aY];split<;>rfl⟩
theorem yq.next(h:yq E own b (List.range (dN E b)) C):yq E own (b+1) [] C:=by
 have J:(List.range (dN E b)).length=dN E b:=eJ;refine⟨h.len,λG U j y i z=> ?_,λj y=>by simp at y,λi z=> ?_⟩
 ·by_cases e:G=b
  ·subst e
   have :=h.part j (by rw[J];exact y) i z;rw[J,show(List.range (dN E G)).getD j 0=j by simp[y]] at this;exact this
  ·exact h.done G (by omega) j y i z
 ·refine h.rest i ?_
  rw[J];simpa[eL] using z
def BX (C:List Int) (a:Nat) (ws:List Int):List Int:=C.take a++ws++C.drop (a+ws.length)
theorem Oi (h:a+ws.length<=C.length):(BX C a ws).length=C.length:=by simp[BX];omega
theorem qj (h:a+ws.length<=C.length)(i:Nat):(BX C a ws).getD i 0=if a<=i/\i<a+ws.length then ws.getD (i-a) 0 else C.getD i 0:=by
 have y:(C.take a).length=a:=by rw[aI];omega
 unfold BX;simp only[aj];by_cases G:i<a
 ·rw[aA (by omega),bf,aW (by rw[y];exact G),fA G]
 ·by_cases z:i<a+ws.length
  ·rw[aB ⟨by omega,z⟩,aW (by rw[aF,y];exact z),aM (by rw[y];omega),y]
  ·rw[aA (by omega),aM (by rw[aF,y];omega),aF,y,bX,show a+ws.length+(i-(a+ws.length))=i by omega]
theorem Sh (C:List Int)(k:Nat)(x:Int)(y:k<C.length)(i:Nat):(C.set k x).getD i 0=if i=k then x else C.getD i 0:=by
 simp only[aj,er];by_cases h:k=i
 ·subst h;simp[y]
 ·rw[aA h,aA (λe=>h e.symm)]
theorem yq.step{y:List Nat}{W:List Int}(h:yq E own b y C)(x f:Nat)(hf:f=eL E b+y.length)(QH:f<own.length)
  (h1:W=if y.length=0 then C else C.set (8*(f-1)) ((own.getD f 0:Nat):Int)):yq E own b (y++[x]) (BX W (8*f+1) (dR (tZ (dA E b) x))):=by
 have hw:(dR (tZ (dA E b) x)).length<=6:=by rw[iZ,kF];omega
 have C4:W.length=8*own.length:=by rw[h1];split<;>simp[h.len]
 have z:∀i,W.getD i 0=if y.length≠0/\i=8*(f-1) then ((own.getD f 0:Nat):Int) else C.getD i 0:=λi=>by
  rw[h1];by_cases h0:y.length=0
  ·rw[aB h0,aA (λe=>e.1 h0)]
  ·rw[aA h0,Sh _ _ _ (by rw[h.len];omega)]
   by_cases G:i=8*(f-1)
   ·rw[aB G,aB ⟨h0,G⟩]
   ·rw[aA G,aA (λe=>G e.2)]
 have V:8*f+1+(dR (tZ (dA E b) x)).length<=W.length:=by rw[C4];omega
 have U:(y++[x]).length=y.length+1:=by simp
 have aa:∀J,J<b->∀j,j<dN E J->eL E J+j<eL E b:=λJ hb j Z=>by
  have :=qg E (show J+1<=b from hb);rw[eL] at this;omega
 refine⟨by rw[Oi V,C4],λJ hb j Z i G=> ?_,λj Z i G=> ?_,λi G=> ?_⟩
 ·have :=aa J hb j Z
  rw[qj V,aA (by omega),z,aA (by omega)];exact h.done J hb j Z i G
 ·rw[U] at Z ⊢
  by_cases e:j=y.length
  ·subst e
   have hx:(y++[x]).getD y.length 0=x:=by simp
   rw[hx,aA (by omega),<-hf];cases i with
   |zero=>
    rw[qj V,aA (by omega),z,aA (by omega),h.rest _ (by omega)];rfl
   |succ i=>
    rw[lF,qj V];by_cases ac:i<(dR (tZ (dA E b) x)).length
    ·rw[aB (by omega),show 8*f+(i+1)-(8*f+1)=i by omega]
    ·rw[aA (by omega),z,aA (by omega),h.rest _ (by omega),aj,aO (by omega)]
     rfl
  ·have YN:j<y.length:=by omega
   have hx:(y++[x]).getD j 0=y.getD j 0:=by simp only[aj];rw[aW YN]
   rw[hx,aB (by omega),qj V,aA (by omega),z];have h2:=h.part j YN i G;cases i with
   |zero=>
    by_cases e2:j+1=y.length
    ·rw[aB ⟨by omega,by omega⟩,hf,<-e2]
     rfl
    ·rw[aA (by omega),h2,aB (by omega)]
   |succ i=>
    rw[aA (by omega),h2,lF,lF]
 ·rw[U] at G
  rw[qj V,aA (by omega),z,aA (by omega)];exact h.rest i (by omega)
theorem yq.breads(h:yq E own 4 [] C)(J:eL E 4=own.length){W:World}{g cap T:Nat}(nz:own.length<=cap)(nB:cap<=maxLen)(U:bm W g (aR C).toArray T):
  l7 W (.slice (some ⟨g,0,none⟩) own.length cap) g (tz E own 4):=by
 have G:(tz E own 4).length=own.length:=by rw[lG,J]
 refine⟨some ⟨g,0,none⟩,cap,by rw[G],by rw[G];exact nz,nB,λ_=>⟨U.lt,0,rfl,λk Z j hj=> ?_⟩⟩;rw[G,<-J] at Z;obtain⟨z,i,y,V,rfl⟩:=qh E Z;rw[oa E own V y,<-h.done z y i V j hj,U.cell,aC,show 0+(eL E z+i)*8+j=8*(eL E z+i)+j by omega,cC];rw[h.len,<-J];omega
end Go.Proofs.YtcecbdeamjigiaaGreatDoor
