/- Lemmas. -/
import Derived.Test.YtepbpdipenedhaaGreatDoorS06
set_option maxHeartbeats 8000000
set_option maxRecDepth 100000
namespace Go.Proofs.YtepbpdipenedhaaGreatDoor
open Go.Proofs.Tryz
open Go.RowKit
variable{w w':World}{T a b g:Nat}{C l ws:List Int}{v:Value}{P:Program}{E:List (ByteArray×Int)}{own:List Nat}
theorem Ob (b c:Nat)(y:c<=8)(w:World):(Instr.sliceAt 195 (.pointer (some ⟨b,0,none⟩)) none (some (.int .i64 (c:Int))) none).run prog w= .ok (.slice (some ⟨b,0,none⟩) c 8) w:=by
 have h:c=0\/c=1\/c=2\/c=3\/c=4\/c=5\/c=6\/c=7\/c=8:=by omega
 rcases h with rfl|rfl|rfl|rfl|rfl|rfl|rfl|rfl|rfl
 all_goals (show Sem.run _ _ _=_;kernel_rfl)
theorem bf.reads{o n c:Nat}(h:bf w b (aO l).toArray T)(U:o+n<=l.length)(G:n<=c)(J:c<=1000):Reads w (.slice (some ⟨b,o,none⟩) n c) b (aO ((l.drop o).take n)):=by
 have y:(aO ((l.drop o).take n)).length=n:=by rw[aZ,aI,bu];omega
 refine⟨_,c,by rw[y],by rw[y];exact G,by unfold maxLen;omega,λ_=>⟨h.lt,o,rfl,λj z=> ?_⟩⟩;rw[y] at z;rw[h.cell,aC,cG (by omega),cG (by rw[aI,bu];omega)];simp[z]
theorem ay.grown2{wr h:World}{row:Option Nat}(z:ay [] w wr)(y:wr.grownBy h row)(G:∀k,row=some k->w.heap.size<=k):ay [] w h:=z.grown y G
def kY (w:World) (X l:List Int) (m:Nat) (e:Ending) (w':World):Prop:=
 ∃v E ok g,e= .returned (.tuple #[v,.bool ok])/\br w' v g E/\w.heap.size<=g/\(ok=true->lI X l m/\E=pj X l m)/\(ok=false->¬lI X l m/\E=[])/\ay [] w w'
theorem kY.no{X:List Int}{m:Nat}(h:¬lI X l m)(y:ay [] w w'):kY w X l m (.returned (.tuple #[.slice none 0 0,.bool false])) w':=
 ⟨_,[],false,w.heap.size,rfl,br.nil _ _,aG _,λh=>(by cases h),λ_=>⟨h,rfl⟩,y⟩
theorem Gc{gp:Nat}{B:List Int}{ps:List (Int×Int)}(h:eT w b gp B ps)(bk:In64 (az B ps))(l:List Int)(hl:l.length=13)(MM:∀k,0<=l.getD k 0/\l.getD k 0<256)(m:Nat)(hm:m<=832):
  Calls prog 191 #[.pointer (some ⟨b,0,none⟩),.agg (zs l).toArray,.int .i64 (m:Int)] w (kY w (az B ps) l m):=by
 have HS:=ar h;have sD:=ar bk;have aS:=bf.new w (zs l).toArray 109;have nW:=ar aS;have gH:Hid (ay [] w (w.alloc (.cells (zs l).toArray 109))):=(ay.refl _ _).alloc _;have bj:=tG m 4 (by omega) (by omega) (by omega);rw[show(m+4-1)/4=aY m by unfold aY;congr 1] at bj;have HP:=ar bj;have Ex:aY m<=300:=by unfold aY;omega
 have nC:Hid (∀y,ay [] (w.alloc (.cells (zs l).toArray 109)) y->(loadVar 109 ⟨w.heap.size,0,none⟩).run prog y= .ok (.agg (zs l).toArray) y):=λy hk=>
  eN (off:=0) (aS.keep hk (by simp)) hl (λk hk=>by rw[aV,aC,fp (by omega)])
 have RM:Hid (∀y k,k<13->ay [] (w.alloc (.cells (zs l).toArray 109)) y->y.cell? ⟨w.heap.size,k,none⟩=some (.int .i64 (l.getD k 0))):=λy k hk eW=>by
  rw[(aS.keep eW (by simp)).cell,aC,fp (by omega)]
 have Xh:=ar MM;have HL:=ar hl;clear h bk aS bj MM;generalize hz:(zs l).toArray=Z at *;have HZ:=ar hz;clear hz;by_cases Kc:24<m
 ·have HN:Hid (¬lI (az B ps) l m):=λh=>by have :=h.1;omega
  have cd:(24:Int)<(m:Int):=by omega
  generalize aY m=aa at *;clear hl;go_enter func191,ntmps191;go_wp2_with fail;refine(HP.out _).mono ?_;rintro e w' ⟨rfl,rfl⟩;go_wp2_with fail;have Vh:decide (24<m)=true:=bh Kc;refine dt (S:=λy=>y=(w.alloc (.cells Z 109)).drew) (by kernel_rfl) (by kernel_rfl) (λd _ _ _ _ h=>by cases d<;>exact h) rfl (by kernel_rfl) ?_;repeat (first
   |(refine aH.cons undef (aX.off rfl) ?_;simp only[Act.put,ag,ah,ai])
   |(refine aH.cons (.bool true) (aX.val rfl ?h) ?_;(case h=>(intro y z;clear z;first|(go_simp;done)|(go_simp;simp[Vh];done)));simp only[Act.put,ag,ah,ai])
   |(refine aH.cons ?_ (aX.val rfl ?h) ?_;(case h=>(intro y z;go_simp;rfl));simp only[Act.put,ag,ah,ai]))
  refine aH.done λy z=> ?_
  subst z;go_wp2_with fail;go_ret2;exact kY.no HN.out gH.out.drew
 ·have Vh:decide (24<m)=false:=aM Kc
  have b6:¬(24:Int)<(m:Int):=by omega
  have KW:aY m<=13:=by unfold aY;omega
  have HU:=ar (MF l (aY m) hl KW);have Dv:=ar (λy=>KF (a:=l) (b:=kW l (aY m)) hl (uj hl KW) y);rw[HZ.out] at HU Dv;have Yl:=yC;obtain⟨t,ht⟩:∃t,decide (l=kW l (aY m))=t:=⟨_,rfl⟩;rw[ht] at Dv;have bX:=Dv.out;generalize (zs (kW l (aY m))).toArray=ZU at *;clear Dv;cases t
  ·have HN:Hid (¬lI (az B ps) l m):=λh=>of_decide_eq_false ht h.2.1
   clear ht hl HL Xh;generalize aY m=aa at *;go_enter func191,ntmps191;go_wp2_with fail;refine(HP.out _).mono ?_;rintro e w' ⟨rfl,rfl⟩;go_wp2_with fail;refine dt (S:=λy=>ay [] (w.alloc (.cells Z 109)) y) (by kernel_rfl) (by kernel_rfl) (λd _ _ _ _ h=>by cases d<;>exact h) ((ay.refl _ _).drew) (by kernel_rfl) ?_;repeat (first
    |(refine aH.cons (.agg Z) (aX.load rfl 109 (.tmp 4) rfl _ rfl λy z=>nC.out y z) ?_;simp only[Act.put,ag,ah,ai])
    |(refine aH.cons (.agg ZU) (aX.call rfl 167 #[.agg Z,.int .i64 (aa:Int)] ?V ?h) ?_;(case V=>(intro wz;go_simp));(case h=>exact λy z=>(HU.out y).mono λe w' V=>⟨V.1,z.trans' V.2⟩);simp only[Act.put,ag,ah,ai])
    |(refine aH.cons (.bool false) (aX.val rfl ?h) ?_;(case h=>(intro y z;clear z;first|(go_simp;done)|(go_simp;simp[Vh];done)));simp only[Act.put,ag,ah,ai])
    |(refine aH.cons ?_ (aX.val rfl ?h) ?_;(case h=>(intro y z;clear z;go_simp;rfl));simp only[Act.put,ag,ah,ai]))
   refine aH.done λy z=> ?_
   have oF:=ar (gH.out.trans' z);clear z;go_wp2_with fail;go_ret2;exact kY.no HN.out oF.out
  ·have bq:=of_decide_eq_true ht
   have bV:=ar bq;clear bq;have bO:=λy=>Ij w.heap.size (aY m) KW y
   clear ht hl;generalize bA:aY m=aa at *;have YF:=ar bA;clear bA;go_enter func191,ntmps191;go_wp2_with fail;refine(HP.out _).mono ?_;rintro e w' ⟨rfl,rfl⟩;go_wp2_with fail;refine dt (S:=λy=>ay [] (w.alloc (.cells Z 109)) y) (by kernel_rfl) (by kernel_rfl) (λd _ _ _ _ h=>by cases d<;>exact h) ((ay.refl _ _).drew) (by kernel_rfl) ?_;repeat (first
    |(refine aH.cons (.agg Z) (aX.load rfl 109 (.tmp 4) rfl _ rfl λy z=>nC.out y z) ?_;simp only[Act.put,ag,ah,ai])
    |(refine aH.cons (.agg ZU) (aX.call rfl 167 #[.agg Z,.int .i64 (aa:Int)] ?V ?h) ?_;(case V=>(intro wz;go_simp));(case h=>exact λy z=>(HU.out y).mono λe w' V=>⟨V.1,z.trans' V.2⟩);simp only[Act.put,ag,ah,ai])
    |(refine aH.cons (.bool false) (aX.val rfl ?h) ?_;(case h=>(intro y z;clear z;first|(go_simp;done)|(go_simp;simp[Vh];done)));simp only[Act.put,ag,ah,ai])
    |(refine aH.cons ?_ (aX.val rfl ?h) ?_;(case h=>(intro y z;clear z;go_simp;rfl));simp only[Act.put,ag,ah,ai]))
   refine aH.done λw1 z=> ?_
   have jl:=ar z;clear z;obtain⟨E,hE⟩:∃E,E=pj (az B ps) l m:=⟨_,rfl⟩;have HE:=ar hE;have bG:E.length=m:=by rw[hE];exact nr _ _ _
   have xj:=ar bG;have aK:Hid (∀e,e<m->dZ E e=sF ((jk (vU (az B ps) l e)).getD [])/\iC E e=rG (az B ps) l e):=λe V=>by rw[hE];exact yK _ _ _ _ V
   have bF:m<=4*aa/\∀k,k<aa->4*k<m:=by
    have hc:=YF.out;unfold aY at hc;exact⟨by omega,λk hk=>by omega⟩
   have bt:=ar bF;clear hE bG bF;obtain⟨i0,hi,bC,bI,bD⟩:=cr Tryz.info_entry;have HI:=ar hi;have cm:=jx;clear hi;go_wp2_with fail;clear bO bX Yl;go_loopg [9,29] aa (λgh s9 s29 y=>∃k:Nat,k+gh=aa/\s29= .int .i64 (k:Int)/\Hid (y.ownsRow (w.heap.size+1) 87 2 s9 (min m (4*k)) (dH (E.take (4*k)))/\(∀i,i<k->zH (az B ps) l m i)/\ay [] (w.alloc (.cells Z 109)) y))
   case atStart=>exact⟨0,by omega,rfl,⟨by simp[dH],.inl ⟨rfl,by simp⟩⟩,by simp,jl.out⟩
   case round=>
    clear jl;obtain⟨k,hk,rfl,HP⟩:=hrel;obtain⟨G,ax,eW⟩:=HP.out;cases gk with
    |zero=>
     obtain rfl:k=aa:=by omega
     have mJ:Hid (kY w (az B ps) l m (.returned (.tuple #[u9,.bool true])) wr):=by
      have h1:=bt.out.1;rw[cA h1,aW (by rw[xj.out];exact h1)] at G;obtain⟨g,ho,hg⟩:=eQ.of_row G;obtain⟨g2,bU,bN⟩:∃g2,w.heap.size<=g2/\br wr u9 g2 E:=by
       by_cases h0:m=0
       ·exact⟨w.heap.size,aG _,(ho.ereads xj.out.symm).anyG (by rw[xj.out,h0]) _⟩
       ·exact⟨g,by have :=(hg h0).1;omega,ho.ereads xj.out.symm⟩
      exact⟨u9,E,true,g2,rfl,bN,bU,λ_=>⟨⟨by omega,by rw[YF.out];exact bV.out,by rw[YF.out];exact ax⟩,HE.out⟩,λh=>(by cases h),gH.out.trans' eW⟩
     clear HP G ax eW hk;go_wp2_with fail;go_ret2;exact mJ.out
    |succ gg=>
     have bz:k<aa:=by omega
     have ck:(k:Int)<(aa:Int):=by omega
     have eo:(0:Int)<=(k:Int):=by omega
     have bp:=bt.out.2 k bz;have bb:=RM.out wr k (by omega) eW;have bP:=Xh.out k;have G9:Hid (¬zH (az B ps) l m k->¬lI (az B ps) l m):=λh hh=>h (hh.2.2 k (by rw[YF.out];exact bz))
     have QA:Hid (zH (az B ps) l m k↔l.getD k 0≠0/\(∀j,j<min 4 (m-4*k)->(jk (vU (az B ps) l (4*k+j))).isSome=true/\rG (az B ps) l (4*k+j)<32)/\gI E k=dz (az B ps) (1080+8*(l.getD k 0).toNat)):=by
      have e:=HE.out;show _↔_;rw[e];exact Iff.rfl
     have qz:=ar ax;have iA:=ar eW;have QB:Hid (∀j,j<4->sy l (4*k+j)=1080+8*(l.getD k 0).toNat+2*j):=λj U=>N9 l k j U
     obtain⟨q,hq⟩:∃q:Nat,l.getD k 0=(q:Int):=⟨(l.getD k 0).toNat,by omega⟩;rw[hq] at bb QA QB bP;rw[aJ] at QA QB;rw[Nat.min_eq_right (by omega)] at G;have ac:=ar G;clear HP G ax eW hq;by_cases bT:q=0
     ·subst bT
      have HN:Hid (¬lI (az B ps) l m):=G9.out λh=>(QA.out.1 h).1 rfl
      have oF:=ar (gH.out.trans' iA.out);clear QA QB G9 hk;go_wp2_with fail;go_ret2;exact kY.no HN.out oF.out
     ·have e0:((q:Int)==0)=false:=cj.2 (by omega)
      have aB:=jI (q:Int) wr;rw[show jH (q:Int)=((1080+8*q:Nat):Int) by unfold jH;rw[aA (by omega)];omega] at aB;have RJ:=ar aB;have kH:=ar (mL (HS.out.keep (gH.out.trans' iA.out) (by simp) (by simp)) (1080+8*q) (by omega));obtain⟨r,hr⟩:∃r,r=dz (az B ps) (1080+8*q):=⟨_,rfl⟩;rw[<-hr] at kH QA;have bM:=ar hr;have sQ:r.length=8:=by rw[hr];exact iB _ _
      have bn:Hid (∀j,j<4->r.getD (j*2) 0=((vU (az B ps) l (4*k+j):Nat):Int)/\r.getD (j*2+1) 0=rG (az B ps) l (4*k+j)):=λj U=>by
       have bW:=QB.out j U;rw[hr,jt _ _ _ (by omega),jt _ _ _ (by omega)];unfold vU rG;rw[bW];have bk:=sD.out (1080+8*q+2*j);rw[show 1080+8*q+j*2=1080+8*q+2*j by omega,show 1080+8*q+(j*2+1)=1080+8*q+2*j+1 by omega];exact⟨by omega,rfl⟩
      have yL:=ar sQ;have b9:Hid (∀j,j<4->0<=rG (az B ps) l (4*k+j)):=λj U=>by
       have :=(sD.out (sy l (4*k+j)+1)).1;exact this
      clear hr sQ QB aB;generalize hp:((1080+8*q:Nat):Int)=p at *;clear hp;obtain⟨c,hc⟩:∃c,c=min 4 (m-4*k):=⟨_,rfl⟩;have HC:=ar hc;have bY:c<=4:=by omega
      have cf:4*k+c<=m:=by omega
      have bH:(m:Int)-(k:Int)*4=((m-4*k:Nat):Int):=by omega
      obtain⟨d,hd⟩:∃d,d=m-4*k:=⟨_,rfl⟩;rw[<-hd] at bH hc;have bQ:((4:Int)<=(d:Int)/\c=4)\/((d:Int)<4/\c=d):=by omega
      clear hc hd;have cg:w.heap.size+1<=wr.heap.size:=by have :=iA.out.size;simpa using this
      go_wp2_with fail;refine RJ.out.mono ?_;rintro e w' ⟨rfl,rfl⟩;go_wp2_with fail;refine kH.out.mono ?_;rintro e w3 ⟨rfl,ba⟩;obtain⟨w5,bv,qg,kr⟩:=bo (P:= prog) (ty:= 195) (cs:=aO r) (by rw[aZ,yL.out];exact il) (bf.new w3 (aO (List.replicate 8 0)).toArray 195) (by simp[aZ,yL.out]) (eF _);have cn:=ba.size;have bB:=ar bv;have Vi:=ar qg;have pk:Hid (ay [] wr w5):=((ba.alloc (.cells (aO (List.replicate 8 0)).toArray 195)).trans kr (by intro x z;rw[au] at z;omega));clear bv qg kr ba RJ kH;have qp:Hid (ay [] (w.alloc (.cells Z 109)) w5):=iA.out.trans' pk.out;have aT:Hid (∀g,u9.ownBlock=some g->g≠w3.heap.size):=λg hg=>by
       obtain⟨-,h1⟩:=ac.out;rcases h1 with ⟨hv,-⟩|⟨g2,cap,b7,hv,-,hh,-⟩
       ·rw[hv] at hg;cases hg
       ·rw[hv] at hg
        cases hg;have :=(Array.getElem?_eq_some_iff.1 hh).1;show g2≠w3.heap.size;omega
      have aR:Hid (w5.ownsRow (w.heap.size+1) 87 2 u9 (4*k+0) (dH (E.take (4*k+0)))):=ct ac.out pk.out (by simp);have b8:w.heap.size+1<=w3.heap.size:=by omega
      obtain⟨W,bE⟩:∃W,W=2*c:=⟨_,rfl⟩;have RN:Hid (∀j,j<c->(r.take W).getD (j*2) 0=((vU (az B ps) l (4*k+j):Nat):Int)/\(r.take W).getD (j*2+1) 0=rG (az B ps) l (4*k+j)):=λj U=>by
       have e0:(r.take W).getD (j*2) 0=r.getD (j*2) 0:=by simp[show j*2<W by omega]
       have e1:(r.take W).getD (j*2+1) 0=r.getD (j*2+1) 0:=by simp[show j*2+1<W by omega]
       rw[e0,e1];exact bn.out j (by omega)
      have Vj:Hid (nD (r.take W) c↔∀j,j<c->(jk (vU (az B ps) l (4*k+j))).isSome=true/\rG (az B ps) l (4*k+j)<32):=by
       constructor
       ·intro h j U
        have :=h j U;rw[(RN.out j U).1,(RN.out j U).2,aJ] at this;exact this
       ·intro h j U
        rw[(RN.out j U).1,(RN.out j U).2,aJ];exact h j U
      have bw:Hid (E.take (4*k+c)=E.take (4*k)++jM (r.take W) c):=by
       show _=_;rw[List.take_add]
       congr 1
       have FL:((E.drop (4*k)).take c).length=c:=by rw[aI,bu,xj.out];omega
       refine Ri (by rw[FL,iD]) λj U=> ?_
       rw[FL] at U;rw[(xk E (4*k) c j U).1,(xk E (4*k) c j U).2,(yH _ _ _ U).1,(yH _ _ _ U).2,(RN.out j U).1,(RN.out j U).2,aJ];exact aK.out _ (by omega)
      have uM:Hid (∀j,0<=(r.take W).getD j 0/\(r.take W).getD j 0<18446744073709551616):=λj=>by
       by_cases U:j<W
       ·have e0:(r.take W).getD j 0=r.getD j 0:=by simp[U]
        rw[e0,bM.out];by_cases bL:j<8
        ·rw[jt _ _ _ bL];exact sD.out _
        ·rw[aj,aP (by rw[iB];omega)]
         simp
       ·rw[aj,aP (by rw[aI];omega)]
        simp
      have bJ:Reads w5 (.slice (some ⟨w3.heap.size,0,none⟩) W 8) w3.heap.size (aO (r.take W)):=by
       have :=Vi.out.reads (o:=0) (n:=W) (c:=8) (by rw[yL.out];omega) (by omega) (by omega);rwa[List.drop_zero] at this
      have Oc:=ar (sw bJ (by rw[aI,yL.out];omega) c (by rw[aI,yL.out];omega) uM.out);have Vk:Hid (∀x:Int,x=(W:Int)->∀y,(Instr.sliceAt 195 (.pointer (some ⟨w3.heap.size,0,none⟩)) none (some (.int .i64 x)) none).run prog y= .ok (.slice (some ⟨w3.heap.size,0,none⟩) W 8) y):=λx z y=>by
       rw[z];exact Ob _ _ (by omega) y
      have bZ:1<=c:=by have :=HC.out;omega
      clear bJ bn RN uM;have RO:=ar bE;clear bE;rcases bQ with ⟨bR,aQ⟩|⟨bR,aQ⟩
      ·have RG:=Vk.out 8 (by have :=RO.out;omega)
       have bK:=ar aQ;clear aQ Vk;go_wp2_with(with_reducible refine gS 195 bB.out ?_);refine Oc.out.mono ?_;rintro e w6 av;rcases av with ⟨g7,rfl,Xi,QC,RP,jZ⟩|⟨rfl,aN,jZ⟩
       ·have ae:=Vj.out.1 RP
        have KX:=ar (ct aR.out jZ (by simp));have nM:=ar (pk.out.trans' jZ);have KY:=ar (Vi.out.keep jZ (by simp));have RQ:Hid (∀j u,(dH (jM (r.take W) c))[j]? =some u->w6.cell? ((⟨g7,0,none⟩:Addr).add j)=some u):=λj u hu=>by
         obtain⟨-,-,aL,-⟩:=Xi.cell (by omega);have U:=(List.getElem?_eq_some_iff.1 hu).1;rw[jb,iD] at U;rw[add_plain,aV,aL j U];exact hu
        have Ka:Hid ((dH (jM (r.take W) c)).length=c*2):=by show _=_;rw[jb,iD]
        have bg:w.heap.size+1<=w6.heap.size:=by have :=nM.out.size;omega
        have hi:=HI.out;clear RG Xi QC RP jZ Oc;go_wp2_with(at_builtin;refine dw _ rfl _ _ 32 rfl (w.heap.size+1) 87 i0 (.agg #[.string ⟨#[]⟩,.int .i64 0]) 2 24 underlying32 hi bC bI bD rfl (by decide) u9 (4*k+0) _ rfl KX.out ⟨g7,0,none⟩ c c (dH (jM (r.take W) c)) rfl Ka.out RQ.out (rA _) (by unfold maxLen;omega) (by omega) bg ?_);intro v9 w7 IH J _;have G:w7.ownsRow (w.heap.size+1) 87 2 v9 (4*k+c) (dH (E.take (4*k+c))):=by
         rw[bw.out,lN];exact IH
        have aD:bf w7 w3.heap.size (aO r).toArray 195 :=(J.block _ KY.out.lt (λe=>aT.out _ e.symm rfl)).trans KY.out;have eW:ay [] (w.alloc (.cells Z 109)) w7:=(iA.out.trans' nM.out).grown2 J λg hg=>by have :=cz KX.out g hg;simpa using this
        clear IH J KX nM KY qp pk aR aT Vi iA ac hi;obtain⟨g0,aF,aU⟩:=eQ.of_row G;have Ao:=ar (aF.ereads (by rw[aI,xj.out];omega));have bl:Hid (su (E.take (4*k+c))):=by
         have bc:∀e,e<4*k+c->0<=rG (az B ps) l e/\rG (az B ps) l e<32:=λe V=>by
          have h0:0<=rG (az B ps) l e:=(sD.out (sy l e+1)).1;refine⟨h0,?_⟩;by_cases bS:e<4*k
          ·have :=((qz.out (e/4) (by omega)).2.1 (e%4) (by omega)).2
           rw[show 4*(e/4)+e%4=e by omega] at this;exact this
          ·have :=(ae (e-4*k) (by omega)).2
           rw[show 4*k+(e-4*k)=e by omega] at this;exact this
         refine⟨by rw[aI,xj.out];omega,λe V=> ?_,λe V=> ?_⟩
         ·rw[aI,xj.out] at V
          rw[(tI E (4*k+c) e (by omega)).1,(aK.out e (by omega)).1];have :=um (vU (az B ps) l e);omega
         ·rw[aI,xj.out] at V
          rw[(tI E (4*k+c) e (by omega)).2,(aK.out e (by omega)).2];have :=bc e (by omega);omega
        have RR:Hid (∀y,ay [] w7 y->Calls prog 196 #[v9,.int .i64 (k:Int)] y λe w'=>e= .returned (.agg (aO (gI E k)).toArray)/\ay [] y w'):=λy af=>by
         have :=tH (Ao.out.keep af (by simp)) bl.out k (by rw[aI,xj.out];omega);rw[zG E k c (by rw[HC.out,xj.out]) (by rw[xj.out];exact bp)] at this;exact this
        have QD:Hid (∀y,ay [] w7 y->(loadVar 195 ⟨w3.heap.size,0,none⟩).run prog y= .ok (.agg (aO r).toArray) y):=λy af=>dX (aD.keep af (by simp)) yL.out
        have B0:=ar (λy=>Es (a:=gI E k) (b:=r) (jS _ _ _) yL.out y);have Vl:=qA;have iA:=ar eW;have ac:=ar G;obtain⟨t2,ak⟩:∃t2,decide (gI E k=r)=t2:=⟨_,rfl⟩;rw[ak] at B0;have YE:=B0.out;have AO:Hid (zH (az B ps) l m k↔t2=true):=by
         show _↔_;rw[QA.out,<-ak,decide_eq_true_iff];refine⟨λh=>h.2.2,λh=>⟨by omega,λi hi=>ae i ?_,h⟩⟩;have :=HC.out;omega
        clear G ae aD eW aF aU ak B0;generalize (aO (gI E k)).toArray=ZQ at *;generalize (aO r).toArray=ZP at *;cases t2;all_goals
         go_wp2_with fail;refine dt (S:=λy=>ay [] w7 y) (by kernel_rfl) (by kernel_rfl) (λd _ _ _ _ h=>by cases d<;>exact h) ((ay.refl _ _).drew) (by kernel_rfl) ?_;repeat (first
          |(refine aH.cons (.agg ZP) (aX.load rfl 195 (.tmp 12) rfl _ rfl λy z=>QD.out y z) ?_;simp only[Act.put,ag,ah,ai])
          |(refine aH.cons (.agg ZQ) (aX.call rfl 196 #[v9,.int .i64 (k:Int)] ?V ?h) ?_;(case V=>(intro wz;go_simp));(case h=>exact λy z=>(RR.out y z).mono λe w' V=>⟨V.1,z.trans' V.2⟩);simp only[Act.put,ag,ah,ai])
          |(refine aH.cons ?_ (aX.val rfl ?h) ?_;(case h=>(intro y z;clear z;go_simp;rfl));simp only[Act.put,ag,ah,ai]))
         refine aH.done λwz z=> ?_
         have Ap:=ar z;clear z
        ·have HN:Hid (¬lI (az B ps) l m):=G9.out λh=>by have :=AO.out.1 h;cases this
         have oF:=ar (gH.out.trans' (iA.out.trans' Ap.out));go_wp2_with fail;go_ret2;exact kY.no HN.out oF.out
        ·have RS:Hid (wz.ownsRow (w.heap.size+1) 87 2 v9 (min m (4*(k+1))) (dH (E.take (4*(k+1))))/\(∀i,i<k+1->zH (az B ps) l m i)/\ay [] (w.alloc (.cells Z 109)) wz):=by
          refine⟨?_,λi hi=> ?_,iA.out.trans' Ap.out⟩
          ·have h1:=ct ac.out Ap.out (by simp)
           have aL:=HC.out;rw[show min m (4*(k+1))=4*k+c by omega];have e:E.take (4*(k+1))=E.take (4*k+c):=by
            by_cases h4:c=4
            ·rw[h4,Nat.mul_add]
            ·rw[aW (by rw[xj.out];omega),aW (by rw[xj.out];omega)]
           rw[e];exact h1
          ·by_cases e:i=k
           ·subst e;exact AO.out.2 (by simp)
           ·exact qz.out i (by omega)
         go_wp2_with fail;go_roundg gg;case measure=>omega
         case rel=>exact⟨k+1,by omega,by go_num,RS.out⟩
       ·have HN:Hid (¬lI (az B ps) l m):=G9.out λh=>aN (Vj.out.2 λj U=>(QA.out.1 h).2.1 j (by have :=HC.out;omega))
        have oF:=ar (gH.out.trans' ((iA.out.trans' pk.out).trans' jZ));clear aN jZ Oc;go_wp2_with fail;go_ret2;exact kY.no HN.out oF.out
      ·have cp:2*(d:Int)=(W:Int):=by have :=RO.out;omega
       have RG:=Vk.out (W:Int) rfl;have bK:=ar aQ;clear aQ Vk;go_wp2_with(with_reducible refine gS 195 bB.out ?_);refine Oc.out.mono ?_;rintro e w6 av;rcases av with ⟨g7,rfl,Xi,QC,RP,jZ⟩|⟨rfl,aN,jZ⟩
       ·have ae:=Vj.out.1 RP
        have KX:=ar (ct aR.out jZ (by simp));have nM:=ar (pk.out.trans' jZ);have KY:=ar (Vi.out.keep jZ (by simp));have RQ:Hid (∀j u,(dH (jM (r.take W) c))[j]? =some u->w6.cell? ((⟨g7,0,none⟩:Addr).add j)=some u):=λj u hu=>by
         obtain⟨-,-,aL,-⟩:=Xi.cell (by omega);have U:=(List.getElem?_eq_some_iff.1 hu).1;rw[jb,iD] at U;rw[add_plain,aV,aL j U];exact hu
        have Ka:Hid ((dH (jM (r.take W) c)).length=c*2):=by show _=_;rw[jb,iD]
        have bg:w.heap.size+1<=w6.heap.size:=by have :=nM.out.size;omega
        have hi:=HI.out;clear RG Xi QC RP jZ Oc;go_wp2_with(at_builtin;refine dw _ rfl _ _ 32 rfl (w.heap.size+1) 87 i0 (.agg #[.string ⟨#[]⟩,.int .i64 0]) 2 24 underlying32 hi bC bI bD rfl (by decide) u9 (4*k+0) _ rfl KX.out ⟨g7,0,none⟩ c c (dH (jM (r.take W) c)) rfl Ka.out RQ.out (rA _) (by unfold maxLen;omega) (by omega) bg ?_);intro v9 w7 IH J _;have G:w7.ownsRow (w.heap.size+1) 87 2 v9 (4*k+c) (dH (E.take (4*k+c))):=by
         rw[bw.out,lN];exact IH
        have aD:bf w7 w3.heap.size (aO r).toArray 195 :=(J.block _ KY.out.lt (λe=>aT.out _ e.symm rfl)).trans KY.out;have eW:ay [] (w.alloc (.cells Z 109)) w7:=(iA.out.trans' nM.out).grown2 J λg hg=>by have :=cz KX.out g hg;simpa using this
        clear IH J KX nM KY qp pk aR aT Vi iA ac hi;obtain⟨g0,aF,aU⟩:=eQ.of_row G;have Ao:=ar (aF.ereads (by rw[aI,xj.out];omega));have bl:Hid (su (E.take (4*k+c))):=by
         have bc:∀e,e<4*k+c->0<=rG (az B ps) l e/\rG (az B ps) l e<32:=λe V=>by
          have h0:0<=rG (az B ps) l e:=(sD.out (sy l e+1)).1;refine⟨h0,?_⟩;by_cases bS:e<4*k
          ·have :=((qz.out (e/4) (by omega)).2.1 (e%4) (by omega)).2
           rw[show 4*(e/4)+e%4=e by omega] at this;exact this
          ·have :=(ae (e-4*k) (by omega)).2
           rw[show 4*k+(e-4*k)=e by omega] at this;exact this
         refine⟨by rw[aI,xj.out];omega,λe V=> ?_,λe V=> ?_⟩
         ·rw[aI,xj.out] at V
          rw[(tI E (4*k+c) e (by omega)).1,(aK.out e (by omega)).1];have :=um (vU (az B ps) l e);omega
         ·rw[aI,xj.out] at V
          rw[(tI E (4*k+c) e (by omega)).2,(aK.out e (by omega)).2];have :=bc e (by omega);omega
        have RR:Hid (∀y,ay [] w7 y->Calls prog 196 #[v9,.int .i64 (k:Int)] y λe w'=>e= .returned (.agg (aO (gI E k)).toArray)/\ay [] y w'):=λy af=>by
         have :=tH (Ao.out.keep af (by simp)) bl.out k (by rw[aI,xj.out];omega);rw[zG E k c (by rw[HC.out,xj.out]) (by rw[xj.out];exact bp)] at this;exact this
        have QD:Hid (∀y,ay [] w7 y->(loadVar 195 ⟨w3.heap.size,0,none⟩).run prog y= .ok (.agg (aO r).toArray) y):=λy af=>dX (aD.keep af (by simp)) yL.out
        have B0:=ar (λy=>Es (a:=gI E k) (b:=r) (jS _ _ _) yL.out y);have Vl:=qA;have iA:=ar eW;have ac:=ar G;obtain⟨t2,ak⟩:∃t2,decide (gI E k=r)=t2:=⟨_,rfl⟩;rw[ak] at B0;have YE:=B0.out;have AO:Hid (zH (az B ps) l m k↔t2=true):=by
         show _↔_;rw[QA.out,<-ak,decide_eq_true_iff];refine⟨λh=>h.2.2,λh=>⟨by omega,λi hi=>ae i ?_,h⟩⟩;have :=HC.out;omega
        clear G ae aD eW aF aU ak B0;generalize (aO (gI E k)).toArray=ZQ at *;generalize (aO r).toArray=ZP at *;cases t2;all_goals
         go_wp2_with fail;refine dt (S:=λy=>ay [] w7 y) (by kernel_rfl) (by kernel_rfl) (λd _ _ _ _ h=>by cases d<;>exact h) ((ay.refl _ _).drew) (by kernel_rfl) ?_;repeat (first
          |(refine aH.cons (.agg ZP) (aX.load rfl 195 (.tmp 12) rfl _ rfl λy z=>QD.out y z) ?_;simp only[Act.put,ag,ah,ai])
          |(refine aH.cons (.agg ZQ) (aX.call rfl 196 #[v9,.int .i64 (k:Int)] ?V ?h) ?_;(case V=>(intro wz;go_simp));(case h=>exact λy z=>(RR.out y z).mono λe w' V=>⟨V.1,z.trans' V.2⟩);simp only[Act.put,ag,ah,ai])
          |(refine aH.cons ?_ (aX.val rfl ?h) ?_;(case h=>(intro y z;clear z;go_simp;rfl));simp only[Act.put,ag,ah,ai]))
         refine aH.done λwz z=> ?_
         have Ap:=ar z;clear z
        ·have HN:Hid (¬lI (az B ps) l m):=G9.out λh=>by have :=AO.out.1 h;cases this
         have oF:=ar (gH.out.trans' (iA.out.trans' Ap.out));go_wp2_with fail;go_ret2;exact kY.no HN.out oF.out
        ·have RS:Hid (wz.ownsRow (w.heap.size+1) 87 2 v9 (min m (4*(k+1))) (dH (E.take (4*(k+1))))/\(∀i,i<k+1->zH (az B ps) l m i)/\ay [] (w.alloc (.cells Z 109)) wz):=by
          refine⟨?_,λi hi=> ?_,iA.out.trans' Ap.out⟩
          ·have h1:=ct ac.out Ap.out (by simp)
           have aL:=HC.out;rw[show min m (4*(k+1))=4*k+c by omega];have e:E.take (4*(k+1))=E.take (4*k+c):=by
            by_cases h4:c=4
            ·rw[h4,Nat.mul_add]
            ·rw[aW (by rw[xj.out];omega),aW (by rw[xj.out];omega)]
           rw[e];exact h1
          ·by_cases e:i=k
           ·subst e;exact AO.out.2 (by simp)
           ·exact qz.out i (by omega)
         go_wp2_with fail;go_roundg gg;case measure=>omega
         case rel=>exact⟨k+1,by omega,by go_num,RS.out⟩
       ·have HN:Hid (¬lI (az B ps) l m):=G9.out λh=>aN (Vj.out.2 λj U=>(QA.out.1 h).2.1 j (by have :=HC.out;omega))
        have oF:=ar (gH.out.trans' ((iA.out.trans' pk.out).trans' jZ));clear aN jZ Oc;go_wp2_with fail;go_ret2;exact kY.no HN.out oF.out
def mM (w:World) (v:Value) (g:Nat) (Ls:List (List Int)):Prop:=
 ∃a cap,v= .slice a Ls.length cap/\Ls.length<=cap/\cap<=maxLen/\(Ls.length≠0->g<w.heap.size/\∃off,a=some ⟨g,off,none⟩/\∀k,k<Ls.length->∀j,j<8->w.cell? ⟨g,off+k*8+j,none⟩=some (.int .u64 ((Ls.getD k []).getD j 0)))
theorem mM.keep{Ls:List (List Int)}(h:mM w v g Ls){l:List Nat}(J:ay l w w')(hg:Ls.length≠0->g∉l):mM w' v g Ls:=by
 obtain⟨a,cap,h1,V,W,h4⟩:=h;refine⟨a,cap,h1,V,W,λG=> ?_⟩;obtain⟨y,off,U,h6⟩:=h4 G;refine⟨bt y J.size,off,U,λk z j Z=> ?_⟩;exact(aK (w:=w) (w':=w') (a:=⟨g,off+k*8+j,none⟩) (J.block g y (hg G))).trans (h6 k z j Z)
theorem mM.nil(w:World)(g:Nat):mM w (.slice none 0 0) g []:=⟨none,0,rfl,by simp,by simp[maxLen],λh=>absurd rfl h⟩
def kP (n:bN) (own:List Nat):List Int:=
 if (eO n.B).length<=6 then mA n::n.S::(eO n.B++List.replicate (6-(eO n.B).length) 0) else mA n::n.S::((eO n.B).take 5++[9223372036854775808+((own.getD 0 0:Nat):Int)])
def jd (n:bN):List (List Int):=
 if (eO n.B).length<=6 then [] else [(eO n.B).drop 5++List.replicate (13-(eO n.B).length) 0]
def mN (w:World) (R:List Int) (y:List (List Int)) (e:Ending) (w':World):Prop:=
 ∃h gb,e= .returned (.tuple #[.agg (aO R).toArray,h])/\mM w' h gb y/\w.heap.size<=gb/\ay [] w w'
theorem dc{fn:Func}{tmps:Array Value}{t:Nat}{z:Addr}{x:Value}(h:fn.results= #[.cell a t,.tmp b])(G:tmps.getD a undef= .pointer (some z))(J:(loadVar t z).run P w= .ok v w)
  (y:tmps.getD b undef=x):(results fn tmps).run P w= .ok (.tuple #[v,x]) w:=by
 rw[gJ] at G y;unfold results;rw[h];simp[G,rB,J,y]
theorem jT{z:Array Oper}{o:Oper}{a:Act}{K:Act->World->Prop}{Q:Exit->Act->World->Prop}{E:Prop}(G:o.guard=none)(ty:TypeId)(x y:Operand)(ho:o.op= .store ty x y)(J:Addr)
  (U:a.eval x= .pointer (some J)) (v:Value) (Z:a.eval y=v) (w':World) (W:(storeVar ty J v).run P w= .ok () w') (h:K (a.put o.dst undef) w'):if Region.wanted o (yielded z a.tmps)=true then Oper.wp P o a w K Q else E:=by
 have V:Region.wanted o (yielded z a.tmps)=true:=by simp[Region.wanted,G]
 rw[aB V];unfold Oper.wp execOp;simp only[ho,U,Z,Instr.storeAt,Instr.sureAddr,bM,eZ,bX,W];exact h
theorem nu{L:List Int}{z U J Z y W V G:Value}(hb:bf w b #[z,U,J,Z,y,W,V,G] T)(hl:L.length=8)(h:aO L=[z,U,J,Z,y,W,V,G]):mM w (.slice (some ⟨b,0,none⟩) 1 1) b [L]:=by
 refine⟨_,1,rfl,aG _,by unfold maxLen;omega,λ_=>⟨hb.lt,0,rfl,λk hk j hj=> ?_⟩⟩;have eo:k=0:=by
  have :k<1:=hk;omega
 subst eo;have e:(0+0*8+j:Nat)=j:=by omega
 rw[e,hb.cell];have h2:(#[z,U,J,Z,y,W,V,G]:Array Value)=(aO L).toArray:=by rw[h]
 rw[h2,aC,cG (by omega)];rfl
theorem pn (b:Nat)(w:World):(Instr.sliceAt 195 (.pointer (some ⟨b,0,none⟩)) (some (.int .i64 2)) none none).run prog w= .ok (.slice (some ⟨b,2,none⟩) 6 6) w:=by show Sem.run _ _ _=_;kernel_rfl
theorem Ca (n:bN)(v:Value)(hB:n.B.length=13)(ht:uW n)(vo:Value)(own:List Nat)(h6:(eO n.B).length<=6):
  Calls prog 218 #[.agg (aU n v),vo] w (mN w (kP n own) (jd n)):=by
 have af:kP n own=mA n::n.S::(eO n.B++List.replicate (6-(eO n.B).length) 0):=aB h6;have ae:jd n=[]:=aB h6;rw[af,ae];have HH:=ar (AK n v hB ht);have BL:=ar (λwx=>FY n.B hB wx);obtain⟨V,y⟩:∃V,V=(w.alloc (.cells (aU n v) 111)).alloc (.cells (aO (List.replicate 8 0)).toArray 195):=⟨_,rfl⟩;have W:bf V w.heap.size (aU n v) 111 :=by
  rw[y];exact(bf.new w _ _).alloc _
 have KZ:Hid (bf V (w.heap.size+1) (aO (List.replicate 8 0)).toArray 195):=by
  have :=bf.new (w.alloc (.cells (aU n v) 111)) (aO (List.replicate 8 0)).toArray 195;have e:(w.alloc (.cells (aU n v) 111)).heap.size=w.heap.size+1:=by simp
  rw[e,<-y] at this;exact this
 have gH:Hid (ay [] w V):=by
  rw[y];exact((ay.refl [] w).alloc _).alloc _
 have vR:=ar (cC W hB);have oO:Hid (∀wx,ay [] V wx->(loadVar 109 ⟨w.heap.size,4,none⟩).run prog wx= .ok (.agg (zs n.B).toArray) wx):=λwx hk=>eN (off:=4) (W.keep hk (by simp)) hB λk hk=>yB _ (by omega)
 have aA:=jx;have av:(eO n.B).length<=13:=kf n.B 13;have nX:=ar y;have Yo:Hid (qE n=mA n::n.S::List.replicate 6 0):=rfl;have RT:=yF n;generalize mA n=t at *;generalize n.S=s at *;generalize qE n=H at *;generalize eO n.B=R at *;generalize (zs n.B).toArray=ZB at *;generalize aU n v=Z at *;clear W y af ae ht hB;generalize sP:(aO (List.replicate 8 0)).toArray=Z8 at *;have yb:=ar sP;clear sP;go_enter func218,ntmps218;go_wp2_with((with_reducible show wpList _ _ _ (⟨_,.load 111 (.tmp 2),_,_,_,_⟩::_) _ _);rw[<-nX.out];refine ft rfl 111 (.tmp 2) rfl _ rfl _ vR.out ?_);refine(HH.out _).mono ?_;rintro e w1 ⟨rfl,G⟩;obtain⟨w2,ag,AP,ah⟩:=bo (P:= prog) (ty:= 195) (cs:=aO H) (by rw[aZ,RT];exact il) (bf.new w1 Z8 195) (by rw[<-yb.out];simp[aZ,RT]) (eF _);have po:ay [] V w2:=(G.alloc (.cells Z8 195)).trans ah (by intro x hx;rw[au] at hx;have :=G.size;omega);have ax:w.heap.size+1<w1.heap.size:=bt KZ.out.lt G.size;have aj:=ar ag;have Xj:=ar AP;have fF:=ar po;have YG:=ar (oO.out w2 po);clear ag AP ah po G HH;generalize az:w1.heap.size=g6 at *;go_wp2_with(first|(with_reducible refine gS 195 aj.out ?_)|(with_reducible refine gL 109 YG.out ?_));refine(BL.out _).mono ?_;rintro e w3 ⟨va,ga,rfl,G8,sG,z⟩;obtain⟨vc,w4,EF,Cb,U⟩:=nj (o:=2) (n:=6) (cap:=6) (Xj.out.keep z (by simp)) G8 h6 (by rw[RT];omega);obtain⟨aa,ca,rfl,-,-,-⟩:=gy G8;have J:H.take 2++R++H.drop (2+R.length)=t::s::(R++List.replicate (6-R.length) 0):=by
  rw[Yo.out,show 2+R.length=R.length+1+1 by omega,List.drop_succ_cons,List.drop_succ_cons,iG];rfl
 rw[J] at Cb;have h:(t::s::(R++List.replicate (6-R.length) 0)).length=8:=by simp;omega
 have ai:=ar (dX Cb h);have oN:Hid (ay [] w w4):=((gH.out.trans' fF.out).trans' z).trans U (by intro x hx;rw[au] at hx;omega);have ac:bf w4 (w.heap.size+1) Z8 195 :=(((KZ.out.keep fF.out (by simp)).keep z (by simp)).keep U (by rw[au];omega));obtain⟨w5,hS,qg,kr⟩:=bo (P:= prog) (ty:= 195) (cs:=aO (t::s::(R++List.replicate (6-R.length) 0))) (by rw[aZ,h];exact il) ac (by rw[<-yb.out];simp[aZ,h]) (eF _);have HS:=ar hS;have EG:=ar (dX qg h);have pk:Hid (ay [] w w5):=oN.out.trans kr (by intro x hx;rw[au] at hx;omega);have Ui:=ar EF;have aC:=pn g6;have ak:(R.length:Int)<=6:=by omega
 clear G8 sG z EF Cb U J h ac hS qg kr RT;go_wp2_with(first|((with_reducible show wpList _ _ _ (⟨some 20,_,_,_,_,_⟩::_) _ _);refine gW rfl (.tmp 18) (.tmp 19) 71 71 rfl _ _ rfl rfl (Ui.out _) ?_)|(with_reducible refine gL 195 ai.out ?_)|(with_reducible refine gS 195 HS.out ?_));exact aL (dc results218 rfl EG.out rfl) rfl ⟨_,w.heap.size,rfl,mM.nil _ _,aG _,pk.out⟩
theorem pq{xs:List Nat}(h:Reads w v g (cM xs)):∃a cap,v= .slice a xs.length cap/\xs.length<=cap/\cap<=maxLen/\
  Hid (∀k,k<xs.length->g<w.heap.size/\∃off,a=some ⟨g,off,none⟩/\w.cell? ⟨g,off+k,none⟩=some (.int .i64 ((xs.getD k 0:Nat):Int))):=by
 obtain⟨a,cap,U,V,z,G⟩:=h;rw[gD] at *;refine⟨a,cap,U,V,z,λk y=> ?_⟩;obtain⟨W,off,Z,J⟩:=G (by intro e;have :=b8 List.length e;rw[gD,b9] at this;omega);exact⟨W,off,Z,(J k y).trans (nL y)⟩
theorem Reads.part{off L cap:Nat}{R:List Int}(h:Reads w (.slice (some ⟨g,off,none⟩) L cap) g (aO R)){o n:Nat}(hn:o+n<=R.length):Reads w (.slice (some ⟨g,off+o,none⟩) n (cap-o)) g (aO ((R.drop o).take n)):=by
 obtain⟨a,c,Z,h1,h2,V⟩:=h;cases Z;rw[aZ] at h1;have y:(aO ((R.drop o).take n)).length=n:=by rw[aZ,aI,bu];omega
 refine⟨_,cap-o,by rw[y],by rw[y];omega,by omega,λU=> ?_⟩;have aa:0<n:=by
  rcases eK n with z|z
  ·subst z;exact absurd (bc y) U
  ·exact z
 obtain⟨hg,J,ho,W⟩:=V (by intro e;have :=b8 List.length e;rw[aZ,b9] at this;omega);cases ho;refine⟨hg,_,rfl,λj G=> ?_⟩;rw[y] at G;have :=W (o+j) (by rw[aZ];omega);rw[Nat.add_assoc,this,cG (by omega),cG (by rw[aI,bu];omega)];simp[G]
theorem Gd (n:bN)(v:Value)(hB:n.B.length=13)(ht:uW n)(vo:Value)(go:Nat)(own:List Nat)(ho:Reads w vo go (cM own))(bB:own.getD 0 0<256)(h1:1<=own.length)(h6:6<(eO n.B).length):
  Calls prog 218 #[.agg (aU n v),vo] w (mN w (kP n own) (jd n)):=by
 have aQ:kP n own=mA n::n.S::((eO n.B).take 5++[9223372036854775808+((own.getD 0 0:Nat):Int)]):=aA (by omega);have aY:jd n=[(eO n.B).drop 5++List.replicate (13-(eO n.B).length) 0]:=aA (by omega);rw[aQ,aY];obtain⟨ao,co,rfl,II,bY,Vm⟩:=pq ho;obtain⟨bh,K0,rfl,YH⟩:=Vm.out 0 (by omega);have bE:0<(own.length:Int):=by omega
 obtain⟨x0,aH⟩:∃x0,x0=own.getD 0 0:=⟨_,rfl⟩;rw[<-aH] at bB YH ⊢;rw[dP] at YH;have Xk:=ar YH;clear YH aH Vm ho;have HH:=ar (AK n v hB ht);have BL:=ar (λU=>FY n.B hB U);obtain⟨W0,ae⟩:∃W0,W0=(w.alloc (.cells (aU n v) 111)).alloc (.cells (aO (List.replicate 8 0)).toArray 195):=⟨_,rfl⟩;have ax:bf W0 w.heap.size (aU n v) 111 :=by
  rw[ae];exact(bf.new w _ _).alloc _
 have KZ:Hid (bf W0 (w.heap.size+1) (aO (List.replicate 8 0)).toArray 195):=by
  have :=bf.new (w.alloc (.cells (aU n v) 111)) (aO (List.replicate 8 0)).toArray 195;have e:(w.alloc (.cells (aU n v) 111)).heap.size=w.heap.size+1:=by simp
  rw[e,<-ae] at this;exact this
 have gH:Hid (ay [] w W0):=by
  rw[ae];exact((ay.refl [] w).alloc _).alloc _
 have vR:=ar (cC ax hB);have oO:Hid (∀U,ay [] W0 U->(loadVar 109 ⟨w.heap.size,4,none⟩).run prog U= .ok (.agg (zs n.B).toArray) U):=λU hk=>eN (off:=4) (ax.keep hk (by simp)) hB λk hk=>yB _ (by omega)
 have bI:=jx;have bM:(eO n.B).length<=13:=kf n.B 13;have nX:=ar ae;have Yo:Hid (qE n=mA n::n.S::List.replicate 6 0):=rfl;have RT:=yF n;generalize mA n=t at *;generalize n.S=s at *;generalize qE n=H at *;generalize eO n.B=R at *;generalize (zs n.B).toArray=ZB at *;generalize aU n v=Z at *;clear ax ae aQ aY ht hB;generalize sP:(aO (List.replicate 8 0)).toArray=Z8 at *;have yb:=ar sP;clear sP;go_enter func218,ntmps218;go_wp2_with((with_reducible show wpList _ _ _ (⟨_,.load 111 (.tmp 2),_,_,_,_⟩::_) _ _);rw[<-nX.out];refine ft rfl 111 (.tmp 2) rfl _ rfl _ vR.out ?_);refine(HH.out _).mono ?_;rintro e w1 ⟨rfl,ak⟩;obtain⟨w2,aP,AP,bg⟩:=bo (P:= prog) (ty:= 195) (cs:=aO H) (by rw[aZ,RT];exact il) (bf.new w1 Z8 195) (by rw[<-yb.out];simp[aZ,RT]) (eF _);have po:ay [] W0 w2:=(ak.alloc (.cells Z8 195)).trans bg (by intro x hx;rw[au] at hx;have :=ak.size;omega);have bO:w.heap.size+1<w1.heap.size:=bt KZ.out.lt ak.size;have bw:=ar aP;have Xj:=ar AP;have fF:=ar po;have YG:=ar (oO.out w2 po);clear aP AP bg po ak HH;generalize bP:w1.heap.size=g6 at *;go_wp2_with(first|(with_reducible refine gS 195 bw.out ?_)|(with_reducible refine gL 109 YG.out ?_));refine(BL.out _).mono ?_;rintro e w3 ⟨va,ga,rfl,G8,sG,aj⟩;obtain⟨aa,ca,rfl,bX,bW,bA⟩:=gy G8;obtain⟨-,bb,rfl,-⟩:=bA.out 0 (by omega);have aB:=G8.part (o:=0) (n:=5) (by omega);rw[dP,Nat.sub_zero,List.drop_zero] at aB;have NY:(R.take 5).length=5:=by rw[aI];omega
 obtain⟨vc,w4,EF,Cb,ah⟩:=nj (w:=w3.drew) (o:=2) (n:=6) (cap:=6) (Xj.out.keep aj (by simp)).drew (show Reads w3.drew _ ga (aO (R.take 5)) from aB) (by omega) (by rw[RT];omega);have RB:=EF 3;have bn:=pn g6;have bJ:¬(R.length:Int)<=6:=by omega
 have bV:(5:Int)<=(ca:Int):=by omega
 have bU:5<=ca:=by omega
 go_wp2_with fail;go_region_with (fail)
 have oN:Hid (ay [] w w4):=(((gH.out.trans' fF.out).trans' aj).drew).trans ah (by intro x hx;rw[au] at hx;omega);have av:H.take 2++R.take 5++H.drop (2+(R.take 5).length)=t::s::(R.take 5++[0]):=by
  rw[Yo.out,NY];rfl
 rw[av] at Cb;have bv:(t::s::(R.take 5++[(0:Int)])).length=8:=by simp[NY]
 have aR:Hid (bf w4 (w.heap.size+1) Z8 195):=((KZ.out.keep fF.out (by simp)).keep aj (by simp)).drew.keep ah (by rw[au];omega);have bK:g6<w2.heap.size:=Xj.out.lt;have bR:g6<ga:=by omega
 have aS:Hid (Reads w4 (.slice (some ⟨ga,bb,none⟩) R.length ca) ga (aO R)):=(show Reads w3.drew _ ga (aO R) from G8).keep ah (by rw[au];omega);have bp:=(aK (w:=w) (w':=w4) (a:=⟨go,K0,none⟩) (oN.out.block go bh (by simp))).trans Xk.out;have c7:w4.cell? ⟨g6,7,none⟩=some (.int .u64 ((t::s::(R.take 5++[(0:Int)])).getD 7 0)):=by
  rw[Cb.cell,aC,cG (by omega)]
 have f7:w4.frozen? ⟨g6,7,none⟩=false:=Cb.frozen 7;have aN:bits .or .u64 9223372036854775808 (x0:Int)=((9223372036854775808+x0:Nat):Int):=by
  rw[show(9223372036854775808:Int)=((9223372036854775808:Nat):Int) from rfl,u64_or_nat _ _ (by omega) (by omega),nat_join 63 _ _ (by decide) (by omega)]
 obtain⟨X,hX⟩:∃X:Int,X=((9223372036854775808+x0:Nat):Int):=⟨_,rfl⟩;rw[<-hX] at aN;have YI:(9223372036854775808:Int)+((x0:Nat):Int)=X:=by omega
 rw[YI];have bz:=kX (x:=(x0:Int)) (by omega) (by omega);have YJ:bf (w4.setCell ⟨g6,7,none⟩ (.int .u64 X)) g6 (aO (t::s::(R.take 5++[X]))).toArray 195 :=by
  have :=Cb.set 7 (.int .u64 X);rw[ag,ku] at this;have e:(t::s::(R.take 5++[(0:Int)])).set 7 X=t::s::(R.take 5++[X]):=by
   rw[ai,ai,cQ _ _ (by omega),NY];rfl
  rw[e] at this;exact this
 have bl:=ar YJ;have xp:Hid ((t::s::(R.take 5++[X])).length=8):=by show _=_;simp[NY]
 obtain⟨W5,af⟩:∃W5,W5=(w4.setCell ⟨g6,7,none⟩ (.int .u64 X)).alloc (.cells Z8 195):=⟨_,rfl⟩;have bq:=ar af;have bk:(w4.setCell ⟨g6,7,none⟩ (.int .u64 X)).heap.size=w4.heap.size:=by simp[World.setCell]
 have Xl:Hid (bf W5 w4.heap.size (aO (List.replicate 8 0)).toArray 195):=by
  have :=bf.new (w4.setCell ⟨g6,7,none⟩ (.int .u64 X)) Z8 195;rw[bk,<-af,<-yb.out] at this;exact this
 have YK:Hid (ay [g6] w4 W5):=by
  rw[af];exact((ay.refl [g6] w4).setCell (.inl (by simp)) _).alloc _
 have bc:Hid (bf W5 g6 (aO (t::s::(R.take 5++[X]))).toArray 195):=by
  rw[af];exact YJ.alloc _
 have bC:g6<w4.heap.size:=Cb.lt;generalize (t::s::(R.take 5++[(0:Int)])).getD 7 0=y7 at *;clear Cb YJ ah EF RB aB av bv aj G8 sG af hX;go_wp2_with fail;rw[<-bq.out];have aJ:Hid (Reads W5 (.slice (some ⟨ga,bb,none⟩) R.length ca) ga (aO R)):=aS.out.keep YK.out (by rw[au];omega);have YL:=aJ.out.part (o:=5) (n:=R.length-5) (by omega);rw[aW (by rw[bu];omega)] at YL;have Vn:(R.drop 5).length=R.length-5:=bu;obtain⟨bG,J,RL,MK,jZ⟩:=nj (w:=W5.drew) (o:=0) (n:=8) (cap:=8) (bf.drew Xl.out) (show Reads W5.drew _ ga (aO (R.drop 5)) from YL) (by omega) (by rw[bj];omega);have br:=RL 3;have Xm:(List.replicate 8 (0:Int)).take 0++R.drop 5++(List.replicate 8 (0:Int)).drop (0+(R.drop 5).length)=R.drop 5++List.replicate (13-R.length) 0:=by
  rw[Vn,eI,bT,aV,iG,show 8-(R.length-5)=13-R.length by omega]
 rw[Xm] at MK;have bF:=rF w4.heap.size;have bS:(5:Int)<=(R.length:Int):=by omega
 have bD:¬ca=5:=by omega
 have bQ:5<=R.length:=by omega
 clear aN bz c7 f7 bp bn;go_region_with (fail)
 have Vo:(R.drop 5++List.replicate (13-R.length) 0).length=8:=by rw[aD,Vn,bj];omega
 have bL:w4.heap.size<J.heap.size:=MK.lt;have aF:Hid (∀U,ay [w.heap.size+1] J U->(loadVar 195 ⟨g6,0,none⟩).run prog U= .ok (.agg (aO (t::s::(R.take 5++[X]))).toArray) U):=λU hk=>dX (((bf.drew bc.out).keep jZ (by rw[au];omega)).keep hk (by rw[au];omega)) xp.out
 have Od:Hid (∀U,ay [w.heap.size+1] J U->(loadVar 195 ⟨w4.heap.size,0,none⟩).run prog U= .ok (.agg (aO (R.drop 5++List.replicate (13-R.length) 0)).toArray) U):=λU hk=>dX (MK.keep hk (by rw[au];omega)) Vo
 have ba:bf J (w.heap.size+1) Z8 195 :=(bf.drew (aR.out.keep YK.out (by rw[au];omega))).keep jZ (by rw[au];omega);have N8:Hid (∀U,ay [] J U->∃z,(storeVar 195 ⟨w.heap.size+1,0,none⟩ (.agg (aO (t::s::(R.take 5++[X]))).toArray)).run prog U= .ok () z/\bf z (w.heap.size+1) (aO (t::s::(R.take 5++[X]))).toArray 195/\ay [w.heap.size+1] U z):=λU hk=>
  bo (P:= prog) (ty:= 195) (cs:=aO (t::s::(R.take 5++[X]))) (by rw[aZ,xp.out];exact il) (ba.keep hk (by simp)) (by rw[<-yb.out,bH,aZ,aZ,xp.out,bj]) (eF _)
 have nM:Hid (ay [] w J):=((oN.out.trans YK.out (by intro x hx;rw[au] at hx;omega)).drew).trans jZ (by intro x hx;rw[au] at hx;omega);clear MK jZ RL br YL Xm ba aJ aS Xl bc bl aR;generalize aM:aO (t::s::(R.take 5++[X]))=ZO at *;generalize aG:aO (R.drop 5++List.replicate (13-R.length) 0)=az at *;have aT:az.length=8:=by rw[<-aG,aZ,Vo]
 obtain⟨V,W,a2,a3,a4,a5,a6,a7,rfl⟩:∃V W a2 a3 a4 a5 a6 a7,az=[V,W,a2,a3,a4,a5,a6,a7]:=by
  match az,aT with
  | [a,b,c,d,e,f,g,h],_=>exact⟨a,b,c,d,e,f,g,h,rfl⟩
 have ac:=ar aG;have Cc:=ar aM;have Oe:=ar Vo;clear aG aM aT Vo;go_wp2_with fail;refine wp_region_any (by kernel_rfl) ?_
 (try (change wpAny _ _ _ _ _ _ _ (World.drew _)))
 refine dD (rs:=[0,1]) (by kernel_rfl) (by simp) ?_;refine bZ rfl (λK y=> ?_) ?_
 ·refine kz rfl 195 (.tmp 6) rfl _ rfl _ (aF.out _ (by first|exact(ay.refl _ _).drew|exact((ay.refl _ _).drew).alloc _|exact((ay.refl _ _).drew).trans' G.out|exact(((ay.refl _ _).drew).alloc _).trans' G.out|exact(((ay.refl _ _).drew).trans' G.out).alloc _)) ?_
  refine y _ _ ?_;clear y K;refine dD (rs:=[1,3]) (by kernel_rfl) (by simp) ?_;refine bZ rfl (λK y=> ?_) ?_
  ·refine kz rfl 195 (.tmp 9) rfl _ rfl _ (Od.out _ (by first|exact(ay.refl _ _).drew|exact((ay.refl _ _).drew).alloc _|exact((ay.refl _ _).drew).trans' G.out|exact(((ay.refl _ _).drew).alloc _).trans' G.out|exact(((ay.refl _ _).drew).trans' G.out).alloc _)) ?_
   refine y _ _ ?_;clear y K;refine dD (rs:=[2,3]) (by kernel_rfl) (by simp) ?_;refine bZ rfl (λK y=> ?_) ?_
   ·go_simp
    refine y _ _ ?_;clear y K;refine dD (rs:=[3]) (by kernel_rfl) (by simp) ?_;refine bZ rfl (λK y=> ?_) ?_
    ·obtain⟨z,hS,vg,EH⟩:=N8.out _ (((ay.refl _ _).drew).alloc _)
     have HS:=ar hS;have DB:=ar vg;have G:=ar EH;clear hS vg EH;refine jT rfl 195 (.tmp 4) (.tmp 38) rfl _ rfl _ rfl _ HS.out ?_;refine y _ _ ?_;clear y K;refine dD (rs:=[4]) (by kernel_rfl) (by simp) ?_;refine bZ rfl (λK y=> ?_) ?_
     ·go_simp
      refine y _ _ ?_;clear y K;refine wpAny_done (by kernel_rfl) ?_ _;go_wp2_with fail;have qD:bf z J.heap.size #[V,W,a2,a3,a4,a5,a6,a7] 195 :=bf.keep (bf.new J.drew #[V,W,a2,a3,a4,a5,a6,a7] 195) G.out (by rw[au];show ¬J.heap.size=_;omega);have IJ:ay [] w z:=((nM.out.drew).alloc _).trans G.out (by intro x hx;rw[au] at hx;omega);exact aL (dc results218 rfl (by have :=DB.out;rw[<-Cc.out] at this;exact dX this xp.out) rfl) rfl ⟨.slice (some ⟨J.heap.size,0,none⟩) 1 1,J.heap.size,(by rw[YI,Cc.out];rfl),nu qD Oe.out ac.out,by omega,IJ⟩
     exact dh
    exact dh
   refine bZ rfl (λK y=> ?_) ?_
   ·obtain⟨z,hS,vg,EH⟩:=N8.out _ ((ay.refl _ _).drew)
    have HS:=ar hS;have DB:=ar vg;have G:=ar EH;clear hS vg EH;refine jT rfl 195 (.tmp 4) (.tmp 38) rfl _ rfl _ rfl _ HS.out ?_;refine y _ _ ?_;clear y K;refine dD (rs:=[2]) (by kernel_rfl) (by simp) ?_;refine bZ rfl (λK y=> ?_) ?_
    ·go_simp
     refine y _ _ ?_;clear y K;refine dD (rs:=[4]) (by kernel_rfl) (by simp) ?_;refine bZ rfl (λK y=> ?_) ?_
     ·go_simp
      refine y _ _ ?_;clear y K;refine wpAny_done (by kernel_rfl) ?_ _;go_wp2_with fail;have qD:bf (z.alloc (.cells #[V,W,a2,a3,a4,a5,a6,a7] 195)) z.heap.size #[V,W,a2,a3,a4,a5,a6,a7] 195 :=bf.new z #[V,W,a2,a3,a4,a5,a6,a7] 195;have aX:J.heap.size<=z.heap.size:=G.out.size;have IJ:ay [] w (z.alloc (.cells #[V,W,a2,a3,a4,a5,a6,a7] 195)):=((nM.out.drew).trans G.out (by intro x hx;rw[au] at hx;omega)).alloc _;exact aL (dc results218 rfl (by have :=DB.out;rw[<-Cc.out] at this;exact dX (this.alloc _) xp.out) rfl) rfl ⟨.slice (some ⟨z.heap.size,0,none⟩) 1 1,z.heap.size,(by rw[YI,Cc.out];rfl),nu qD Oe.out ac.out,by omega,IJ⟩
     exact dh
    exact dh
   exact dh
  refine bZ rfl (λK y=> ?_) ?_
  ·obtain⟨z,hS,vg,EH⟩:=N8.out _ ((ay.refl _ _).drew)
   have HS:=ar hS;have DB:=ar vg;have G:=ar EH;clear hS vg EH;refine jT rfl 195 (.tmp 4) (.tmp 38) rfl _ rfl _ rfl _ HS.out ?_;refine y _ _ ?_;clear y K;refine dD (rs:=[1]) (by kernel_rfl) (by simp) ?_;refine bZ rfl (λK y=> ?_) ?_
   ·refine kz rfl 195 (.tmp 9) rfl _ rfl _ (Od.out _ (by first|exact(ay.refl _ _).drew|exact((ay.refl _ _).drew).alloc _|exact((ay.refl _ _).drew).trans' G.out|exact(((ay.refl _ _).drew).alloc _).trans' G.out|exact(((ay.refl _ _).drew).trans' G.out).alloc _)) ?_
    refine y _ _ ?_;clear y K;refine dD (rs:=[2]) (by kernel_rfl) (by simp) ?_;refine bZ rfl (λK y=> ?_) ?_
    ·go_simp
     refine y _ _ ?_;clear y K;refine dD (rs:=[4]) (by kernel_rfl) (by simp) ?_;refine bZ rfl (λK y=> ?_) ?_
     ·go_simp
      refine y _ _ ?_;clear y K;refine wpAny_done (by kernel_rfl) ?_ _;go_wp2_with fail;have qD:bf (z.alloc (.cells #[V,W,a2,a3,a4,a5,a6,a7] 195)) z.heap.size #[V,W,a2,a3,a4,a5,a6,a7] 195 :=bf.new z #[V,W,a2,a3,a4,a5,a6,a7] 195;have aX:J.heap.size<=z.heap.size:=G.out.size;have IJ:ay [] w (z.alloc (.cells #[V,W,a2,a3,a4,a5,a6,a7] 195)):=((nM.out.drew).trans G.out (by intro x hx;rw[au] at hx;omega)).alloc _;exact aL (dc results218 rfl (by have :=DB.out;rw[<-Cc.out] at this;exact dX (this.alloc _) xp.out) rfl) rfl ⟨.slice (some ⟨z.heap.size,0,none⟩) 1 1,z.heap.size,(by rw[YI,Cc.out];rfl),nu qD Oe.out ac.out,by omega,IJ⟩
     exact dh
    exact dh
   exact dh
  exact dh
 refine bZ rfl (λK y=> ?_) ?_
 ·refine kz rfl 195 (.tmp 9) rfl _ rfl _ (Od.out _ (by first|exact(ay.refl _ _).drew|exact((ay.refl _ _).drew).alloc _|exact((ay.refl _ _).drew).trans' G.out|exact(((ay.refl _ _).drew).alloc _).trans' G.out|exact(((ay.refl _ _).drew).trans' G.out).alloc _)) ?_
  refine y _ _ ?_;clear y K;refine dD (rs:=[0,2]) (by kernel_rfl) (by simp) ?_;refine bZ rfl (λK y=> ?_) ?_
  ·refine kz rfl 195 (.tmp 6) rfl _ rfl _ (aF.out _ (by first|exact(ay.refl _ _).drew|exact((ay.refl _ _).drew).alloc _|exact((ay.refl _ _).drew).trans' G.out|exact(((ay.refl _ _).drew).alloc _).trans' G.out|exact(((ay.refl _ _).drew).trans' G.out).alloc _)) ?_
   refine y _ _ ?_;clear y K;refine dD (rs:=[2,3]) (by kernel_rfl) (by simp) ?_;refine bZ rfl (λK y=> ?_) ?_
   ·go_simp
    refine y _ _ ?_;clear y K;refine dD (rs:=[3]) (by kernel_rfl) (by simp) ?_;refine bZ rfl (λK y=> ?_) ?_
    ·obtain⟨z,hS,vg,EH⟩:=N8.out _ (((ay.refl _ _).drew).alloc _)
     have HS:=ar hS;have DB:=ar vg;have G:=ar EH;clear hS vg EH;refine jT rfl 195 (.tmp 4) (.tmp 38) rfl _ rfl _ rfl _ HS.out ?_;refine y _ _ ?_;clear y K;refine dD (rs:=[4]) (by kernel_rfl) (by simp) ?_;refine bZ rfl (λK y=> ?_) ?_
     ·go_simp
      refine y _ _ ?_;clear y K;refine wpAny_done (by kernel_rfl) ?_ _;go_wp2_with fail;have qD:bf z J.heap.size #[V,W,a2,a3,a4,a5,a6,a7] 195 :=bf.keep (bf.new J.drew #[V,W,a2,a3,a4,a5,a6,a7] 195) G.out (by rw[au];show ¬J.heap.size=_;omega);have IJ:ay [] w z:=((nM.out.drew).alloc _).trans G.out (by intro x hx;rw[au] at hx;omega);exact aL (dc results218 rfl (by have :=DB.out;rw[<-Cc.out] at this;exact dX this xp.out) rfl) rfl ⟨.slice (some ⟨J.heap.size,0,none⟩) 1 1,J.heap.size,(by rw[YI,Cc.out];rfl),nu qD Oe.out ac.out,by omega,IJ⟩
     exact dh
    exact dh
   refine bZ rfl (λK y=> ?_) ?_
   ·obtain⟨z,hS,vg,EH⟩:=N8.out _ ((ay.refl _ _).drew)
    have HS:=ar hS;have DB:=ar vg;have G:=ar EH;clear hS vg EH;refine jT rfl 195 (.tmp 4) (.tmp 38) rfl _ rfl _ rfl _ HS.out ?_;refine y _ _ ?_;clear y K;refine dD (rs:=[2]) (by kernel_rfl) (by simp) ?_;refine bZ rfl (λK y=> ?_) ?_
    ·go_simp
     refine y _ _ ?_;clear y K;refine dD (rs:=[4]) (by kernel_rfl) (by simp) ?_;refine bZ rfl (λK y=> ?_) ?_
     ·go_simp
      refine y _ _ ?_;clear y K;refine wpAny_done (by kernel_rfl) ?_ _;go_wp2_with fail;have qD:bf (z.alloc (.cells #[V,W,a2,a3,a4,a5,a6,a7] 195)) z.heap.size #[V,W,a2,a3,a4,a5,a6,a7] 195 :=bf.new z #[V,W,a2,a3,a4,a5,a6,a7] 195;have aX:J.heap.size<=z.heap.size:=G.out.size;have IJ:ay [] w (z.alloc (.cells #[V,W,a2,a3,a4,a5,a6,a7] 195)):=((nM.out.drew).trans G.out (by intro x hx;rw[au] at hx;omega)).alloc _;exact aL (dc results218 rfl (by have :=DB.out;rw[<-Cc.out] at this;exact dX (this.alloc _) xp.out) rfl) rfl ⟨.slice (some ⟨z.heap.size,0,none⟩) 1 1,z.heap.size,(by rw[YI,Cc.out];rfl),nu qD Oe.out ac.out,by omega,IJ⟩
     exact dh
    exact dh
   exact dh
  refine bZ rfl (λK y=> ?_) ?_
  ·go_simp
   refine y _ _ ?_;clear y K;refine dD (rs:=[0]) (by kernel_rfl) (by simp) ?_;refine bZ rfl (λK y=> ?_) ?_
   ·refine kz rfl 195 (.tmp 6) rfl _ rfl _ (aF.out _ (by first|exact(ay.refl _ _).drew|exact((ay.refl _ _).drew).alloc _|exact((ay.refl _ _).drew).trans' G.out|exact(((ay.refl _ _).drew).alloc _).trans' G.out|exact(((ay.refl _ _).drew).trans' G.out).alloc _)) ?_
    refine y _ _ ?_;clear y K;refine dD (rs:=[3]) (by kernel_rfl) (by simp) ?_;refine bZ rfl (λK y=> ?_) ?_
    ·obtain⟨z,hS,vg,EH⟩:=N8.out _ (((ay.refl _ _).drew).alloc _)
     have HS:=ar hS;have DB:=ar vg;have G:=ar EH;clear hS vg EH;refine jT rfl 195 (.tmp 4) (.tmp 38) rfl _ rfl _ rfl _ HS.out ?_;refine y _ _ ?_;clear y K;refine dD (rs:=[4]) (by kernel_rfl) (by simp) ?_;refine bZ rfl (λK y=> ?_) ?_
     ·go_simp
      refine y _ _ ?_;clear y K;refine wpAny_done (by kernel_rfl) ?_ _;go_wp2_with fail;have qD:bf z J.heap.size #[V,W,a2,a3,a4,a5,a6,a7] 195 :=bf.keep (bf.new J.drew #[V,W,a2,a3,a4,a5,a6,a7] 195) G.out (by rw[au];show ¬J.heap.size=_;omega);have IJ:ay [] w z:=((nM.out.drew).alloc _).trans G.out (by intro x hx;rw[au] at hx;omega);exact aL (dc results218 rfl (by have :=DB.out;rw[<-Cc.out] at this;exact dX this xp.out) rfl) rfl ⟨.slice (some ⟨J.heap.size,0,none⟩) 1 1,J.heap.size,(by rw[YI,Cc.out];rfl),nu qD Oe.out ac.out,by omega,IJ⟩
     exact dh
    exact dh
   exact dh
  exact dh
 exact dh
def dN (E:List (ByteArray×Int)) (b:Nat):Nat:=((dF E b).length+2)/3
def eY (E:List (ByteArray×Int)):Nat->Nat
 |0=>0
 |b+1=>eY E b+dN E b
theorem qH (E:List (ByteArray×Int)){b c:Nat}(h:b<=c):eY E b<=eY E c:=by
 induction h with
 |refl=>exact aG _
 |step h ih=>exact cJ ih (Nat.le_add_right _ _)
def uq (l:List (ByteArray×Int)) (x:Nat):List (ByteArray×Int):=(l.drop (3*x)).take 3
theorem lq (l:List (ByteArray×Int))(x:Nat):(uq l x).length=min 3 (l.length-3*x):=by simp[uq]
def uN (ws:List Int) (x:Int):List Int:=x::(ws++List.replicate (7-ws.length) 0)
theorem RU (h:ws.length<=7)(x:Int):(uN ws x).length=8:=by simp[uN];omega
theorem ml (ws:List Int)(x:Int)(i:Nat):(uN ws x).getD (i+1) 0=ws.getD i 0:=by
 show(ws++List.replicate (7-ws.length) 0).getD i 0=_;rw[aj,aj];by_cases h:i<ws.length
 ·rw[bg h]
 ·rw[aT (by omega),bb,aP (by omega:ws.length<=i)]
  split<;>rfl
def RV (E:List (ByteArray×Int)) (own:List Nat) (b j:Nat):List Int:=
 uN (dM (uq (dF E b) j)) (if j+1<dN E b then ((own.getD (eY E b+(j+1)) 0:Nat):Int) else 0)
def tK (E:List (ByteArray×Int)) (own:List Nat):Nat->List (List Int)
 |0=>[]
 |b+1=>tK E own b++(List.range (dN E b)).map (RV E own b)
theorem mn (E:List (ByteArray×Int))(own:List Nat):∀b,(tK E own b).length=eY E b
 |0=>rfl
 |b+1=>by rw[tK,eY,aD,mn E own b,bG,eX]
theorem oP (E:List (ByteArray×Int))(own:List Nat){y j:Nat}(z:j<dN E y):∀{b:Nat},y<b->(tK E own b).getD (eY E y+j) []=RV E own y j
 |0,h=>by omega
 |b+1,h=>by
  rw[tK,aj];by_cases e:y=b
  ·subst e
   rw[aT (by rw[mn];omega),mn,cO];simp[z]
  ·have G:y<b:=by omega
   have J:eY E y+j<eY E b:=by
    have :=qH E (show y+1<=b from G);rw[eY] at this;omega
   rw[bg (by rw[mn];exact J),<-aj];exact oP E own z G
theorem qI (E:List (ByteArray×Int)){k:Nat}:∀{b:Nat},k<eY E b->∃y j,y<b/\j<dN E y/\k=eY E y+j
 |0,h=>by rw[eY] at h;omega
 |b+1,h=>by
  by_cases G:k<eY E b
  ·obtain⟨y,j,U,z,J⟩:=qI E G
   exact⟨y,j,by omega,z,J⟩
  ·rw[eY] at h
   exact⟨b,k-eY E b,by omega,by omega,by omega⟩
def hdD (E:List (ByteArray×Int)) (own:List Nat) (b:Nat):Int:=if 0<dN E b then ((own.getD (eY E b) 0:Nat):Int) else 0
def vV (E:List (ByteArray×Int)) (own:List Nat) (b p q:Nat):Int:=
 if q<b then hdD E own q else if q=b/\0<p then ((own.getD (eY E q) 0:Nat):Int) else 0
def og (n:bN) (own:List Nat) (b p:Nat):List Int:=
 [mA n,n.S,vV n.E own b p 0,vV n.E own b p 1,vV n.E own b p 2,vV n.E own b p 3,0,0]
def Ce (n:bN) (own:List Nat):List Int:=og n own 4 0
theorem tL (n:bN)(own:List Nat)(b p:Nat):(og n own b p).length=8:=rfl
theorem Og (n:bN)(own:List Nat):og n own 0 0=mA n::n.S::List.replicate 6 0:=by
 unfold og vV;simp[List.replicate]
theorem uu (E:List (ByteArray×Int))(own:List Nat)(b q:Nat):vV E own b (dN E b) q=vV E own (b+1) 0 q:=by
 unfold vV;by_cases z:q<b
 ·rw[aB z,aB (by omega)]
 ·rw[aA z]
  by_cases G:q=b
  ·subst G
   rw[aB (show q<q+1 by omega),hdD];by_cases y:0<dN E q
   ·rw[aB ⟨rfl,y⟩,aB y]
   ·rw[aA (λh=>y h.2),aA y]
  ·rw[aA (λh=>G h.1),aA (by omega),aA (by omega)]
theorem Oh (n:bN)(own:List Nat)(b:Nat):og n own b (dN n.E b)=og n own (b+1) 0:=by
 unfold og;rw[uu,uu,uu,uu]
theorem Oi (n:bN)(own:List Nat)(b p:Nat)(h:p≠0):og n own b p=og n own b (p+1):=by
 have :∀q,vV n.E own b p q=vV n.E own b (p+1) q:=λq=>by
  unfold vV;have y:(q=b/\0<p)↔(q=b/\0<p+1):=by omega
  simp only[y]
 unfold og;rw[this,this,this,this]
theorem RY (n:bN)(own:List Nat)(b:Nat)(h:b<4):(og n own b 0).set (2+b) ((own.getD (eY n.E b) 0:Nat):Int)=og n own b 1:=by
 rcases (show b=0\/b=1\/b=2\/b=3 by omega) with rfl|rfl|rfl|rfl<;>simp[og,vV]
structure yM (E:List (ByteArray×Int)) (own:List Nat) (b:Nat) (pre:List Nat) (C:List Int):Prop where
 len:C.length=8*own.length
 done:∀b',b'<b->∀j,j<dN E b'->∀i,i<8->C.getD (8*(eY E b'+j)+i) 0=(RV E own b' j).getD i 0
 part:∀j,j<pre.length->∀i,i<8->C.getD (8*(eY E b+j)+i) 0=(uN (dM (uq (dF E b) (pre.getD j 0))) (if j+1<pre.length then ((own.getD (eY E b+(j+1)) 0:Nat):Int) else 0)).getD i 0
 rest:∀i,8*(eY E b+pre.length)<=i->C.getD i 0=0
theorem yM.start(E:List (ByteArray×Int))(own:List Nat):yM E own 0 [] (List.replicate (8*own.length) 0):=
 ⟨by simp,λy h=>by omega,λj h=>by simp at h,λi _=>by
  rw[aj,bb];split<;>rfl⟩
theorem yM.next(h:yM E own b (List.range (dN E b)) C):yM E own (b+1) [] C:=by
 have G:(List.range (dN E b)).length=dN E b:=eX;refine⟨h.len,λJ U j y i z=> ?_,λj y=>by simp at y,λi z=> ?_⟩
 ·by_cases e:J=b
  ·subst e
   have :=h.part j (by rw[G];exact y) i z;rw[G,show(List.range (dN E J)).getD j 0=j by simp[y]] at this;exact this
  ·exact h.done J (by omega) j y i z
 ·refine h.rest i ?_
  rw[G];simpa[eY] using z
def Cf (C:List Int) (a:Nat) (ws:List Int):List Int:=C.take a++ws++C.drop (a+ws.length)
theorem Oj (h:a+ws.length<=C.length):(Cf C a ws).length=C.length:=by simp[Cf];omega
theorem qJ (h:a+ws.length<=C.length)(i:Nat):(Cf C a ws).getD i 0=if a<=i/\i<a+ws.length then ws.getD (i-a) 0 else C.getD i 0:=by
 have y:(C.take a).length=a:=by rw[aI];omega
 unfold Cf;simp only[aj];by_cases z:i<a
 ·rw[aA (by omega),ba,bg (by rw[y];exact z),fS z]
 ·by_cases G:i<a+ws.length
  ·rw[aB ⟨by omega,G⟩,bg (by rw[aD,y];exact G),aT (by rw[y];omega),y]
  ·rw[aA (by omega),aT (by rw[aD,y];omega),aD,y,cg,show a+ws.length+(i-(a+ws.length))=i by omega]
theorem RZ (C:List Int)(k:Nat)(x:Int)(y:k<C.length)(i:Nat):(C.set k x).getD i 0=if i=k then x else C.getD i 0:=by
 simp only[aj,eB];by_cases h:k=i
 ·subst h;simp[y]
 ·rw[aA h,aA (λe=>h e.symm)]
theorem yM.step{y:List Nat}{W:List Int}(h:yM E own b y C)(x f:Nat)(hf:f=eY E b+y.length)(ac:f<own.length)
  (h1:W=if y.length=0 then C else C.set (8*(f-1)) ((own.getD f 0:Nat):Int)):yM E own b (y++[x]) (Cf W (8*f+1) (dM (uq (dF E b) x))):=by
 have hw:(dM (uq (dF E b) x)).length<=6:=by rw[jr,lq];omega
 have FL:W.length=8*own.length:=by rw[h1];split<;>simp[h.len]
 have G:∀i,W.getD i 0=if y.length≠0/\i=8*(f-1) then ((own.getD f 0:Nat):Int) else C.getD i 0:=λi=>by
  rw[h1];by_cases h0:y.length=0
  ·rw[aB h0,aA (λe=>e.1 h0)]
  ·rw[aA h0,RZ _ _ _ (by rw[h.len];omega)]
   by_cases J:i=8*(f-1)
   ·rw[aB J,aB ⟨h0,J⟩]
   ·rw[aA J,aA (λe=>J e.2)]
 have z:8*f+1+(dM (uq (dF E b) x)).length<=W.length:=by rw[FL];omega
 have U:(y++[x]).length=y.length+1:=by simp
 have aa:∀V,V<b->∀j,j<dN E V->eY E V+j<eY E b:=λV hb j Z=>by
  have :=qH E (show V+1<=b from hb);rw[eY] at this;omega
 refine⟨by rw[Oj z,FL],λV hb j Z i J=> ?_,λj Z i J=> ?_,λi J=> ?_⟩
 ·have :=aa V hb j Z
  rw[qJ z,aA (by omega),G,aA (by omega)];exact h.done V hb j Z i J
 ·rw[U] at Z ⊢
  by_cases e:j=y.length
  ·subst e
   have hx:(y++[x]).getD y.length 0=x:=by simp
   rw[hx,aA (by omega),<-hf];cases i with
   |zero=>
    rw[qJ z,aA (by omega),G,aA (by omega),h.rest _ (by omega)];rfl
   |succ i=>
    rw[ml,qJ z];by_cases ae:i<(dM (uq (dF E b) x)).length
    ·rw[aB (by omega),show 8*f+(i+1)-(8*f+1)=i by omega]
    ·rw[aA (by omega),G,aA (by omega),h.rest _ (by omega),aj,aP (by omega)]
     rfl
  ·have Yi:j<y.length:=by omega
   have hx:(y++[x]).getD j 0=y.getD j 0:=by simp only[aj];rw[bg Yi]
   rw[hx,aB (by omega),qJ z,aA (by omega),G];have h2:=h.part j Yi i J;cases i with
   |zero=>
    by_cases e2:j+1=y.length
    ·rw[aB ⟨by omega,by omega⟩,hf,<-e2]
     rfl
    ·rw[aA (by omega),h2,aB (by omega)]
   |succ i=>
    rw[aA (by omega),h2,ml,ml]
 ·rw[U] at J
  rw[qJ z,aA (by omega),G,aA (by omega)];exact h.rest i (by omega)
theorem yM.breads(h:yM E own 4 [] C)(J:eY E 4=own.length){W:World}{g cap T:Nat}(y:own.length<=cap)(z:cap<=maxLen)(hb:bf W g (aO C).toArray T):
  mM W (.slice (some ⟨g,0,none⟩) own.length cap) g (tK E own 4):=by
 have U:(tK E own 4).length=own.length:=by rw[mn,J]
 refine⟨some ⟨g,0,none⟩,cap,by rw[U],by rw[U];exact y,z,λ_=>⟨hb.lt,0,rfl,λk hk j hj=> ?_⟩⟩;rw[U,<-J] at hk;obtain⟨V,i,G,Z,rfl⟩:=qI E hk;rw[oP E own Z G,<-h.done V G i Z j hj,hb.cell,aC,show 0+(eY E V+i)*8+j=8*(eY E V+i)+j by omega,cG];rw[h.len,<-J];omega
end Go.Proofs.YtepbpdipenedhaaGreatDoor
