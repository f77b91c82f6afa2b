/- Lemmas. -/
import Derived.Test.YtepbpdipenedhaaGreatDoorM06
set_option maxHeartbeats 8000000
set_option maxRecDepth 100000
namespace Go.Proofs.YtepbpdipenedhaaGreatDoor
open Go.Proofs.Tryz
section
open Go.RowKit
variable{w w':World}{T a b g:Nat}{C l ws:List Int}{v:Value}{P:Program}{E:List (ByteArray×Int)}{own:List Nat}
theorem Uq (b c:Nat)(z:c<=8)(w:World):(Instr.sliceAt 195 (.pointer (some ⟨b,0,none⟩)) none (some (.int .i64 (c:Int))) none).run prog w= .ok (.slice b c 8) w:=by
 have h:c=0\/c=1\/c=2\/c=3\/c=4\/c=5\/c=6\/c=7\/c=8:=by omega
 rcases h with rfl|rfl|rfl|rfl|rfl|rfl|rfl|rfl|rfl
 all_goals (show Sem.run _ _ _=_;kernel_rfl)
theorem bh.reads{o n c:Nat}(h:bh w b (aY l).toArray T)(U:o+n<=l.length)(J:n<=c)(V:c<=1000):Reads w (.slice (some ⟨b,o,none⟩) n c) b (aY ((l.drop o).take n)):=by
 have z:(aY ((l.drop o).take n)).length=n:=by rw[bB,aJ,bM];omega
 refine⟨_,c,by rw[z],by rw[z];exact J,by unfold maxLen;omega,λ_=>⟨h.lt,o,rfl,λj G=> ?_⟩⟩;rw[z] at G;rw[h.cell,aF,dO (by omega),dO (by rw[aJ,bM];omega)];simp[G]
theorem ay.grown2{wr h:World}{row:Option Nat}(z:ay [] w wr)(G:wr.grownBy h row)(J:∀k,row=some k->w.heap.size<=k):ay [] w h:=z.grown G J
def pK (w:World) (X l:List Int) (m:Nat) (e:Ending) (w':World):Prop:=
 ∃v E ok g,e= .returned (.tuple #[v,.bool ok])/\bD w' v g E/\w.heap.size<=g/\(ok=true->pJ X l m/\E=sV X l m)/\(ok=false->¬pJ X l m/\E=[])/\ay [] w w'
theorem pK.no{X:List Int}{m:Nat}(h:¬pJ X l m)(z:ay [] w w'):pK w X l m (.returned (.tuple #[(),false])) w':=
 ⟨_,[],false,w.heap.size,rfl,bD.nil _ _,aH _,λh=>(by cases h),λ_=>⟨h,rfl⟩,z⟩
theorem Le{gp:Nat}{B:List Int}{ps:List (Int×Int)}(h:eK w b gp B ps)(aM:In64 (az B ps))(l:List Int)(hl:l.length=13)(SB:∀k,0<=l.getD k 0/\l.getD k 0<256)(m:Nat)(hm:m<=832):
  Calls prog 191 #[b,(zs l).toArray,(m:Int)] w (pK w (az B ps) l m):=by
 obtain⟨HS,uV⟩:=hh2 h aM;have av:=bh.new w (zs l).toArray 109;have qa:=ar av;have fI:Hid (ay [] w (w.alloc (.cells (zs l).toArray 109))):=(ay.refl _ _).alloc _;have aR:=Bi m 4 (by omega) (by omega) (by omega);rw[show(m+4-1)/4=bp m by unfold bp;congr 1] at aR;have HP:=ar aR;have DN:bp m<=300:=by unfold bp;omega
 have mY:Hid (∀z,ay [] (w.alloc (.cells (zs l).toArray 109)) z->(loadVar 109 w.heap.size).run prog z= .ok (.agg (zs l).toArray) z):=λz hk=>
  fA (off:=0) (av.keep hk (by simp)) hl (λk hk=>by rw[bc,aF,gK (by omega)])
 have XT:Hid (∀z k,k<13->ay [] (w.alloc (.cells (zs l).toArray 109)) z->z.cell? ⟨w.heap.size,k,none⟩=some (.int .i64 (l.getD k 0))):=λz k hk fW=>by
  rw[(av.keep fW (by simp)).cell,aF,gK (by omega)]
 obtain⟨bo,HL⟩:=hh2 SB hl;clear h aM av aR SB;generalize hz:(zs l).toArray=Z at *;have HZ:=ar hz;clear hz;by_cases PD:24<m
 ·have HN:Hid (¬pJ (az B ps) l m):=λh=>by have :=h.1;omega
  have cD:(24:Int)<(m:Int):=by omega
  generalize bp m=W at *;clear hl;go_in;go_wp2_with fail;refine C' (HP.out _) ?_;go_wp2_with fail;have ax:decide (24<m)=true:=bu PD;refine jy (S:=λz=>z=(w.alloc (.cells Z 109)).drew) rfl ?_;repeat (
   (first
   |(refine aU.cons undef (bR.off rfl) ?_)
   |(refine aU.cons (.bool true) (bR.val rfl ?h) ?_;(case h=>(intro z G;clear G;first|(go_simp;done)|(go_simp;simp[ax];done))))
   |(refine aU.cons ?_ (bR.val rfl ?h) ?_;(case h=>(intro z G;go_simp;rfl))));simp only[Act.put,ag,ah,ai])
  refine aU.done λz G=> ?_
  subst G;go_wp2_with fail;go_ret2;exact pK.no HN.out fI.out.drew
 ·have ax:decide (24<m)=false:=aQ PD
  have cA:¬(24:Int)<(m:Int):=by omega
  have Qr:bp m<=13:=by unfold bp;omega
  obtain⟨HU,IL⟩:=hh2 (Ss l (bp m) hl Qr) (λz=>P9 (a:=l) (b:=jm l (bp m)) hl (nR hl Qr) z);rw[HZ.out] at HU IL;have bN:=Cy;obtain⟨t,ht⟩:∃t,decide (l=jm l (bp m))=t:=⟨_,rfl⟩;rw[ht] at IL;have b6:=IL.out;generalize (zs (jm l (bp m))).toArray=ZU at *;clear IL;cases t
  ·have HN:Hid (¬pJ (az B ps) l m):=λh=>of_decide_eq_false ht h.2.1
   clear ht hl HL bo;generalize bp m=W at *;go_in;go_wp2_with fail;refine C' (HP.out _) ?_;go_wp2_with fail;refine jy (S:=λz=>ay [] (w.alloc (.cells Z 109)) z) ((ay.refl _ _).drew) ?_;repeat (
    (first
    |(refine aU.cons (.agg Z) (bR.load rfl 109 (.tmp 4) rfl _ rfl λz G=>mY.out z G) ?_)
    |(refine aU.cons (.agg ZU) (bR.call rfl 167 #[Z,(W:Int)] ?he ?h) ?_;(case he=>(intro wz;go_simp));(case h=>exact λz G=>(HU.out z).mono λe w' he=>⟨he.1,G.trans' he.2⟩))
    |(refine aU.cons (.bool false) (bR.val rfl ?h) ?_;(case h=>(intro z G;clear G;first|(go_simp;done)|(go_simp;simp[ax];done))))
    |(refine aU.cons ?_ (bR.val rfl ?h) ?_;(case h=>(intro z G;clear G;go_simp;rfl))));simp only[Act.put,ag,ah,ai])
   refine aU.done λz G=> ?_
   have um:=ar (fI.out.trans' G);clear G;go_wp2_with fail;go_ret2;exact pK.no HN.out um.out
  ·have ba:=of_decide_eq_true ht
   have b8:=ar ba;clear ba;have bK:=λz=>MU w.heap.size (bp m) Qr z
   clear ht hl;generalize bz:bp m=W at *;have ak:=ar bz;clear bz;go_in;go_wp2_with fail;refine C' (HP.out _) ?_;go_wp2_with fail;refine jy (S:=λz=>ay [] (w.alloc (.cells Z 109)) z) ((ay.refl _ _).drew) ?_;repeat (
    (first
    |(refine aU.cons (.agg Z) (bR.load rfl 109 (.tmp 4) rfl _ rfl λz G=>mY.out z G) ?_)
    |(refine aU.cons (.agg ZU) (bR.call rfl 167 #[Z,(W:Int)] ?he ?h) ?_;(case he=>(intro wz;go_simp));(case h=>exact λz G=>(HU.out z).mono λe w' he=>⟨he.1,G.trans' he.2⟩))
    |(refine aU.cons (.bool false) (bR.val rfl ?h) ?_;(case h=>(intro z G;clear G;first|(go_simp;done)|(go_simp;simp[ax];done))))
    |(refine aU.cons ?_ (bR.val rfl ?h) ?_;(case h=>(intro z G;clear G;go_simp;rfl))));simp only[Act.put,ag,ah,ai])
   refine aU.done λw1 G=> ?_
   have jK:=ar G;clear G;obtain⟨E,hE⟩:∃E,E=sV (az B ps) l m:=⟨_,rfl⟩;have HE:=ar hE;have bw:E.length=m:=by rw[hE];exact qw _ _ _
   have JO:=ar bw;have aT:Hid (∀e,e<m->eX E e=xz ((kN (Bk (az B ps) l e)).getD [])/\jq E e=zB (az B ps) l e):=λe he=>by rw[hE];exact CG _ _ _ _ he
   have bG:m<=4*W/\∀k,k<W->4*k<m:=by
    have hc:=ak.out;unfold bp at hc;exact⟨by omega,λk hk=>by omega⟩
   have bb:=ar bG;clear hE bw bG;obtain⟨i0,hi,bY,cm,bV⟩:=dc Tryz.info_entry;have HI:=ar hi;have cE:=lj;clear hi;go_wp2_with fail;clear bK b6 bN;go_loopg [9,29] W (λgh s9 s29 z=>∃k:Nat,k+gh=W/\s29= .int .i64 (k:Int)/\Hid (z.ownsRow (w.heap.size+1) 87 2 s9 (min m (4*k)) (fc (E.take (4*k)))/\(∀i,i<k->JU (az B ps) l m i)/\ay [] (w.alloc (.cells Z 109)) z))
   case atStart=>exact⟨0,by omega,rfl,⟨by simp[fc],.inl ⟨rfl,by simp⟩⟩,by simp,jK.out⟩
   case round=>
    clear jK;obtain⟨k,hk,rfl,HP⟩:=hrel;obtain⟨J,ac,fW⟩:=HP.out;cases gk with
    |zero=>
     obtain rfl:k=W:=by omega
     have ml:Hid (pK w (az B ps) l m (.returned (.tuple #[u9,true])) wr):=by
      have h1:=bb.out.1;rw[cQ h1,aW (by rw[JO.out];exact h1)] at J;obtain⟨g,ho,hg⟩:=fp.of_row J;obtain⟨g2,cn,cg⟩:∃g2,w.heap.size<=g2/\bD wr u9 g2 E:=by
       by_cases h0:m=0
       ·exact⟨w.heap.size,aH _,(ho.ereads JO.out.symm).anyG (by rw[JO.out,h0]) _⟩
       ·exact⟨g,by have :=(hg h0).1;omega,ho.ereads JO.out.symm⟩
      exact⟨u9,E,true,g2,rfl,cg,cn,λ_=>⟨⟨by omega,by rw[ak.out];exact b8.out,by rw[ak.out];exact ac⟩,HE.out⟩,λh=>(by cases h),fI.out.trans' fW⟩
     clear HP J ac fW hk;go_wp2_with fail;go_ret2;exact ml.out
    |succ gg=>
     have bl:k<W:=by omega
     have cv:(k:Int)<(W:Int):=by omega
     have cJ:(0:Int)<=(k:Int):=by omega
     have bQ:=bb.out.2 k bl;have aN:=XT.out wr k (by omega) fW;have bW:=bo.out k;have PE:Hid (¬JU (az B ps) l m k->¬pJ (az B ps) l m):=λh hh=>h (hh.2.2 k (by rw[ak.out];exact bl))
     have Nl:Hid (JU (az B ps) l m k↔l.getD k 0≠0/\(∀j,j<min 4 (m-4*k)->(kN (Bk (az B ps) l (4*k+j))).isSome=true/\zB (az B ps) l (4*k+j)<32)/\jn E k=dZ (az B ps) (1080+8*(l.getD k 0).toNat)):=by
      have e:=HE.out;show _↔_;rw[e];exact Iff.rfl
     obtain⟨xy,jA⟩:=hh2 ac fW;have PF:Hid (∀j,j<4->x9 l (4*k+j)=1080+8*(l.getD k 0).toNat+2*j):=λj U=>Un l k j U
     obtain⟨q,hq⟩:∃q:Nat,l.getD k 0=(q:Int):=⟨(l.getD k 0).toNat,by omega⟩;rw[hq] at aN Nl PF bW;rw[aG] at Nl PF;rw[Nat.min_eq_right (by omega)] at J;have af:=ar J;clear HP J ac fW hq;by_cases ck:q=0
     ·subst ck
      have HN:Hid (¬pJ (az B ps) l m):=PE.out λh=>(Nl.out.1 h).1 rfl
      have um:=ar (fI.out.trans' jA.out);clear Nl PF PE hk;go_wp2_with fail;go_ret2;exact pK.no HN.out um.out
     ·have e0:((q:Int)==0)=false:=cP.2 (by omega)
      have ae:=ky (q:Int) wr;rw[show iO (q:Int)=((1080+8*q:Nat):Int) by unfold iO;rw[aA];omega] at ae;obtain⟨XR,nu⟩:=hh2 ae (pI (HS.out.keep (fI.out.trans' jA.out) (by simp) (by simp)) (1080+8*q) (by omega));obtain⟨r,hr⟩:∃r,r=dZ (az B ps) (1080+8*q):=⟨_,rfl⟩;rw[<-hr] at nu Nl;have bZ:=ar hr;have xK:r.length=8:=by rw[hr];exact iG _ _
      have aZ:Hid (∀j,j<4->r.getD (j*2) 0=((Bk (az B ps) l (4*k+j):Nat):Int)/\r.getD (j*2+1) 0=zB (az B ps) l (4*k+j)):=λj U=>by
       have b7:=PF.out j U;rw[hr,kH _ _ _ (by omega),kH _ _ _ (by omega)];unfold Bk zB;rw[b7];have aM:=uV.out (1080+8*q+2*j);rw[show 1080+8*q+j*2=1080+8*q+2*j by omega,show 1080+8*q+(j*2+1)=1080+8*q+2*j+1 by omega];exact⟨by omega,rfl⟩
      have Gm:=ar xK;have cu:Hid (∀j,j<4->0<=zB (az B ps) l (4*k+j)):=λj U=>by
       have :=(uV.out (x9 l (4*k+j)+1)).1;exact this
      clear hr xK PF ae;generalize hp:((1080+8*q:Nat):Int)=p at *;clear hp;obtain⟨c,hc⟩:∃c,c=min 4 (m-4*k):=⟨_,rfl⟩;have HC:=ar hc;have cI:c<=4:=by omega
      have cB:4*k+c<=m:=by omega
      have bf:(m:Int)-(k:Int)*4=((m-4*k:Nat):Int):=by omega
      obtain⟨d,hd⟩:∃d,d=m-4*k:=⟨_,rfl⟩;rw[<-hd] at bf hc;have bJ:((4:Int)<=(d:Int)/\c=4)\/((d:Int)<4/\c=d):=by omega
      clear hc hd;have cr:w.heap.size+1<=wr.heap.size:=by have :=jA.out.size;simpa using this
      go_wp2_with fail;refine C' XR.out ?_;go_wp2_with fail;refine Rr nu.out λw3 aO=> ?_;obtain⟨w5,bq,rU,kR⟩:=bH (P:= prog) (ty:= 195) (cs:=aY r) (by rw[bB,Gm.out];exact jc) (bh.new w3 (aY (List.replicate 8 0)).toArray 195) (by simp[bB,Gm.out]) (fh _);have cw:=aO.size;obtain⟨cp,Ur⟩:=hh2 bq rU;have qR:Hid (ay [] wr w5):=((aO.alloc (.cells (aY (List.replicate 8 0)).toArray 195)).trans kR (by intro x G;rw[au] at G;omega));clear bq rU kR aO XR nu;have nL:Hid (ay [] (w.alloc (.cells Z 109)) w5):=jA.out.trans' qR.out;have bj:Hid (∀g,u9.ownBlock=some g->g≠w3.heap.size):=λg hg=>by
       obtain⟨-,h1⟩:=af.out;rcases h1 with ⟨hv,-⟩|⟨g2,cap,cy,hv,-,hh,-⟩
       ·rw[hv] at hg;cases hg
       ·rw[hv] at hg
        cases hg;have :=(Array.getElem?_eq_some_iff.1 hh).1;show g2≠w3.heap.size;omega
      have br:Hid (w5.ownsRow (w.heap.size+1) 87 2 u9 (4*k+0) (fc (E.take (4*k+0)))):=eo af.out qR.out (by simp);have cC:w.heap.size+1<=w3.heap.size:=by omega
      obtain⟨V,bt⟩:∃V,V=2*c:=⟨_,rfl⟩;have XU:Hid (∀j,j<c->(r.take V).getD (j*2) 0=((Bk (az B ps) l (4*k+j):Nat):Int)/\(r.take V).getD (j*2+1) 0=zB (az B ps) l (4*k+j)):=λj U=>by
       have e0:(r.take V).getD (j*2) 0=r.getD (j*2) 0:=by simp[show j*2<V by omega]
       have e1:(r.take V).getD (j*2+1) 0=r.getD (j*2+1) 0:=by simp[show j*2+1<V by omega]
       rw[e0,e1];exact aZ.out j (by omega)
      have bC:Hid (qJ (r.take V) c↔∀j,j<c->(kN (Bk (az B ps) l (4*k+j))).isSome=true/\zB (az B ps) l (4*k+j)<32):=by
       constructor
       ·intro h j U
        have :=h j U;rw[(XU.out j U).1,(XU.out j U).2,aG] at this;exact this
       ·intro h j U
        rw[(XU.out j U).1,(XU.out j U).2,aG];exact h j U
      have bU:Hid (E.take (4*k+c)=E.take (4*k)++mJ (r.take V) c):=by
       show _=_;rw[List.take_add]
       congr 1
       have Cr:((E.drop (4*k)).take c).length=c:=by rw[aJ,bM,JO.out];omega
       refine Xw (by rw[Cr,ko]) λj U=> ?_
       rw[Cr] at U;rw[(Bj E (4*k) c j U).1,(Bj E (4*k) c j U).2,(CD _ _ _ U).1,(CD _ _ _ U).2,(XU.out j U).1,(XU.out j U).2,aG];exact aT.out _ (by omega)
      have zC:Hid (∀j,0<=(r.take V).getD j 0/\(r.take V).getD j 0<18446744073709551616):=λj=>by
       by_cases U:j<V
       ·have e0:(r.take V).getD j 0=r.getD j 0:=by simp[U]
        rw[e0,bZ.out];by_cases bO:j<8
        ·rw[kH _ _ _ bO];exact uV.out _
        ·rw[aj,aP (by rw[iG];omega)]
         simp
       ·rw[aj,aP (by rw[aJ];omega)]
        simp
      have bF:Reads w5 (.slice w3.heap.size V 8) w3.heap.size (aY (r.take V)):=by
       have :=Ur.out.reads (o:=0) (n:=V) (c:=8) (by rw[Gm.out];omega) (by omega) (by omega);rwa[jM] at this
      have aK:=ar (xm bF (by rw[aJ,Gm.out];omega) c (by rw[aJ,Gm.out];omega) zC.out);have aI:Hid (∀x:Int,x=(V:Int)->∀z,(Instr.sliceAt 195 (.pointer (some ⟨w3.heap.size,0,none⟩)) none (some (.int .i64 x)) none).run prog z= .ok (.slice w3.heap.size V 8) z):=λx G z=>by
       rw[G];exact Uq _ _ (by omega) z
      have cH:1<=c:=by have :=HC.out;omega
      clear bF aZ XU zC;have Qs:=ar bt;clear bt;rcases bJ with ⟨bT,aV⟩|⟨bT,aV⟩
      have Us:min (4:Int) (d:Int)=4:=by omega
      have Mj:=aI.out 8 (by have :=Qs.out;omega)
      rotate_left
      have Us:min (4:Int) (d:Int)=(d:Int):=by omega
      have cG:2*(d:Int)=(V:Int):=by have :=Qs.out;omega
      have Mj:=aI.out (V:Int) rfl;all_goals
       have cF:=ar aV;clear aV aI;go_wp2_with(with_reducible refine gS 195 cp.out ?_);refine aK.out.mono ?_;rintro e w6 aD;rcases aD with ⟨g7,rfl,bv,bX,bI,jW⟩|⟨rfl,bA,jW⟩
       ·have aL:=bC.out.1 bI
        obtain⟨aS,tX,aX⟩:=hh3 (eo br.out jW (by simp)) (qR.out.trans' jW) (Ur.out.keep jW (by simp));have cj:Hid (∀j u,(fc (mJ (r.take V) c))[j]? =some u->w6.cell? ((⟨g7,0,none⟩:Addr).add j)=some u):=λj u hu=>by
         obtain⟨-,-,bg,-⟩:=bv.cell (by omega);have U:=(List.getElem?_eq_some_iff.1 hu).1;rw[lT,ko] at U;rw[add_plain,bc,bg j U];exact hu
        have Si:Hid ((fc (mJ (r.take V) c)).length=c*2):=by show _=_;rw[lT,ko]
        have b9:w.heap.size+1<=w6.heap.size:=by have :=tX.out.size;omega
        have hi:=HI.out;clear Mj bv bX bI jW aK;go_wp2_with(at_builtin;refine eU _ rfl _ _ 32 rfl (w.heap.size+1) 87 i0 (.agg #[.string ⟨#[]⟩,(0:Int)]) 2 24 underlying32 hi bY cm bV rfl (by decide) u9 (4*k+0) _ rfl aS.out ⟨g7,0,none⟩ c c (fc (mJ (r.take V) c)) rfl Si.out cj.out (Aj _) (by unfold maxLen;omega) (by omega) b9 ?_);intro v9 w7 bE aa _;have J:w7.ownsRow (w.heap.size+1) 87 2 v9 (4*k+c) (fc (E.take (4*k+c))):=by
         rw[bU.out,qH];exact bE
        have bk:bh w7 w3.heap.size (aY r).toArray 195 :=(aa.block _ aX.out.lt (λe=>bj.out _ e.symm rfl)).trans aX.out;have fW:ay [] (w.alloc (.cells Z 109)) w7:=(jA.out.trans' tX.out).grown2 aa λg hg=>by have :=dP aS.out g hg;simpa using this
        clear bE aa aS tX aX nL qR br bj Ur jA af hi;obtain⟨g0,bn,cf⟩:=fp.of_row J;have ry:=ar (bn.ereads (by rw[aJ,JO.out];omega));have cd:Hid (x8 (E.take (4*k+c))):=by
         have bP:∀e,e<4*k+c->0<=zB (az B ps) l e/\zB (az B ps) l e<32:=λe he=>by
          have h0:0<=zB (az B ps) l e:=(uV.out (x9 l e+1)).1;refine⟨h0,?_⟩;by_cases ct:e<4*k
          ·have :=((xy.out (e/4) (by omega)).2.1 (e%4) (by omega)).2
           rw[show 4*(e/4)+e%4=e by omega] at this;exact this
          ·have :=(aL (e-4*k) (by omega)).2
           rw[show 4*k+(e-4*k)=e by omega] at this;exact this
         refine⟨by rw[aJ,JO.out];omega,λe he=> ?_,λe he=> ?_⟩
         ·rw[aJ,JO.out] at he
          rw[(Gg E (4*k+c) e (by omega)).1,(aT.out e (by omega)).1];have :=CH (Bk (az B ps) l e);omega
         ·rw[aJ,JO.out] at he
          rw[(Gg E (4*k+c) e (by omega)).2,(aT.out e (by omega)).2];have :=bP e (by omega);omega
        have bS:Hid (∀z,ay [] w7 z->Calls prog 196 #[v9,(k:Int)] z λe w'=>e=(aY (jn E k)).toArray/\ay [] z w'):=λz aC=>by
         have :=DW (ry.out.keep aC (by simp)) cd.out k (by rw[aJ,JO.out];omega);rw[Ni E k c (by rw[HC.out,JO.out]) (by rw[JO.out];exact bQ)] at this;exact this
        have SC:Hid (∀z,ay [] w7 z->(loadVar 195 w3.heap.size).run prog z= .ok (.agg (aY r).toArray) z):=λz aC=>fM (bk.keep aC (by simp)) Gm.out
        have Qq:=ar (λz=>MR (a:=jn E k) (b:=r) (mW _ _ _) Gm.out z);have cx:=xX;obtain⟨jA,af⟩:=hh2 fW J;obtain⟨t2,aB⟩:∃t2,decide (jn E k=r)=t2:=⟨_,rfl⟩;rw[aB] at Qq;have cz:=Qq.out;have DX:Hid (JU (az B ps) l m k↔t2=true):=by
         show _↔_;rw[Nl.out,<-aB,decide_eq_true_iff];refine⟨λh=>h.2.2,λh=>⟨by omega,λi hi=>aL i ?_,h⟩⟩;have :=HC.out;omega
        clear J aL bk fW bn cf aB Qq;generalize (aY (jn E k)).toArray=ZQ,(aY r).toArray=ZP at *;cases t2;all_goals
         go_wp2_with fail;refine jy (S:=λz=>ay [] w7 z) ((ay.refl _ _).drew) ?_;repeat (
          (first
          |(refine aU.cons (.agg ZP) (bR.load rfl 195 (.tmp 12) rfl _ rfl λz G=>SC.out z G) ?_)
          |(refine aU.cons (.agg ZQ) (bR.call rfl 196 #[v9,(k:Int)] ?he ?h) ?_;(case he=>(intro wz;go_simp));(case h=>exact λz G=>(bS.out z G).mono λe w' he=>⟨he.1,G.trans' he.2⟩))
          |(refine aU.cons ?_ (bR.val rfl ?h) ?_;(case h=>(intro z G;clear G;go_simp;rfl))));simp only[Act.put,ag,ah,ai])
         refine aU.done λwz G=> ?_
         have EG:=ar G;clear G
        ·have HN:Hid (¬pJ (az B ps) l m):=PE.out λh=>by have :=DX.out.1 h;cases this
         have um:=ar (fI.out.trans' (jA.out.trans' EG.out));go_wp2_with fail;go_ret2;exact pK.no HN.out um.out
        ·have bL:Hid (wz.ownsRow (w.heap.size+1) 87 2 v9 (min m (4*(k+1))) (fc (E.take (4*(k+1))))/\(∀i,i<k+1->JU (az B ps) l m i)/\ay [] (w.alloc (.cells Z 109)) wz):=by
          refine⟨?_,λi hi=> ?_,jA.out.trans' EG.out⟩
          ·have h1:=eo af.out EG.out (by simp)
           have bg:=HC.out;rw[show min m (4*(k+1))=4*k+c by omega];have e:E.take (4*(k+1))=E.take (4*k+c):=by
            by_cases h4:c=4
            ·rw[h4,Nat.mul_add]
            ·rw[aW (by rw[JO.out];omega),aW (by rw[JO.out];omega)]
           rw[e];exact h1
          ·by_cases e:i=k
           ·subst e;exact DX.out.2 (by simp)
           ·exact xy.out i (by omega)
         go_wp2_with fail;go_roundg gg;case measure=>omega
         case rel=>exact⟨k+1,by omega,by go_num,bL.out⟩
       ·have HN:Hid (¬pJ (az B ps) l m):=PE.out λh=>bA (bC.out.2 λj U=>(Nl.out.1 h).2.1 j (by have :=HC.out;omega))
        have um:=ar (fI.out.trans' ((jA.out.trans' qR.out).trans' jW));clear bA jW aK;go_wp2_with fail;go_ret2;exact pK.no HN.out um.out
def pL (w:World) (v:Value) (g:Nat) (Ls:List (List Int)):Prop:=
 ∃a cap,v= .slice a Ls.length cap/\Ls.length<=cap/\cap<=maxLen/\(Ls.length≠0->g<w.heap.size/\∃off,a=some ⟨g,off,none⟩/\∀k,k<Ls.length->∀j,j<8->w.cell? ⟨g,off+k*8+j,none⟩=some (.int .u64 ((Ls.getD k []).getD j 0)))
theorem pL.keep{Ls:List (List Int)}(h:pL w v g Ls){l:List Nat}(J:ay l w w')(hg:Ls.length≠0->g∉l):pL w' v g Ls:=by
 obtain⟨a,cap,h1,h2,W,h4⟩:=h;refine⟨a,cap,h1,h2,W,λU=> ?_⟩;obtain⟨z,off,h5,V⟩:=h4 U;refine⟨bS z J.size,off,h5,λk G j hj=> ?_⟩;exact(aO (w:=w) (w':=w') (a:=⟨g,off+k*8+j,none⟩) (J.block g z (hg U))).trans (V k G j hj)
theorem pL.nil(w:World)(g:Nat):pL w (.slice none 0 0) g []:=⟨none,0,rfl,by simp,by simp[maxLen],λh=>absurd rfl h⟩
def nr (n:bT) (own:List Nat):List Int:=
 if (fu n.B).length<=6 then po n::n.S::(fu n.B++List.replicate (6-(fu n.B).length) 0) else po n::n.S::((fu n.B).take 5++[9223372036854775808+((own.getD 0 0:Nat):Int)])
def kz (n:bT):List (List Int):=
 if (fu n.B).length<=6 then [] else [(fu n.B).drop 5++List.replicate (13-(fu n.B).length) 0]
def pM (w:World) (R:List Int) (z:List (List Int)) (e:Ending) (w':World):Prop:=
 ∃h gb,e= .returned (.tuple #[(aY R).toArray,h])/\pL w' h gb z/\w.heap.size<=gb/\ay [] w w'
theorem eG{fn:Func}{tmps:Array Value}{t:Nat}{G:Addr}{x:Value}(h:fn.results= #[.cell a t,.tmp b])(z:tmps.getD a undef= .pointer (some G))(U:(loadVar t G).run P w= .ok v w)
  (J:tmps.getD b undef=x):(results fn tmps).run P w= .ok (.tuple #[v,x]) w:=by
 rw[fg] at z J;unfold results;rw[h];simp[z,wu,U,J]
theorem pN{z:Array Oper}{o:Oper}{a:Act}{K:Act->World->Prop}{Q:Exit->Act->World->Prop}{E:Prop}(G:o.guard=none)(ty:TypeId)(x y:Operand)(ho:o.op= .store ty x y)(J:Addr)
  (hx:a.eval x= .pointer (some J)) (v:Value) (U:a.eval y=v) (w':World) (V:(storeVar ty J v).run P w= .ok () w') (h:K (a.put o.dst undef) w'):if Region.wanted o (yielded z a.tmps)=true then Oper.wp P o a w K Q else E:=by
 have W:Region.wanted o (yielded z a.tmps)=true:=by simp[Region.wanted,G]
 rw[aB W];unfold Oper.wp execOp;simp only[ho,hx,U,Instr.storeAt,Instr.sureAddr,ck,fO,cL,V];exact h
theorem Gn{L:List Int}{W V J z G a5 a6 U:Value}(hb:bh w b #[W,V,J,z,G,a5,a6,U] T)(hl:L.length=8)(h:aY L=[W,V,J,z,G,a5,a6,U]):pL w (.slice b 1 1) b [L]:=by
 refine⟨_,1,rfl,aH _,by unfold maxLen;omega,λ_=>⟨hb.lt,0,rfl,λk hk j hj=> ?_⟩⟩;have cJ:k=0:=by
  have :k<1:=hk;omega
 subst cJ;have e:(0+0*8+j:Nat)=j:=by omega
 rw[e,hb.cell];have h2:(#[W,V,J,z,G,a5,a6,U]:Array Value)=(aY L).toArray:=by rw[h]
 rw[h2,aF,dO (by omega)];rfl
theorem sW (b:Nat)(w:World):(Instr.sliceAt 195 (.pointer (some ⟨b,0,none⟩)) (some (.int .i64 2)) none none).run prog w= .ok (.slice (some ⟨b,2,none⟩) 6 6) w:=by show Sem.run _ _ _=_;kernel_rfl
theorem Gp (n:bT)(v:Value)(hB:n.B.length=13)(ht:zO n)(vo:Value)(own:List Nat)(h6:(fu n.B).length<=6):
  Calls prog 218 #[aM n v,vo] w (pM w (nr n own) (kz n)):=by
 have ac:nr n own=po n::n.S::(fu n.B++List.replicate (6-(fu n.B).length) 0):=aB h6;have af:kz n=[]:=aB h6;rw[ac,af];obtain⟨HH,xA⟩:=hh2 (EZ n v hB ht) (λwx=>K4 n.B hB wx);obtain⟨W0,h⟩:∃W0,W0=(w.alloc (.cells (aM n v) 111)).alloc (.cells (aY (List.replicate 8 0)).toArray 195):=⟨_,rfl⟩;have V:bh W0 w.heap.size (aM n v) 111 :=by
  rw[h];exact(bh.new w _ _).alloc _
 have EH:Hid (bh W0 (w.heap.size+1) (aY (List.replicate 8 0)).toArray 195):=by
  have :=bh.new (w.alloc (.cells (aM n v) 111)) (aY (List.replicate 8 0)).toArray 195;have e:(w.alloc (.cells (aM n v) 111)).heap.size=w.heap.size+1:=by simp
  rw[e,<-h] at this;exact this
 have fI:Hid (ay [] w W0):=by
  rw[h];exact((ay.refl [] w).alloc _).alloc _
 have uY:=ar (b9 V hB);have sf:Hid (∀wx,ay [] W0 wx->(loadVar 109 ⟨w.heap.size,4,none⟩).run prog wx= .ok (.agg (zs n.B).toArray) wx):=λwx hk=>fA (off:=4) (V.keep hk (by simp)) hB λk hk=>Cx _ (by omega)
 have av:=lj;have aA:(fu n.B).length<=13:=mB n.B 13;have ru:=ar h;have M7:Hid (uZ n=po n::n.S::List.replicate 6 0):=rfl;have XV:=CA n;generalize po n=t,n.S=s,uZ n=H,fu n.B=R,(zs n.B).toArray=ZB,aM n v=Z at *;clear V h ac af ht hB;generalize wC:(aY (List.replicate 8 0)).toArray=Z8 at *;have xJ:=ar wC;clear wC;go_in;go_wp2_with((with_reducible show wpList _ _ _ (⟨_,.load 111 (.tmp 2),_,_,_,_⟩::_) _ _);rw[<-ru.out];refine gJ rfl 111 (.tmp 2) rfl _ rfl _ uY.out ?_);refine Rr (HH.out _) λw1 J=> ?_;obtain⟨w2,ae,tY,ag⟩:=bH (P:= prog) (ty:= 195) (cs:=aY H) (by rw[bB,XV];exact jc) (bh.new w1 Z8 195) (by rw[<-xJ.out];simp[bB,XV]) (fh _);have uG:ay [] W0 w2:=(J.alloc (.cells Z8 195)).trans ag (by intro x hx;rw[au] at hx;have :=J.size;omega);have ax:w.heap.size+1<w1.heap.size:=bS EH.out.lt J.size;obtain⟨ak,SD,fx,ai⟩:=hh4 ae tY uG (sf.out w2 uG);clear ae tY ag uG J HH;generalize az:w1.heap.size=g6 at *;go_wp2_with(with_reducible first|refine gS 195 ak.out ?_|refine gL 109 ai.out ?_);refine(xA.out _).mono ?_;rintro e w3 ⟨va,ga,rfl,JT,xp,G⟩;obtain⟨vc,w4,zS,Gq,W⟩:=qu (o:=2) (n:=6) (cap:=6) (SD.out.keep G (by simp)) JT h6 (by rw[XV];omega);obtain⟨aa,ca,rfl,-,-,-⟩:=fV JT;have U:H.take 2++R++H.drop (2+R.length)=t::s::(R++List.replicate (6-R.length) 0):=by
  rw[M7.out,show 2+R.length=R.length+1+1 by omega,jE,jE,jD];rfl
 rw[U] at Gq;have z:(t::s::(R++List.replicate (6-R.length) 0)).length=8:=by simp;omega
 have Iy:=ar (fM Gq z);have qb:Hid (ay [] w w4):=((fI.out.trans' fx.out).trans' G).trans W (by intro x hx;rw[au] at hx;omega);have ah:bh w4 (w.heap.size+1) Z8 195 :=(((EH.out.keep fx.out (by simp)).keep G (by simp)).keep W (by rw[au];omega));obtain⟨w5,hS,rU,kR⟩:=bH (P:= prog) (ty:= 195) (cs:=aY (t::s::(R++List.replicate (6-R.length) 0))) (by rw[bB,z];exact jc) ah (by rw[<-xJ.out];simp[bB,z]) (fh _);obtain⟨HS,Iz⟩:=hh2 hS (fM rU z);have qR:Hid (ay [] w w5):=qb.out.trans kR (by intro x hx;rw[au] at hx;omega);have aj:=ar zS;have aC:=sW g6;have aD:(R.length:Int)<=6:=by omega
 clear JT xp G zS Gq W U z ah hS rU kR XV;go_wp2_with(first|((with_reducible show wpList _ _ _ (⟨some 20,_,_,_,_,_⟩::_) _ _);refine jw rfl (.tmp 18) (.tmp 19) 71 71 rfl _ _ rfl rfl (aj.out _) ?_)|(with_reducible refine gL 195 Iy.out ?_)|(with_reducible refine gS 195 HS.out ?_));exact aI (eG results218 rfl Iz.out rfl) rfl ⟨_,w.heap.size,rfl,pL.nil _ _,aH _,qR.out⟩
theorem sX{xs:List Nat}(h:Reads w v g (dK xs)):∃a cap,v= .slice a xs.length cap/\xs.length<=cap/\cap<=maxLen/\
  Hid (∀k,k<xs.length->g<w.heap.size/\∃off,a=some ⟨g,off,none⟩/\w.cell? ⟨g,off+k,none⟩=some (.int .i64 ((xs.getD k 0:Nat):Int))):=by
 obtain⟨a,cap,G,h1,U,J⟩:=h;rw[fk] at *;refine⟨a,cap,G,h1,U,λk z=> ?_⟩;obtain⟨V,off,W,hc⟩:=J (by intro e;have :=cN List.length e;rw[fk,cC] at this;omega);exact⟨V,off,W,(hc k z).trans (nB z)⟩
theorem Reads.part{off L cap:Nat}{R:List Int}(h:Reads w (.slice (some ⟨g,off,none⟩) L cap) g (aY R)){o n:Nat}(hn:o+n<=R.length):Reads w (.slice (some ⟨g,off+o,none⟩) n (cap-o)) g (aY ((R.drop o).take n)):=by
 obtain⟨a,c,V,h1,h2,W⟩:=h;cases V;rw[bB] at h1;have z:(aY ((R.drop o).take n)).length=n:=by rw[bB,aJ,bM];omega
 refine⟨_,cap-o,by rw[z],by rw[z];omega,by omega,λhx=> ?_⟩;have aa:0<n:=by
  rcases dY n with G|G
  ·subst G;exact absurd (bo z) hx
  ·exact G
 obtain⟨hg,J,ho,hc⟩:=W (by intro e;have :=cN List.length e;rw[bB,cC] at this;omega);cases ho;refine⟨hg,_,rfl,λj U=> ?_⟩;rw[z] at U;have :=hc (o+j) (by rw[bB];omega);rw[Nat.add_assoc,this,dO (by omega),dO (by rw[aJ,bM];omega)];simp[U]
theorem Lf (n:bT)(v:Value)(hB:n.B.length=13)(ht:zO n)(vo:Value)(go:Nat)(own:List Nat)(ho:Reads w vo go (dK own))(bF:own.getD 0 0<256)(h1:1<=own.length)(h6:6<(fu n.B).length):
  Calls prog 218 #[aM n v,vo] w (pM w (nr n own) (kz n)):=by
 have aT:nr n own=po n::n.S::((fu n.B).take 5++[9223372036854775808+((own.getD 0 0:Nat):Int)]):=aA;have bp:kz n=[(fu n.B).drop 5++List.replicate (13-(fu n.B).length) 0]:=aA;rw[aT,bp];obtain⟨ao,co,rfl,Nn,cm,SE⟩:=sX ho;obtain⟨bz,Qt,rfl,ah⟩:=SE.out 0 (by omega);have cf:0<(own.length:Int):=by omega
 obtain⟨x0,aU⟩:∃x0,x0=own.getD 0 0:=⟨_,rfl⟩;rw[<-aU] at bF ah ⊢;rw[dB] at ah;have Lg:=ar ah;clear ah aU SE ho;obtain⟨HH,xA⟩:=hh2 (EZ n v hB ht) (λG=>K4 n.B hB G);obtain⟨W0,ae⟩:∃W0,W0=(w.alloc (.cells (aM n v) 111)).alloc (.cells (aY (List.replicate 8 0)).toArray 195):=⟨_,rfl⟩;have aN:bh W0 w.heap.size (aM n v) 111 :=by
  rw[ae];exact(bh.new w _ _).alloc _
 have EH:Hid (bh W0 (w.heap.size+1) (aY (List.replicate 8 0)).toArray 195):=by
  have :=bh.new (w.alloc (.cells (aM n v) 111)) (aY (List.replicate 8 0)).toArray 195;have e:(w.alloc (.cells (aM n v) 111)).heap.size=w.heap.size+1:=by simp
  rw[e,<-ae] at this;exact this
 have fI:Hid (ay [] w W0):=by
  rw[ae];exact((ay.refl [] w).alloc _).alloc _
 have uY:=ar (b9 aN hB);have sf:Hid (∀G,ay [] W0 G->(loadVar 109 ⟨w.heap.size,4,none⟩).run prog G= .ok (.agg (zs n.B).toArray) G):=λG hk=>fA (off:=4) (aN.keep hk (by simp)) hB λk hk=>Cx _ (by omega)
 have bX:=lj;have bL:(fu n.B).length<=13:=mB n.B 13;have ru:=ar ae;have M7:Hid (uZ n=po n::n.S::List.replicate 6 0):=rfl;have XV:=CA n;generalize po n=t,n.S=s,uZ n=H,fu n.B=R,(zs n.B).toArray=ZB,aM n v=Z at *;clear aN ae aT bp ht hB;generalize wC:(aY (List.replicate 8 0)).toArray=Z8 at *;have xJ:=ar wC;clear wC;go_in;go_wp2_with((with_reducible show wpList _ _ _ (⟨_,.load 111 (.tmp 2),_,_,_,_⟩::_) _ _);rw[<-ru.out];refine gJ rfl 111 (.tmp 2) rfl _ rfl _ uY.out ?_);refine Rr (HH.out _) λw1 ak=> ?_;obtain⟨w2,bk,tY,aX⟩:=bH (P:= prog) (ty:= 195) (cs:=aY H) (by rw[bB,XV];exact jc) (bh.new w1 Z8 195) (by rw[<-xJ.out];simp[bB,XV]) (fh _);have uG:ay [] W0 w2:=(ak.alloc (.cells Z8 195)).trans aX (by intro x hx;rw[au] at hx;have :=ak.size;omega);have bY:w.heap.size+1<w1.heap.size:=bS EH.out.lt ak.size;obtain⟨bK,SD,fx,bC⟩:=hh4 bk tY uG (sf.out w2 uG);clear bk tY aX uG ak HH;generalize cj:w1.heap.size=U at *;go_wp2_with(with_reducible first|refine gS 195 bK.out ?_|refine gL 109 bC.out ?_);refine(xA.out _).mono ?_;rintro e w3 ⟨va,ga,rfl,JT,xp,af⟩;obtain⟨aa,ca,rfl,b6,bU,bA⟩:=fV JT;obtain⟨-,aS,rfl,-⟩:=bA.out 0 (by omega);have aR:=JT.part (o:=0) (n:=5) (by omega);rw[dB,Nat.sub_zero,jM] at aR;have Ue:(R.take 5).length=5:=by rw[aJ];omega
 obtain⟨vc,w4,zS,Gq,aj⟩:=qu (w:=w3.drew) (o:=2) (n:=6) (cap:=6) (SD.out.keep af (by simp)).drew (show Reads w3.drew _ ga (aY (R.take 5)) from aR) (by omega) (by rw[XV];omega);have Nh:=zS 3;have bu:=sW U;have bO:¬(R.length:Int)<=6:=by omega
 have cd:(5:Int)<=(ca:Int):=by omega
 have bZ:5<=ca:=by omega
 go_wp2_with fail;go_region_with (fail)
 have qb:Hid (ay [] w w4):=(((fI.out.trans' fx.out).trans' af).drew).trans aj (by intro x hx;rw[au] at hx;omega);have az:H.take 2++R.take 5++H.drop (2+(R.take 5).length)=t::s::(R.take 5++[0]):=by
  rw[M7.out,Ue];rfl
 rw[az] at Gq;have bI:(t::s::(R.take 5++[(0:Int)])).length=8:=by simp[Ue]
 have bf:Hid (bh w4 (w.heap.size+1) Z8 195):=((EH.out.keep fx.out (by simp)).keep af (by simp)).drew.keep aj (by rw[au];omega);have bR:U<w2.heap.size:=SD.out.lt;have bW:U<ga:=by omega
 have bn:Hid (Reads w4 (.slice (some ⟨ga,aS,none⟩) R.length ca) ga (aY R)):=(show Reads w3.drew _ ga (aY R) from JT).keep aj (by rw[au];omega);have bJ:=(aO (w:=w) (w':=w4) (a:=⟨go,Qt,none⟩) (qb.out.block go bz (by simp))).trans Lg.out;have c7:w4.cell? ⟨U,7,none⟩=some (.int .u64 ((t::s::(R.take 5++[(0:Int)])).getD 7 0)):=by
  rw[Gq.cell,aF,dO (by omega)]
 have f7:w4.frozen? ⟨U,7,none⟩=false:=Gq.frozen 7;have bq:bits .or .u64 9223372036854775808 (x0:Int)=((9223372036854775808+x0:Nat):Int):=by
  rw[show(9223372036854775808:Int)=((9223372036854775808:Nat):Int) from rfl,u64_or_nat _ _ (by omega) (by omega),nat_join 63 _ _ (by decide) (by omega)]
 obtain⟨X,hX⟩:∃X:Int,X=((9223372036854775808+x0:Nat):Int):=⟨_,rfl⟩;rw[<-hX] at bq;have aD:(9223372036854775808:Int)+((x0:Nat):Int)=X:=by omega
 rw[aD];have bw:=nD (x:=(x0:Int)) (by omega) (by omega);have aP:bh (w4.setCell ⟨U,7,none⟩ (.int .u64 X)) U (aY (t::s::(R.take 5++[X]))).toArray 195 :=by
  have :=Gq.set 7 (.int .u64 X);rw[ag,mI] at this;have e:(t::s::(R.take 5++[(0:Int)])).set 7 X=t::s::(R.take 5++[X]):=by
   rw[ai,ai,dH _ _ (by omega),Ue];rfl
  rw[e] at this;exact this
 have bt:=ar aP;have Np:Hid ((t::s::(R.take 5++[X])).length=8):=by show _=_;simp[Ue]
 obtain⟨W5,ac⟩:∃W5,W5=(w4.setCell ⟨U,7,none⟩ (.int .u64 X)).alloc (.cells Z8 195):=⟨_,rfl⟩;have bG:=ar ac;have bD:(w4.setCell ⟨U,7,none⟩ (.int .u64 X)).heap.size=w4.heap.size:=by simp[World.setCell]
 have XW:Hid (bh W5 w4.heap.size (aY (List.replicate 8 0)).toArray 195):=by
  have :=bh.new (w4.setCell ⟨U,7,none⟩ (.int .u64 X)) Z8 195;rw[bD,<-ac,<-xJ.out] at this;exact this
 have aB:Hid (ay [U] w4 W5):=by
  rw[ac];exact((ay.refl [U] w4).setCell (.inl (by simp)) _).alloc _
 have ba:Hid (bh W5 U (aY (t::s::(R.take 5++[X]))).toArray 195):=by
  rw[ac];exact aP.alloc _
 have cg:U<w4.heap.size:=Gq.lt;generalize (t::s::(R.take 5++[(0:Int)])).getD 7 0=y7 at *;clear Gq aP aj zS Nh aR az bI af JT xp ac hX;go_wp2_with fail;rw[<-bG.out];have aV:Hid (Reads W5 (.slice (some ⟨ga,aS,none⟩) R.length ca) ga (aY R)):=bn.out.keep aB.out (by rw[au];omega);have aK:=aV.out.part (o:=5) (n:=R.length-5) (by omega);rw[aW (by rw[bM];omega)] at aK;have bl:(R.drop 5).length=R.length-5:=bM;obtain⟨cp,W,XS,EE,jW⟩:=qu (w:=W5.drew) (o:=0) (n:=8) (cap:=8) (bh.drew XW.out) (show Reads W5.drew _ ga (aY (R.drop 5)) from aK) (by omega) (by rw[bE];omega);have bv:=XS 3;have br:(List.replicate 8 (0:Int)).take 0++R.drop 5++(List.replicate 8 (0:Int)).drop (0+(R.drop 5).length)=R.drop 5++List.replicate (13-R.length) 0:=by
  rw[bl,ez,bQ,bc,jD,show 8-(R.length-5)=13-R.length by omega]
 rw[br] at EE;have bV:=wG w4.heap.size;have ck:(5:Int)<=(R.length:Int):=by omega
 have b8:¬ca=5:=by omega
 have cn:5<=R.length:=by omega
 clear bq bw c7 f7 bJ bu;go_region_with (fail)
 have ax:(R.drop 5++List.replicate (13-R.length) 0).length=8:=by rw[aC,bl,bE];omega
 have b7:w4.heap.size<W.heap.size:=EE.lt;have Iy:Hid (∀G,ay [w.heap.size+1] W G->(loadVar 195 U).run prog G= .ok (.agg (aY (t::s::(R.take 5++[X]))).toArray) G):=λG hk=>fM (((bh.drew ba.out).keep jW (by rw[au];omega)).keep hk (by rw[au];omega)) Np.out
 have aQ:Hid (∀G,ay [w.heap.size+1] W G->(loadVar 195 w4.heap.size).run prog G= .ok (.agg (aY (R.drop 5++List.replicate (13-R.length) 0)).toArray) G):=λG hk=>fM (EE.keep hk (by rw[au];omega)) ax
 have bb:bh W (w.heap.size+1) Z8 195 :=(bh.drew (bf.out.keep aB.out (by rw[au];omega))).keep jW (by rw[au];omega);have av:Hid (∀G,ay [] W G->∃J,(storeVar 195 (w.heap.size+1:Nat) (.agg (aY (t::s::(R.take 5++[X]))).toArray)).run prog G= .ok () J/\bh J (w.heap.size+1) (aY (t::s::(R.take 5++[X]))).toArray 195/\ay [w.heap.size+1] G J):=λG hk=>
  bH (P:= prog) (ty:= 195) (cs:=aY (t::s::(R.take 5++[X]))) (by rw[bB,Np.out];exact jc) (bb.keep hk (by simp)) (by rw[<-xJ.out,bN,bB,bB,Np.out,bE]) (fh _)
 have tX:Hid (ay [] w W):=((qb.out.trans aB.out (by intro x hx;rw[au] at hx;omega)).drew).trans jW (by intro x hx;rw[au] at hx;omega);clear EE jW XS bv aK br bb aV bn XW ba bt bf;generalize bg:aY (t::s::(R.take 5++[X]))=ZO,aL:aY (R.drop 5++List.replicate (13-R.length) 0)=aH at *;have bo:aH.length=8:=by rw[<-aL,bB,ax]
 obtain⟨a0,a1,a2,a3,a4,a5,a6,a7,rfl⟩:∃a0 a1 a2 a3 a4 a5 a6 a7,aH=[a0,a1,a2,a3,a4,a5,a6,a7]:=by
  match aH,bo with
  | [a,b,c,d,e,f,g,h],_=>exact⟨a,b,c,d,e,f,g,h,rfl⟩
 obtain⟨aZ,Qu,bj⟩:=hh3 aL bg ax;clear aL bg bo ax;go_wp2_with fail;refine wp_region_any (by kernel_rfl) ?_
 (try (change wpAny _ _ _ _ _ _ _ (World.drew _)))
 refine iL (rs:=[0,1]) (by kernel_rfl) (by simp) ?_;refine eF rfl (λK z=> ?_) ?_
 rotate_left
 refine eF rfl (λK z=> ?_) ig;refine mR rfl 195 (.tmp 9) rfl _ rfl _ (aQ.out _ (by first|exact(ay.refl _ _).drew|exact((ay.refl _ _).drew).alloc _|exact((ay.refl _ _).drew).trans' V.out)) ?_;refine z _ _ ?_;clear z K;refine iL (rs:=[0,2]) (by kernel_rfl) (by simp) ?_;refine eF rfl (λK z=> ?_) ?_;refine mR rfl 195 (.tmp 6) rfl _ rfl _ (Iy.out _ (by first|exact(ay.refl _ _).drew|exact((ay.refl _ _).drew).alloc _|exact((ay.refl _ _).drew).trans' V.out)) ?_;refine z _ _ ?_;clear z K
 rotate_left
 refine eF rfl (λK z=> ?_) ig
 go_simp
 refine z _ _ ?_;clear z K;refine iL (rs:=[0]) (by kernel_rfl) (by simp) ?_;refine eF rfl (λK z=> ?_) ig;refine mR rfl 195 (.tmp 6) rfl _ rfl _ (Iy.out _ (by first|exact(ay.refl _ _).drew|exact((ay.refl _ _).drew).alloc _|exact((ay.refl _ _).drew).trans' V.out)) ?_;refine z _ _ ?_;clear z K
 rotate_left
 refine mR rfl 195 (.tmp 6) rfl _ rfl _ (Iy.out _ (by first|exact(ay.refl _ _).drew|exact((ay.refl _ _).drew).alloc _|exact((ay.refl _ _).drew).trans' V.out)) ?_;refine z _ _ ?_;clear z K;refine iL (rs:=[1,3]) (by kernel_rfl) (by simp) ?_;refine eF rfl (λK z=> ?_) ?_;refine mR rfl 195 (.tmp 9) rfl _ rfl _ (aQ.out _ (by first|exact(ay.refl _ _).drew|exact((ay.refl _ _).drew).alloc _|exact((ay.refl _ _).drew).trans' V.out)) ?_;refine z _ _ ?_;clear z K
 rotate_left
 refine eF rfl (λK z=> ?_) ig;obtain⟨J,hS,sw,SF⟩:=av.out _ ((ay.refl _ _).drew);obtain⟨HS,Qv,V⟩:=hh3 hS sw SF;clear hS sw SF;refine pN rfl 195 (.tmp 4) (.tmp 38) rfl _ rfl _ rfl _ HS.out ?_;refine z _ _ ?_;clear z K;refine iL (rs:=[1]) (by kernel_rfl) (by simp) ?_;refine eF rfl (λK z=> ?_) ig;refine mR rfl 195 (.tmp 9) rfl _ rfl _ (aQ.out _ (by first|exact(ay.refl _ _).drew|exact((ay.refl _ _).drew).alloc _|exact((ay.refl _ _).drew).trans' V.out)) ?_;refine z _ _ ?_;clear z K
 rotate_left
 refine iL (rs:=[2,3]) (by kernel_rfl) (by simp) ?_;refine eF rfl (λK z=> ?_) ?_
 go_simp
 refine z _ _ ?_;clear z K
 rotate_left
 refine eF rfl (λK z=> ?_) ig;obtain⟨J,hS,sw,SF⟩:=av.out _ ((ay.refl _ _).drew);obtain⟨HS,Qv,V⟩:=hh3 hS sw SF;clear hS sw SF;refine pN rfl 195 (.tmp 4) (.tmp 38) rfl _ rfl _ rfl _ HS.out ?_;refine z _ _ ?_;clear z K
 rotate_left
 rotate_left
 refine iL (rs:=[2,3]) (by kernel_rfl) (by simp) ?_;refine eF rfl (λK z=> ?_) ?_
 go_simp
 refine z _ _ ?_;clear z K
 rotate_left
 refine eF rfl (λK z=> ?_) ig;obtain⟨J,hS,sw,SF⟩:=av.out _ ((ay.refl _ _).drew);obtain⟨HS,Qv,V⟩:=hh3 hS sw SF;clear hS sw SF;refine pN rfl 195 (.tmp 4) (.tmp 38) rfl _ rfl _ rfl _ HS.out ?_;refine z _ _ ?_;clear z K;all_goals
  first
   |(have h0:=J
     clear h0;refine iL (rs:=[2]) (by kernel_rfl) (by simp) ?_;refine eF rfl (λK z=> ?_) ig
     go_simp
     refine z _ _ ?_;clear z K;refine iL (rs:=[4]) (by kernel_rfl) (by simp) ?_;refine eF rfl (λK z=> ?_) ig
     go_simp
     refine z _ _ ?_;clear z K;refine wpAny_done (by kernel_rfl) ?_ _;go_wp2_with fail;have zN:bh (J.alloc (.cells #[a0,a1,a2,a3,a4,a5,a6,a7] 195)) J.heap.size #[a0,a1,a2,a3,a4,a5,a6,a7] 195 :=bh.new J #[a0,a1,a2,a3,a4,a5,a6,a7] 195;have bP:W.heap.size<=J.heap.size:=V.out.size;have aG:ay [] w (J.alloc (.cells #[a0,a1,a2,a3,a4,a5,a6,a7] 195)):=((tX.out.drew).trans V.out (by intro x hx;rw[au] at hx;omega)).alloc _;exact aI (eG results218 rfl (by have :=Qv.out;rw[<-Qu.out] at this;exact fM (this.alloc _) Np.out) rfl) rfl ⟨.slice J.heap.size 1 1,J.heap.size,(by rw[aD,Qu.out];rfl),Gn zN bj.out aZ.out,by omega,aG⟩)
   |(refine iL (rs:=[3]) (by kernel_rfl) (by simp) ?_
     refine eF rfl (λK z=> ?_) ig;obtain⟨J,hS,sw,SF⟩:=av.out _ (((ay.refl _ _).drew).alloc _);obtain⟨HS,Qv,V⟩:=hh3 hS sw SF;clear hS sw SF;refine pN rfl 195 (.tmp 4) (.tmp 38) rfl _ rfl _ rfl _ HS.out ?_;refine z _ _ ?_;clear z K;refine iL (rs:=[4]) (by kernel_rfl) (by simp) ?_;refine eF rfl (λK z=> ?_) ig
     go_simp
     refine z _ _ ?_;clear z K;refine wpAny_done (by kernel_rfl) ?_ _;go_wp2_with fail;have zN:bh J W.heap.size #[a0,a1,a2,a3,a4,a5,a6,a7] 195 :=bh.keep (bh.new W.drew #[a0,a1,a2,a3,a4,a5,a6,a7] 195) V.out (by rw[au];show ¬W.heap.size=_;omega);have aG:ay [] w J:=((tX.out.drew).alloc _).trans V.out (by intro x hx;rw[au] at hx;omega);exact aI (eG results218 rfl (by have :=Qv.out;rw[<-Qu.out] at this;exact fM this Np.out) rfl) rfl ⟨.slice W.heap.size 1 1,W.heap.size,(by rw[aD,Qu.out];rfl),Gn zN bj.out aZ.out,by omega,aG⟩)
def dN (E:List (ByteArray×Int)) (b:Nat):Nat:=((eB E b).length+2)/3
def fN (E:List (ByteArray×Int)):Nat->Nat
 |0=>0
 |b+1=>fN E b+dN E b
theorem vg (E:List (ByteArray×Int)){b c:Nat}(h:b<=c):fN E b<=fN E c:=by
 induction h with
 |refl=>exact aH _
 |step h ih=>exact cE ih (Nat.le_add_right _ _)
def yU (l:List (ByteArray×Int)) (x:Nat):List (ByteArray×Int):=(l.drop (3*x)).take 3
theorem nU (l:List (ByteArray×Int))(x:Nat):(yU l x).length=min 3 (l.length-3*x):=by simp[yU]
def zD (ws:List Int) (x:Int):List Int:=x::(ws++List.replicate (7-ws.length) 0)
theorem XX (h:ws.length<=7)(x:Int):(zD ws x).length=8:=by simp[zD];omega
theorem oZ (ws:List Int)(x:Int)(i:Nat):(zD ws x).getD (i+1) 0=ws.getD i 0:=by
 show(ws++List.replicate (7-ws.length) 0).getD i 0=_;rw[aj,aj];by_cases h:i<ws.length
 ·rw[ba h]
 ·rw[aR (by omega),bj,aP (by omega:ws.length<=i)]
  split<;>rfl
def XY (E:List (ByteArray×Int)) (own:List Nat) (b j:Nat):List Int:=
 zD (eQ (yU (eB E b) j)) (if j+1<dN E b then ((own.getD (fN E b+(j+1)) 0:Nat):Int) else 0)
def yb (E:List (ByteArray×Int)) (own:List Nat):Nat->List (List Int)
 |0=>[]
 |b+1=>yb E own b++(List.range (dN E b)).map (XY E own b)
theorem o5 (E:List (ByteArray×Int))(own:List Nat):∀b,(yb E own b).length=fN E b
 |0=>rfl
 |b+1=>by rw[yb,fN,aC,o5 E own b,bZ,fK]
theorem sx (E:List (ByteArray×Int))(own:List Nat){z j:Nat}(G:j<dN E z):∀{b:Nat},z<b->(yb E own b).getD (fN E z+j) []=XY E own z j
 |0,h=>by omega
 |b+1,h=>by
  rw[yb,aj];by_cases e:z=b
  ·subst e
   rw[aR (by rw[o5];omega),o5,dD];simp[G]
  ·have J:z<b:=by omega
   have U:fN E z+j<fN E b:=by
    have :=vg E (show z+1<=b from J);rw[fN] at this;omega
   rw[ba (by rw[o5];exact U),<-aj];exact sx E own G J
theorem vh (E:List (ByteArray×Int)){k:Nat}:∀{b:Nat},k<fN E b->∃z j,z<b/\j<dN E z/\k=fN E z+j
 |0,h=>by rw[fN] at h;omega
 |b+1,h=>by
  by_cases U:k<fN E b
  ·obtain⟨z,j,V,G,J⟩:=vh E U
   exact⟨z,j,by omega,G,J⟩
  ·rw[fN] at h
   exact⟨b,k-fN E b,by omega,by omega,by omega⟩
def hdD (E:List (ByteArray×Int)) (own:List Nat) (b:Nat):Int:=if 0<dN E b then ((own.getD (fN E b) 0:Nat):Int) else 0
def Ap (E:List (ByteArray×Int)) (own:List Nat) (b p q:Nat):Int:=
 if q<b then hdD E own q else if q=b/\0<p then ((own.getD (fN E q) 0:Nat):Int) else 0
def rD (n:bT) (own:List Nat) (b p:Nat):List Int:=
 [po n,n.S,Ap n.E own b p 0,Ap n.E own b p 1,Ap n.E own b p 2,Ap n.E own b p 3,0,0]
def Gr (n:bT) (own:List Nat):List Int:=rD n own 4 0
theorem yc (n:bT)(own:List Nat)(b p:Nat):(rD n own b p).length=8:=rfl
theorem Ut (n:bT)(own:List Nat):rD n own 0 0=po n::n.S::List.replicate 6 0:=by
 unfold rD Ap;simp[List.replicate]
theorem yV (E:List (ByteArray×Int))(own:List Nat)(b q:Nat):Ap E own b (dN E b) q=Ap E own (b+1) 0 q:=by
 unfold Ap;by_cases J:q<b
 ·rw[aB J,aB]
 ·rw[aA J]
  by_cases G:q=b
  ·subst G
   rw[aB (show q<q+1 by omega),hdD];by_cases z:0<dN E q
   ·rw[aB ⟨rfl,z⟩,aB z]
   ·rw[aA (λh=>z h.2),aA z]
  ·rw[aA (λh=>G h.1),aA,aA]
theorem Uu (n:bT)(own:List Nat)(b:Nat):rD n own b (dN n.E b)=rD n own (b+1) 0:=by
 unfold rD;rw[yV,yV,yV,yV]
theorem Uv (n:bT)(own:List Nat)(b p:Nat)(h:p≠0):rD n own b p=rD n own b (p+1):=by
 have :∀q,Ap n.E own b p q=Ap n.E own b (p+1) q:=λq=>by
  unfold Ap;have z:(q=b/\0<p)↔(q=b/\0<p+1):=by omega
  simp only[z]
 unfold rD;rw[this,this,this,this]
theorem XZ (n:bT)(own:List Nat)(b:Nat)(h:b<4):(rD n own b 0).set (2+b) ((own.getD (fN n.E b) 0:Nat):Int)=rD n own b 1:=by
 rcases (show b=0\/b=1\/b=2\/b=3 by omega) with rfl|rfl|rfl|rfl<;>simp[rD,Ap]
structure CI (E:List (ByteArray×Int)) (own:List Nat) (b:Nat) (pre:List Nat) (C:List Int):Prop where
 len:C.length=8*own.length
 done:∀b',b'<b->∀j,j<dN E b'->∀i,i<8->C.getD (8*(fN E b'+j)+i) 0=(XY E own b' j).getD i 0
 part:∀j,j<pre.length->∀i,i<8->C.getD (8*(fN E b+j)+i) 0=(zD (eQ (yU (eB E b) (pre.getD j 0))) (if j+1<pre.length then ((own.getD (fN E b+(j+1)) 0:Nat):Int) else 0)).getD i 0
 rest:∀i,8*(fN E b+pre.length)<=i->C.getD i 0=0
theorem CI.start(E:List (ByteArray×Int))(own:List Nat):CI E own 0 [] (List.replicate (8*own.length) 0):=
 ⟨by simp,λz h=>by omega,λj h=>by simp at h,λi _=>by
  rw[aj,bj];split<;>rfl⟩
theorem CI.next(h:CI E own b (List.range (dN E b)) C):CI E own (b+1) [] C:=by
 have J:(List.range (dN E b)).length=dN E b:=fK;refine⟨h.len,λU V j z i G=> ?_,λj z=>by simp at z,λi G=> ?_⟩
 ·by_cases e:U=b
  ·subst e
   have :=h.part j (by rw[J];exact z) i G;rw[J,show(List.range (dN E U)).getD j 0=j by simp[z]] at this;exact this
  ·exact h.done U (by omega) j z i G
 ·refine h.rest i ?_
  rw[J];simpa[fN] using G
def Gs (C:List Int) (a:Nat) (ws:List Int):List Int:=C.take a++ws++C.drop (a+ws.length)
theorem Uw (h:a+ws.length<=C.length):(Gs C a ws).length=C.length:=by simp[Gs];omega
theorem vk (h:a+ws.length<=C.length)(i:Nat):(Gs C a ws).getD i 0=if a<=i/\i<a+ws.length then ws.getD (i-a) 0 else C.getD i 0:=by
 have z:(C.take a).length=a:=by rw[aJ];omega
 unfold Gs;simp only[aj];by_cases J:i<a
 ·rw[aA,aV,ba (by rw[z];exact J),ij J]
 ·by_cases G:i<a+ws.length
  ·rw[aB ⟨by omega,G⟩,ba (by rw[aC,z];exact G),aR (by rw[z];omega),z]
  ·rw[aA,aR (by rw[aC,z];omega),aC,z,b8,show a+ws.length+(i-(a+ws.length))=i by omega]
theorem X0 (C:List Int)(k:Nat)(x:Int)(z:k<C.length)(i:Nat):(C.set k x).getD i 0=if i=k then x else C.getD i 0:=by
 simp only[aj,eT];by_cases h:k=i
 ·subst h;simp[z]
 ·rw[aA h,aA (λe=>h e.symm)]
theorem CI.step{z:List Nat}{C1:List Int}(h:CI E own b z C)(x f:Nat)(hf:f=fN E b+z.length)(ac:f<own.length)
  (h1:C1=if z.length=0 then C else C.set (8*(f-1)) ((own.getD f 0:Nat):Int)):CI E own b (z++[x]) (Gs C1 (8*f+1) (eQ (yU (eB E b) x))):=by
 have hw:(eQ (yU (eB E b) x)).length<=6:=by rw[lf,nU];omega
 have Cr:C1.length=8*own.length:=by rw[h1];split<;>simp[h.len]
 have J:∀i,C1.getD i 0=if z.length≠0/\i=8*(f-1) then ((own.getD f 0:Nat):Int) else C.getD i 0:=λi=>by
  rw[h1];by_cases h0:z.length=0
  ·rw[aB h0,aA (λe=>e.1 h0)]
  ·rw[aA h0,X0 _ _ _ (by rw[h.len];omega)]
   by_cases U:i=8*(f-1)
   ·rw[aB U,aB ⟨h0,U⟩]
   ·rw[aA U,aA (λe=>U e.2)]
 have G:8*f+1+(eQ (yU (eB E b) x)).length<=C1.length:=by rw[Cr];omega
 have V:(z++[x]).length=z.length+1:=by simp
 have aa:∀W,W<b->∀j,j<dN E W->fN E W+j<fN E b:=λW hb j hj=>by
  have :=vg E (show W+1<=b from hb);rw[fN] at this;omega
 refine⟨by rw[Uw G,Cr],λW hb j hj i U=> ?_,λj hj i U=> ?_,λi U=> ?_⟩
 ·have :=aa W hb j hj
  rw[vk G,aA,J,aA];exact h.done W hb j hj i U
 ·rw[V] at hj ⊢
  by_cases e:j=z.length
  ·subst e
   have hx:(z++[x]).getD z.length 0=x:=by simp
   rw[hx,aA,<-hf];cases i with
   |zero=>
    rw[vk G,aA,J,aA,h.rest _ (by omega)];rfl
   |succ i=>
    rw[oZ,vk G];by_cases ae:i<(eQ (yU (eB E b) x)).length
    ·rw[aB,show 8*f+(i+1)-(8*f+1)=i by omega]
    ·rw[aA,J,aA,h.rest _ (by omega),aj,aP (by omega)]
     rfl
  ·have WO:j<z.length:=by omega
   have hx:(z++[x]).getD j 0=z.getD j 0:=by simp only[aj];rw[ba WO]
   rw[hx,aB,vk G,aA,J];have h2:=h.part j WO i U;cases i with
   |zero=>
    by_cases e2:j+1=z.length
    ·rw[aB ⟨by omega,by omega⟩,hf,<-e2]
     rfl
    ·rw[aA,h2,aB]
   |succ i=>
    rw[aA,h2,oZ,oZ]
 ·rw[V] at U
  rw[vk G,aA,J,aA];exact h.rest i (by omega)
theorem CI.breads(h:CI E own 4 [] C)(hm:fN E 4=own.length){W:World}{g cap T:Nat}(z:own.length<=cap)(J:cap<=maxLen)(hb:bh W g (aY C).toArray T):
  pL W (.slice g own.length cap) g (yb E own 4):=by
 have U:(yb E own 4).length=own.length:=by rw[o5,hm]
 refine⟨some ⟨g,0,none⟩,cap,by rw[U],by rw[U];exact z,J,λ_=>⟨hb.lt,0,rfl,λk hk j hj=> ?_⟩⟩;rw[U,<-hm] at hk;obtain⟨V,i,G,hi,rfl⟩:=vh E hk;rw[sx E own hi G,<-h.done V G i hi j hj,hb.cell,aF,show 0+(fN E V+i)*8+j=8*(fN E V+i)+j by omega,dO];rw[h.len,<-hm];omega
end
section
variable{w w':World}{T a b g:Nat}{C l ws:List Int}{v:Value}{P:Program}{E:List (ByteArray×Int)}{own:List Nat}
section
variable {P:Program} {ops:Array Oper} {Q:Exit->Act->World->Prop} {md:Region.Mode}
def sY (h:Array Bool):List Nat->Array Bool
 | []=>h
 |i::is=>sY (h.setIfInBounds i true) is
end
end
end Go.Proofs.YtepbpdipenedhaaGreatDoor
