/- Lemmas. -/
import Derived.Test.YtimcfdnbpkiniaaGreatDoorM06
set_option maxHeartbeats 8000000
set_option maxRecDepth 100000
namespace Go.Proofs.YtimcfdnbpkiniaaGreatDoor
open Go.Proofs.Tryz
section
open Go.RowKit
variable{w w':World}{T a b g:Nat}{C l ws:List Int}{v:Value}{P:Program}{E:List (ByteArray×Int)}{own:List Nat}
theorem Uo (b c:Nat)(z:c<=8)(w:World):(Instr.sliceAt 132 (.pointer (some ⟨b,0,none⟩)) none (some (.int .i64 (c:Int))) none).run prog w= .ok (.slice b c 8) w:=by
 have h:c=0\/c=1\/c=2\/c=3\/c=4\/c=5\/c=6\/c=7\/c=8:=by omega
 rcases h with rfl|rfl|rfl|rfl|rfl|rfl|rfl|rfl|rfl
 all_goals (show Sem.run _ _ _=_;kernel_rfl)
theorem bh.reads{o n c:Nat}(h:bh w b (aY l).toArray T)(U:o+n<=l.length)(J:n<=c)(V:c<=1000):Reads w (.slice (some ⟨b,o,none⟩) n c) b (aY ((l.drop o).take n)):=by
 have z:(aY ((l.drop o).take n)).length=n:=by rw[bB,aJ,bM];omega
 refine⟨_,c,by rw[z],by rw[z];exact J,by unfold maxLen;omega,λ_=>⟨h.lt,o,rfl,λj G=> ?_⟩⟩;rw[z] at G;rw[h.cell,aF,dF (by omega),dF (by rw[aJ,bM];omega)];simp[G]
theorem ay.grown2{wr h:World}{row:Option Nat}(G:ay [] w wr)(z:wr.grownBy h row)(J:∀k,row=some k->w.heap.size<=k):ay [] w h:=G.grown z J
def pJ (w:World) (X l:List Int) (m:Nat) (e:Ending) (w':World):Prop:=
 ∃v E ok g,e= .returned (.tuple #[v,.bool ok])/\bD w' v g E/\w.heap.size<=g/\(ok=true->pI X l m/\E=sS X l m)/\(ok=false->¬pI X l m/\E=[])/\ay [] w w'
theorem pJ.no{X:List Int}{m:Nat}(h:¬pI X l m)(z:ay [] w w'):pJ w X l m (.returned (.tuple #[(),false])) w':=
 ⟨_,[],false,w.heap.size,rfl,bD.nil _ _,aH _,λh=>(by cases h),λ_=>⟨h,rfl⟩,z⟩
theorem Lc{gp:Nat}{B:List Int}{ps:List (Int×Int)}(h:eK w b gp B ps)(aO:In64 (az B ps))(l:List Int)(hl:l.length=13)(SC:∀k,0<=l.getD k 0/\l.getD k 0<256)(m:Nat)(hm:m<=832):
  Calls prog 178 #[b,(zs l).toArray,(m:Int)] w (pJ w (az B ps) l m):=by
 obtain⟨HS,uQ⟩:=hh2 h aO;have ak:=bh.new w (zs l).toArray 73;have p9:=ar ak;have fJ:Hid (ay [] w (w.alloc (.cells (zs l).toArray 73))):=(ay.refl _ _).alloc _;have aL:=Bo m 4 (by omega) (by omega) (by omega);rw[show(m+4-1)/4=bp m by unfold bp;congr 1] at aL;have HP:=ar aL;have DY:bp m<=300:=by unfold bp;omega
 have mY:Hid (∀z,ay [] (w.alloc (.cells (zs l).toArray 73)) z->(loadVar 73 w.heap.size).run prog z= .ok (.agg (zs l).toArray) z):=λz hk=>
  fA (off:=0) (ak.keep hk (by simp)) hl (λk hk=>by rw[bc,aF,gK (by omega)])
 have XW:Hid (∀z k,k<13->ay [] (w.alloc (.cells (zs l).toArray 73)) z->z.cell? ⟨w.heap.size,k,none⟩=some (.int .i64 (l.getD k 0))):=λz k hk fV=>by
  rw[(ak.keep fV (by simp)).cell,aF,gK (by omega)]
 obtain⟨bI,HL⟩:=hh2 SC hl;clear h aO ak aL SC;generalize hz:(zs l).toArray=Z at *;have HZ:=ar hz;clear hz;by_cases PC:24<m
 ·have HN:Hid (¬pI (az B ps) l m):=λh=>by have :=h.1;omega
  have cD:(24:Int)<(m:Int):=by omega
  generalize bp m=W at *;clear hl;go_in;go_wp2_with fail;refine C' (HP.out _) ?_;go_wp2_with fail;have av:decide (24<m)=true:=bu PC;refine ju (S:=λz=>z=(w.alloc (.cells Z 73)).drew) rfl ?_;repeat (
   (first
   |(refine aU.cons undef (bR.off rfl) ?_)
   |(refine aU.cons (.bool true) (bR.val rfl ?h) ?_;(case h=>(intro z G;clear G;first|(go_simp;done)|(go_simp;simp[av];done))))
   |(refine aU.cons ?_ (bR.val rfl ?h) ?_;(case h=>(intro z G;go_simp;rfl))));simp only[Act.put,ag,ah,ai])
  refine aU.done λz G=> ?_
  subst G;go_wp2_with fail;go_ret2;exact pJ.no HN.out fJ.out.drew
 ·have av:decide (24<m)=false:=aQ PC
  have cv:¬(24:Int)<(m:Int):=by omega
  have Qr:bp m<=13:=by unfold bp;omega
  obtain⟨HU,IK⟩:=hh2 (Su l (bp m) hl Qr) (λz=>P9 (a:=l) (b:=jh l (bp m)) hl (nQ hl Qr) z);rw[HZ.out] at HU IK;have cg:=CF;obtain⟨t,ht⟩:∃t,decide (l=jh l (bp m))=t:=⟨_,rfl⟩;rw[ht] at IK;have bY:=IK.out;generalize (zs (jh l (bp m))).toArray=ZU at *;clear IK;cases t
  ·have HN:Hid (¬pI (az B ps) l m):=λh=>of_decide_eq_false ht h.2.1
   clear ht hl HL bI;generalize bp m=W at *;go_in;go_wp2_with fail;refine C' (HP.out _) ?_;go_wp2_with fail;refine ju (S:=λz=>ay [] (w.alloc (.cells Z 73)) z) ((ay.refl _ _).drew) ?_;repeat (
    (first
    |(refine aU.cons (.agg Z) (bR.load rfl 73 (.tmp 4) rfl _ rfl λz G=>mY.out z G) ?_)
    |(refine aU.cons (.agg ZU) (bR.call rfl 173 #[Z,(W:Int)] ?he ?h) ?_;(case he=>(intro wz;go_simp));(case h=>exact λz G=>(HU.out z).mono λe w' he=>⟨he.1,G.trans' he.2⟩))
    |(refine aU.cons (.bool false) (bR.val rfl ?h) ?_;(case h=>(intro z G;clear G;first|(go_simp;done)|(go_simp;simp[av];done))))
    |(refine aU.cons ?_ (bR.val rfl ?h) ?_;(case h=>(intro z G;clear G;go_simp;rfl))));simp only[Act.put,ag,ah,ai])
   refine aU.done λz G=> ?_
   have uf:=ar (fJ.out.trans' G);clear G;go_wp2_with fail;go_ret2;exact pJ.no HN.out uf.out
  ·have bl:=of_decide_eq_true ht
   have bN:=ar bl;clear bl;have cd:=λz=>MV w.heap.size (bp m) Qr z
   clear ht hl;generalize bA:bp m=W at *;have ax:=ar bA;clear bA;go_in;go_wp2_with fail;refine C' (HP.out _) ?_;go_wp2_with fail;refine ju (S:=λz=>ay [] (w.alloc (.cells Z 73)) z) ((ay.refl _ _).drew) ?_;repeat (
    (first
    |(refine aU.cons (.agg Z) (bR.load rfl 73 (.tmp 4) rfl _ rfl λz G=>mY.out z G) ?_)
    |(refine aU.cons (.agg ZU) (bR.call rfl 173 #[Z,(W:Int)] ?he ?h) ?_;(case he=>(intro wz;go_simp));(case h=>exact λz G=>(HU.out z).mono λe w' he=>⟨he.1,G.trans' he.2⟩))
    |(refine aU.cons (.bool false) (bR.val rfl ?h) ?_;(case h=>(intro z G;clear G;first|(go_simp;done)|(go_simp;simp[av];done))))
    |(refine aU.cons ?_ (bR.val rfl ?h) ?_;(case h=>(intro z G;clear G;go_simp;rfl))));simp only[Act.put,ag,ah,ai])
   refine aU.done λw1 G=> ?_
   have jH:=ar G;clear G;obtain⟨E,hE⟩:∃E,E=sS (az B ps) l m:=⟨_,rfl⟩;have HE:=ar hE;have ba:E.length=m:=by rw[hE];exact qw _ _ _
   have JL:=ar ba;have aX:Hid (∀e,e<m->eX E e=xp ((kI (Bq (az B ps) l e)).getD [])/\jm E e=zC (az B ps) l e):=λe he=>by rw[hE];exact CN _ _ _ _ he
   have bg:m<=4*W/\∀k,k<W->4*k<m:=by
    have hc:=ax.out;unfold bp at hc;exact⟨by omega,λk hk=>by omega⟩
   have aZ:=ar bg;clear hE ba bg;obtain⟨i0,hi,cm,bS,cp⟩:=df Tryz.info_entry;have HI:=ar hi;have cu:=lq;clear hi;go_wp2_with fail;clear cd bY cg;go_loopg [9,29] W (λgh s9 s29 z=>∃k:Nat,k+gh=W/\s29= .int .i64 (k:Int)/\Hid (z.ownsRow (w.heap.size+1) 99 2 s9 (min m (4*k)) (fe (E.take (4*k)))/\(∀i,i<k->JR (az B ps) l m i)/\ay [] (w.alloc (.cells Z 73)) z))
   case atStart=>exact⟨0,by omega,rfl,⟨by simp[fe],.inl ⟨rfl,by simp⟩⟩,by simp,jH.out⟩
   case round=>
    clear jH;obtain⟨k,hk,rfl,HP⟩:=hrel;obtain⟨J,ac,fV⟩:=HP.out;cases gk with
    |zero=>
     obtain rfl:k=W:=by omega
     have mn:Hid (pJ w (az B ps) l m (.returned (.tuple #[u9,true])) wr):=by
      have h1:=aZ.out.1;rw[cT h1,aW (by rw[JL.out];exact h1)] at J;obtain⟨g,ho,hg⟩:=eZ.of_row J;obtain⟨g2,bL,bT⟩:∃g2,w.heap.size<=g2/\bD wr u9 g2 E:=by
       by_cases h0:m=0
       ·exact⟨w.heap.size,aH _,(ho.ereads JL.out.symm).anyG (by rw[JL.out,h0]) _⟩
       ·exact⟨g,by have :=(hg h0).1;omega,ho.ereads JL.out.symm⟩
      exact⟨u9,E,true,g2,rfl,bT,bL,λ_=>⟨⟨by omega,by rw[ax.out];exact bN.out,by rw[ax.out];exact ac⟩,HE.out⟩,λh=>(by cases h),fJ.out.trans' fV⟩
     clear HP J ac fV hk;go_wp2_with fail;go_ret2;exact mn.out
    |succ gg=>
     have bE:k<W:=by omega
     have cH:(k:Int)<(W:Int):=by omega
     have cM:(0:Int)<=(k:Int):=by omega
     have ck:=aZ.out.2 k bE;have aN:=XW.out wr k (by omega) fV;have cj:=bI.out k;have PD:Hid (¬JR (az B ps) l m k->¬pI (az B ps) l m):=λh hh=>h (hh.2.2 k (by rw[ax.out];exact bE))
     have Nl:Hid (JR (az B ps) l m k↔l.getD k 0≠0/\(∀j,j<min 4 (m-4*k)->(kI (Bq (az B ps) l (4*k+j))).isSome=true/\zC (az B ps) l (4*k+j)<32)/\jk E k=eo (az B ps) (1080+8*(l.getD k 0).toNat)):=by
      have e:=HE.out;show _↔_;rw[e];exact Iff.rfl
     obtain⟨xo,jr⟩:=hh2 ac fV;have PE:Hid (∀j,j<4->x8 l (4*k+j)=1080+8*(l.getD k 0).toNat+2*j):=λj U=>Um l k j U
     obtain⟨q,hq⟩:∃q:Nat,l.getD k 0=(q:Int):=⟨(l.getD k 0).toNat,by omega⟩;rw[hq] at aN Nl PE cj;rw[aG] at Nl PE;rw[Nat.min_eq_right (by omega)] at J;have ae:=ar J;clear HP J ac fV hq;by_cases bP:q=0
     ·subst bP
      have HN:Hid (¬pI (az B ps) l m):=PD.out λh=>(Nl.out.1 h).1 rfl
      have uf:=ar (fJ.out.trans' jr.out);clear Nl PE PD hk;go_wp2_with fail;go_ret2;exact pJ.no HN.out uf.out
     ·have e0:((q:Int)==0)=false:=cL.2 (by omega)
      have af:=kv (q:Int) wr;rw[show iN (q:Int)=((1080+8*q:Nat):Int) by unfold iN;rw[aA];omega] at af;obtain⟨XU,nt⟩:=hh2 af (pH (HS.out.keep (fJ.out.trans' jr.out) (by simp) (by simp)) (1080+8*q) (by omega));obtain⟨r,hr⟩:∃r,r=eo (az B ps) (1080+8*q):=⟨_,rfl⟩;rw[<-hr] at nt Nl;have cn:=ar hr;have xG:r.length=8:=by rw[hr];exact iF _ _
      have bt:Hid (∀j,j<4->r.getD (j*2) 0=((Bq (az B ps) l (4*k+j):Nat):Int)/\r.getD (j*2+1) 0=zC (az B ps) l (4*k+j)):=λj U=>by
       have bZ:=PE.out j U;rw[hr,kD _ _ _ (by omega),kD _ _ _ (by omega)];unfold Bq zC;rw[bZ];have aO:=uQ.out (1080+8*q+2*j);rw[show 1080+8*q+j*2=1080+8*q+2*j by omega,show 1080+8*q+(j*2+1)=1080+8*q+2*j+1 by omega];exact⟨by omega,rfl⟩
      have Gq:=ar xG;have ct:Hid (∀j,j<4->0<=zC (az B ps) l (4*k+j)):=λj U=>by
       have :=(uQ.out (x8 l (4*k+j)+1)).1;exact this
      clear hr xG PE af;generalize hp:((1080+8*q:Nat):Int)=p at *;clear hp;obtain⟨c,hc⟩:∃c,c=min 4 (m-4*k):=⟨_,rfl⟩;have HC:=ar hc;have cB:c<=4:=by omega
      have cw:4*k+c<=m:=by omega
      have bf:(m:Int)-(k:Int)*4=((m-4*k:Nat):Int):=by omega
      obtain⟨d,hd⟩:∃d,d=m-4*k:=⟨_,rfl⟩;rw[<-hd] at bf hc;have cr:((4:Int)<=(d:Int)/\c=4)\/((d:Int)<4/\c=d):=by omega
      clear hc hd;have cJ:w.heap.size+1<=wr.heap.size:=by have :=jr.out.size;simpa using this
      go_wp2_with fail;refine C' XU.out ?_;go_wp2_with fail;refine Rr nt.out λw3 aD=> ?_;obtain⟨w5,bF,rT,lh⟩:=bG (P:= prog) (ty:= 132) (cs:=aY r) (by rw[bB,Gq.out];exact ja) (bh.new w3 (aY (List.replicate 8 0)).toArray 132) (by simp[bB,Gq.out]) (fk _);have cE:=aD.size;obtain⟨bW,Uq⟩:=hh2 bF rT;have qU:Hid (ay [] wr w5):=((aD.alloc (.cells (aY (List.replicate 8 0)).toArray 132)).trans lh (by intro x G;rw[au] at G;omega));clear bF rT lh aD XU nt;have nK:Hid (ay [] (w.alloc (.cells Z 73)) w5):=jr.out.trans' qU.out;have bC:Hid (∀g,u9.ownBlock=some g->g≠w3.heap.size):=λg hg=>by
       obtain⟨-,h1⟩:=ae.out;rcases h1 with ⟨hv,-⟩|⟨g2,cap,cF,hv,-,hh,-⟩
       ·rw[hv] at hg;cases hg
       ·rw[hv] at hg
        cases hg;have :=(Array.getElem?_eq_some_iff.1 hh).1;show g2≠w3.heap.size;omega
      have bw:Hid (w5.ownsRow (w.heap.size+1) 99 2 u9 (4*k+0) (fe (E.take (4*k+0)))):=eu ae.out qU.out (by simp);have cC:w.heap.size+1<=w3.heap.size:=by omega
      obtain⟨V,bn⟩:∃V,V=2*c:=⟨_,rfl⟩;have XX:Hid (∀j,j<c->(r.take V).getD (j*2) 0=((Bq (az B ps) l (4*k+j):Nat):Int)/\(r.take V).getD (j*2+1) 0=zC (az B ps) l (4*k+j)):=λj U=>by
       have e0:(r.take V).getD (j*2) 0=r.getD (j*2) 0:=by simp[show j*2<V by omega]
       have e1:(r.take V).getD (j*2+1) 0=r.getD (j*2+1) 0:=by simp[show j*2+1<V by omega]
       rw[e0,e1];exact bt.out j (by omega)
      have bH:Hid (qL (r.take V) c↔∀j,j<c->(kI (Bq (az B ps) l (4*k+j))).isSome=true/\zC (az B ps) l (4*k+j)<32):=by
       constructor
       ·intro h j U
        have :=h j U;rw[(XX.out j U).1,(XX.out j U).2,aG] at this;exact this
       ·intro h j U
        rw[(XX.out j U).1,(XX.out j U).2,aG];exact h j U
      have bX:Hid (E.take (4*k+c)=E.take (4*k)++mJ (r.take V) c):=by
       show _=_;rw[List.take_add]
       congr 1
       have Cx:((E.drop (4*k)).take c).length=c:=by rw[aJ,bM,JL.out];omega
       refine Xz (by rw[Cx,kf]) λj U=> ?_
       rw[Cx] at U;rw[(Bp E (4*k) c j U).1,(Bp E (4*k) c j U).2,(CJ _ _ _ U).1,(CJ _ _ _ U).2,(XX.out j U).1,(XX.out j U).2,aG];exact aX.out _ (by omega)
      have zD:Hid (∀j,0<=(r.take V).getD j 0/\(r.take V).getD j 0<18446744073709551616):=λj=>by
       by_cases U:j<V
       ·have e0:(r.take V).getD j 0=r.getD j 0:=by simp[U]
        rw[e0,cn.out];by_cases b6:j<8
        ·rw[kD _ _ _ b6];exact uQ.out _
        ·rw[aj,aP (by rw[iF];omega)]
         simp
       ·rw[aj,aP (by rw[aJ];omega)]
        simp
      have bb:Reads w5 (.slice w3.heap.size V 8) w3.heap.size (aY (r.take V)):=by
       have :=Uq.out.reads (o:=0) (n:=V) (c:=8) (by rw[Gq.out];omega) (by omega) (by omega);rwa[List.drop_zero] at this
      have aS:=ar (xf bb (by rw[aJ,Gq.out];omega) c (by rw[aJ,Gq.out];omega) zD.out);have aT:Hid (∀x:Int,x=(V:Int)->∀z,(Instr.sliceAt 132 (.pointer (some ⟨w3.heap.size,0,none⟩)) none (some (.int .i64 x)) none).run prog z= .ok (.slice w3.heap.size V 8) z):=λx G z=>by
       rw[G];exact Uo _ _ (by omega) z
      have cI:1<=c:=by have :=HC.out;omega
      clear bb bt XX zD;have Qs:=ar bn;clear bn;rcases cr with ⟨bU,aC⟩|⟨bU,aC⟩
      have Ur:min (4:Int) (d:Int)=4:=by omega
      have Mg:=aT.out 8 (by have :=Qs.out;omega)
      rotate_left
      have Ur:min (4:Int) (d:Int)=(d:Int):=by omega
      have cx:2*(d:Int)=(V:Int):=by have :=Qs.out;omega
      have Mg:=aT.out (V:Int) rfl;all_goals
       have cz:=ar aC;clear aC aT;go_wp2_with(with_reducible refine gS 132 bW.out ?_);refine aS.out.mono ?_;rintro e w6 aV;rcases aV with ⟨g7,rfl,bk,bJ,bo,jv⟩|⟨rfl,bq,jv⟩
       ·have aR:=bH.out.1 bo
        obtain⟨aM,uB,aB⟩:=hh3 (eu bw.out jv (by simp)) (qU.out.trans' jv) (Uq.out.keep jv (by simp));have bO:Hid (∀j u,(fe (mJ (r.take V) c))[j]? =some u->w6.cell? ((⟨g7,0,none⟩:Addr).add j)=some u):=λj u hu=>by
         obtain⟨-,-,bz,-⟩:=bk.cell (by omega);have U:=(List.getElem?_eq_some_iff.1 hu).1;rw[lT,kf] at U;rw[add_plain,bc,bz j U];exact hu
        have Sj:Hid ((fe (mJ (r.take V) c)).length=c*2):=by show _=_;rw[lT,kf]
        have bK:w.heap.size+1<=w6.heap.size:=by have :=uB.out.size;omega
        have hi:=HI.out;clear Mg bk bJ bo jv aS;go_wp2_with(at_builtin;refine eU _ rfl _ _ 30 rfl (w.heap.size+1) 99 i0 (.agg #[.string ⟨#[]⟩,(0:Int)]) 2 24 underlying30 hi cm bS cp rfl (by decide) u9 (4*k+0) _ rfl aM.out ⟨g7,0,none⟩ c c (fe (mJ (r.take V) c)) rfl Sj.out bO.out (Ak _) (by unfold maxLen;omega) (by omega) bK ?_);intro v9 w7 br aa _;have J:w7.ownsRow (w.heap.size+1) 99 2 v9 (4*k+c) (fe (E.take (4*k+c))):=by
         rw[bX.out,qJ];exact br
        have bj:bh w7 w3.heap.size (aY r).toArray 132 :=(aa.block _ aB.out.lt (λe=>bC.out _ e.symm rfl)).trans aB.out;have fV:ay [] (w.alloc (.cells Z 73)) w7:=(jr.out.trans' uB.out).grown2 aa λg hg=>by have :=dQ aM.out g hg;simpa using this
        clear br aa aM uB aB nK qU bw bC Uq jr ae hi;obtain⟨g0,bv,cf⟩:=eZ.of_row J;have rz:=ar (bv.ereads (by rw[aJ,JL.out];omega));have b7:Hid (xZ (E.take (4*k+c))):=by
         have b9:∀e,e<4*k+c->0<=zC (az B ps) l e/\zC (az B ps) l e<32:=λe he=>by
          have h0:0<=zC (az B ps) l e:=(uQ.out (x8 l e+1)).1;refine⟨h0,?_⟩;by_cases cy:e<4*k
          ·have :=((xo.out (e/4) (by omega)).2.1 (e%4) (by omega)).2
           rw[show 4*(e/4)+e%4=e by omega] at this;exact this
          ·have :=(aR (e-4*k) (by omega)).2
           rw[show 4*k+(e-4*k)=e by omega] at this;exact this
         refine⟨by rw[aJ,JL.out];omega,λe he=> ?_,λe he=> ?_⟩
         ·rw[aJ,JL.out] at he
          rw[(Gj E (4*k+c) e (by omega)).1,(aX.out e (by omega)).1];have :=CO (Bq (az B ps) l e);omega
         ·rw[aJ,JL.out] at he
          rw[(Gj E (4*k+c) e (by omega)).2,(aX.out e (by omega)).2];have :=b9 e (by omega);omega
        have bQ:Hid (∀z,ay [] w7 z->Calls prog 183 #[v9,(k:Int)] z λe w'=>e=(aY (jk E k)).toArray/\ay [] z w'):=λz aI=>by
         have :=D7 (rz.out.keep aI (by simp)) b7.out k (by rw[aJ,JL.out];omega);rw[Ni E k c (by rw[HC.out,JL.out]) (by rw[JL.out];exact ck)] at this;exact this
        have SD:Hid (∀z,ay [] w7 z->(loadVar 132 w3.heap.size).run prog z= .ok (.agg (aY r).toArray) z):=λz aI=>fN (bj.keep aI (by simp)) Gq.out
        have Qq:=ar (λz=>MS (a:=jk E k) (b:=r) (mW _ _ _) Gq.out z);have cG:=xW;obtain⟨jr,ae⟩:=hh2 fV J;obtain⟨t2,aK⟩:∃t2,decide (jk E k=r)=t2:=⟨_,rfl⟩;rw[aK] at Qq;have cA:=Qq.out;have D8:Hid (JR (az B ps) l m k↔t2=true):=by
         show _↔_;rw[Nl.out,<-aK,decide_eq_true_iff];refine⟨λh=>h.2.2,λh=>⟨by omega,λi hi=>aR i ?_,h⟩⟩;have :=HC.out;omega
        clear J aR bj fV bv cf aK Qq;generalize (aY (jk E k)).toArray=ZQ,(aY r).toArray=ZP at *;cases t2;all_goals
         go_wp2_with fail;refine ju (S:=λz=>ay [] w7 z) ((ay.refl _ _).drew) ?_;repeat (
          (first
          |(refine aU.cons (.agg ZP) (bR.load rfl 132 (.tmp 12) rfl _ rfl λz G=>SD.out z G) ?_)
          |(refine aU.cons (.agg ZQ) (bR.call rfl 183 #[v9,(k:Int)] ?he ?h) ?_;(case he=>(intro wz;go_simp));(case h=>exact λz G=>(bQ.out z G).mono λe w' he=>⟨he.1,G.trans' he.2⟩))
          |(refine aU.cons ?_ (bR.val rfl ?h) ?_;(case h=>(intro z G;clear G;go_simp;rfl))));simp only[Act.put,ag,ah,ai])
         refine aU.done λwz G=> ?_
         have EM:=ar G;clear G
        ·have HN:Hid (¬pI (az B ps) l m):=PD.out λh=>by have :=D8.out.1 h;cases this
         have uf:=ar (fJ.out.trans' (jr.out.trans' EM.out));go_wp2_with fail;go_ret2;exact pJ.no HN.out uf.out
        ·have bV:Hid (wz.ownsRow (w.heap.size+1) 99 2 v9 (min m (4*(k+1))) (fe (E.take (4*(k+1))))/\(∀i,i<k+1->JR (az B ps) l m i)/\ay [] (w.alloc (.cells Z 73)) wz):=by
          refine⟨?_,λi hi=> ?_,jr.out.trans' EM.out⟩
          ·have h1:=eu ae.out EM.out (by simp)
           have bz:=HC.out;rw[show min m (4*(k+1))=4*k+c by omega];have e:E.take (4*(k+1))=E.take (4*k+c):=by
            by_cases h4:c=4
            ·rw[h4,Nat.mul_add]
            ·rw[aW (by rw[JL.out];omega),aW (by rw[JL.out];omega)]
           rw[e];exact h1
          ·by_cases e:i=k
           ·subst e;exact D8.out.2 (by simp)
           ·exact xo.out i (by omega)
         go_wp2_with fail;go_roundg gg;case measure=>omega
         case rel=>exact⟨k+1,by omega,by go_num,bV.out⟩
       ·have HN:Hid (¬pI (az B ps) l m):=PD.out λh=>bq (bH.out.2 λj U=>(Nl.out.1 h).2.1 j (by have :=HC.out;omega))
        have uf:=ar (fJ.out.trans' ((jr.out.trans' qU.out).trans' jv));clear bq jv aS;go_wp2_with fail;go_ret2;exact pJ.no HN.out uf.out
def pK (w:World) (v:Value) (g:Nat) (Ls:List (List Int)):Prop:=
 ∃a cap,v= .slice a Ls.length cap/\Ls.length<=cap/\cap<=maxLen/\(Ls.length≠0->g<w.heap.size/\∃off,a=some ⟨g,off,none⟩/\∀k,k<Ls.length->∀j,j<8->w.cell? ⟨g,off+k*8+j,none⟩=some (.int .u64 ((Ls.getD k []).getD j 0)))
theorem pK.keep{Ls:List (List Int)}(h:pK w v g Ls){l:List Nat}(J:ay l w w')(hg:Ls.length≠0->g∉l):pK w' v g Ls:=by
 obtain⟨a,cap,V,h2,h3,W⟩:=h;refine⟨a,cap,V,h2,h3,λU=> ?_⟩;obtain⟨z,off,h5,h6⟩:=W U;refine⟨bS z J.size,off,h5,λk G j hj=> ?_⟩;exact(aO (w:=w) (w':=w') (a:=⟨g,off+k*8+j,none⟩) (J.block g z (hg U))).trans (h6 k G j hj)
theorem pK.nil(w:World)(g:Nat):pK w (.slice none 0 0) g []:=⟨none,0,rfl,by simp,by simp[maxLen],λh=>absurd rfl h⟩
def np (n:bT) (own:List Nat):List Int:=
 if (fw n.B).length<=6 then pn n::n.S::(fw n.B++List.replicate (6-(fw n.B).length) 0) else pn n::n.S::((fw n.B).take 5++[9223372036854775808+((own.getD 0 0:Nat):Int)])
def kx (n:bT):List (List Int):=
 if (fw n.B).length<=6 then [] else [(fw n.B).drop 5++List.replicate (13-(fw n.B).length) 0]
def pL (w:World) (R:List Int) (z:List (List Int)) (e:Ending) (w':World):Prop:=
 ∃h gb,e= .returned (.tuple #[(aY R).toArray,h])/\pK w' h gb z/\w.heap.size<=gb/\ay [] w w'
theorem eG{fn:Func}{tmps:Array Value}{t:Nat}{z:Addr}{x:Value}(h:fn.results= #[.cell a t,.tmp b])(G:tmps.getD a undef= .pointer (some z))(U:(loadVar t z).run P w= .ok v w)
  (J:tmps.getD b undef=x):(results fn tmps).run P w= .ok (.tuple #[v,x]) w:=by
 rw[fg] at G J;unfold results;rw[h];simp[G,vY,U,J]
theorem pM{z:Array Oper}{o:Oper}{a:Act}{K:Act->World->Prop}{Q:Exit->Act->World->Prop}{E:Prop}(G:o.guard=none)(ty:TypeId)(x y:Operand)(V:o.op= .store ty x y)(J:Addr)
  (hx:a.eval x= .pointer (some J)) (v:Value) (U:a.eval y=v) (w':World) (W:(storeVar ty J v).run P w= .ok () w') (h:K (a.put o.dst undef) w'):if Region.wanted o (yielded z a.tmps)=true then Oper.wp P o a w K Q else E:=by
 have hw:Region.wanted o (yielded z a.tmps)=true:=by simp[Region.wanted,G]
 rw[aB hw];unfold Oper.wp execOp;simp only[V,hx,U,Instr.storeAt,Instr.sureAddr,cr,fQ,cO,W];exact h
theorem Gr{L:List Int}{a0 V W z a4 U G J:Value}(hb:bh w b #[a0,V,W,z,a4,U,G,J] T)(hl:L.length=8)(h:aY L=[a0,V,W,z,a4,U,G,J]):pK w (.slice b 1 1) b [L]:=by
 refine⟨_,1,rfl,aH _,by unfold maxLen;omega,λ_=>⟨hb.lt,0,rfl,λk hk j hj=> ?_⟩⟩;have cM:k=0:=by
  have :k<1:=hk;omega
 subst cM;have e:(0+0*8+j:Nat)=j:=by omega
 rw[e,hb.cell];have h2:(#[a0,V,W,z,a4,U,G,J]:Array Value)=(aY L).toArray:=by rw[h]
 rw[h2,aF,dF (by omega)];rfl
theorem sU (b:Nat)(w:World):(Instr.sliceAt 132 (.pointer (some ⟨b,0,none⟩)) (some (.int .i64 2)) none none).run prog w= .ok (.slice (some ⟨b,2,none⟩) 6 6) w:=by show Sem.run _ _ _=_;kernel_rfl
theorem Gs (n:bT)(v:Value)(hB:n.B.length=13)(ht:zP n)(vo:Value)(own:List Nat)(h6:(fw n.B).length<=6):
  Calls prog 213 #[aM n v,vo] w (pL w (np n own) (kx n)):=by
 have ag:np n own=pn n::n.S::(fw n.B++List.replicate (6-(fw n.B).length) 0):=aB h6;have ae:kx n=[]:=aB h6;rw[ag,ae];obtain⟨HH,xq⟩:=hh2 (Fg n v hB ht) (λwx=>K0 n.B hB wx);obtain⟨W0,h⟩:∃W0,W0=(w.alloc (.cells (aM n v) 75)).alloc (.cells (aY (List.replicate 8 0)).toArray 132):=⟨_,rfl⟩;have V:bh W0 w.heap.size (aM n v) 75 :=by
  rw[h];exact(bh.new w _ _).alloc _
 have EN:Hid (bh W0 (w.heap.size+1) (aY (List.replicate 8 0)).toArray 132):=by
  have :=bh.new (w.alloc (.cells (aM n v) 75)) (aY (List.replicate 8 0)).toArray 132;have e:(w.alloc (.cells (aM n v) 75)).heap.size=w.heap.size+1:=by simp
  rw[e,<-h] at this;exact this
 have fJ:Hid (ay [] w W0):=by
  rw[h];exact((ay.refl [] w).alloc _).alloc _
 have uT:=ar (cg V hB);have rZ:Hid (∀wx,ay [] W0 wx->(loadVar 73 ⟨w.heap.size,4,none⟩).run prog wx= .ok (.agg (zs n.B).toArray) wx):=λwx hk=>fA (off:=4) (V.keep hk (by simp)) hB λk hk=>CE _ (by omega)
 have ax:=lq;have av:(fw n.B).length<=13:=mC n.B 13;have ry:=ar h;have M8:Hid (uU n=pn n::n.S::List.replicate 6 0):=rfl;have XY:=CH n;generalize pn n=t,n.S=s,uU n=H,fw n.B=R,(zs n.B).toArray=ZB,aM n v=Z at *;clear V h ag ae ht hB;generalize vZ:(aY (List.replicate 8 0)).toArray=Z8 at *;have xE:=ar vZ;clear vZ;go_in;go_wp2_with((with_reducible show wpList _ _ _ (⟨_,.load 75 (.tmp 2),_,_,_,_⟩::_) _ _);rw[<-ry.out];refine gJ rfl 75 (.tmp 2) rfl _ rfl _ uT.out ?_);refine Rr (HH.out _) λw1 G=> ?_;obtain⟨w2,af,tS,ac⟩:=bG (P:= prog) (ty:= 132) (cs:=aY H) (by rw[bB,XY];exact ja) (bh.new w1 Z8 132) (by rw[<-xE.out];simp[bB,XY]) (fk _);have uC:ay [] W0 w2:=(G.alloc (.cells Z8 132)).trans ac (by intro x hx;rw[au] at hx;have :=G.size;omega);have az:w.heap.size+1<w1.heap.size:=bS EN.out.lt G.size;obtain⟨ai,SE,fo,aj⟩:=hh4 af tS uC (rZ.out w2 uC);clear af tS ac uC G HH;generalize aC:w1.heap.size=g6 at *;go_wp2_with(with_reducible first|refine gS 132 ai.out ?_|refine gL 73 aj.out ?_);refine(xq.out _).mono ?_;rintro e w3 ⟨va,ga,rfl,JQ,xh,J⟩;obtain⟨vc,w4,zT,Gt,W⟩:=qu (o:=2) (n:=6) (cap:=6) (SE.out.keep J (by simp)) JQ h6 (by rw[XY];omega);obtain⟨aa,ca,rfl,-,-,-⟩:=fW JQ;have U:H.take 2++R++H.drop (2+R.length)=t::s::(R++List.replicate (6-R.length) 0):=by
  rw[M8.out,show 2+R.length=R.length+1+1 by omega,List.drop_succ_cons,List.drop_succ_cons,jB];rfl
 rw[U] at Gt;have z:(t::s::(R++List.replicate (6-R.length) 0)).length=8:=by simp;omega
 have Iy:=ar (fN Gt z);have qb:Hid (ay [] w w4):=((fJ.out.trans' fo.out).trans' J).trans W (by intro x hx;rw[au] at hx;omega);have ah:bh w4 (w.heap.size+1) Z8 132 :=(((EN.out.keep fo.out (by simp)).keep J (by simp)).keep W (by rw[au];omega));obtain⟨w5,hS,rT,lh⟩:=bG (P:= prog) (ty:= 132) (cs:=aY (t::s::(R++List.replicate (6-R.length) 0))) (by rw[bB,z];exact ja) ah (by rw[<-xE.out];simp[bB,z]) (fk _);obtain⟨HS,Iz⟩:=hh2 hS (fN rT z);have qU:Hid (ay [] w w5):=qb.out.trans lh (by intro x hx;rw[au] at hx;omega);have ak:=ar zT;have aA:=sU g6;have aD:(R.length:Int)<=6:=by omega
 clear JQ xh J zT Gt W U z ah hS rT lh XY;go_wp2_with(first|((with_reducible show wpList _ _ _ (⟨some 20,_,_,_,_,_⟩::_) _ _);refine jt rfl (.tmp 18) (.tmp 19) 65 65 rfl _ _ rfl rfl (ak.out _) ?_)|(with_reducible refine gL 132 Iy.out ?_)|(with_reducible refine gS 132 HS.out ?_));exact aI (eG results213 rfl Iz.out rfl) rfl ⟨_,w.heap.size,rfl,pK.nil _ _,aH _,qU.out⟩
theorem sV{xs:List Nat}(h:Reads w v g (dL xs)):∃a cap,v= .slice a xs.length cap/\xs.length<=cap/\cap<=maxLen/\
  Hid (∀k,k<xs.length->g<w.heap.size/\∃off,a=some ⟨g,off,none⟩/\w.cell? ⟨g,off+k,none⟩=some (.int .i64 ((xs.getD k 0:Nat):Int))):=by
 obtain⟨a,cap,J,G,h2,W⟩:=h;rw[fp] at *;refine⟨a,cap,J,G,h2,λk z=> ?_⟩;obtain⟨V,off,ho,U⟩:=W (by intro e;have :=cP List.length e;rw[fp,cD] at this;omega);exact⟨V,off,ho,(U k z).trans (nA z)⟩
theorem Reads.part{off L cap:Nat}{R:List Int}(h:Reads w (.slice (some ⟨g,off,none⟩) L cap) g (aY R)){o n:Nat}(hn:o+n<=R.length):Reads w (.slice (some ⟨g,off+o,none⟩) n (cap-o)) g (aY ((R.drop o).take n)):=by
 obtain⟨a,c,hv,V,h2,h3⟩:=h;cases hv;rw[bB] at V;have z:(aY ((R.drop o).take n)).length=n:=by rw[bB,aJ,bM];omega
 refine⟨_,cap-o,by rw[z],by rw[z];omega,by omega,λhx=> ?_⟩;have aa:0<n:=by
  rcases dZ n with G|G
  ·subst G;exact absurd (bo z) hx
  ·exact G
 obtain⟨hg,U,ho,W⟩:=h3 (by intro e;have :=cP List.length e;rw[bB,cD] at this;omega);cases ho;refine⟨hg,_,rfl,λj J=> ?_⟩;rw[z] at J;have :=W (o+j) (by rw[bB];omega);rw[Nat.add_assoc,this,dF (by omega),dF (by rw[aJ,bM];omega)];simp[J]
theorem Ld (n:bT)(v:Value)(hB:n.B.length=13)(ht:zP n)(vo:Value)(go:Nat)(own:List Nat)(ho:Reads w vo go (dL own))(bJ:own.getD 0 0<256)(h1:1<=own.length)(h6:6<(fw n.B).length):
  Calls prog 213 #[aM n v,vo] w (pL w (np n own) (kx n)):=by
 have bp:np n own=pn n::n.S::((fw n.B).take 5++[9223372036854775808+((own.getD 0 0:Nat):Int)]):=aA;have bj:kx n=[(fw n.B).drop 5++List.replicate (13-(fw n.B).length) 0]:=aA;rw[bp,bj];obtain⟨ao,co,rfl,Nn,bW,SF⟩:=sV ho;obtain⟨bK,Qt,rfl,ah⟩:=SF.out 0 (by omega);have bR:0<(own.length:Int):=by omega
 obtain⟨x0,bl⟩:∃x0,x0=own.getD 0 0:=⟨_,rfl⟩;rw[<-bl] at bJ ah ⊢;rw[dC] at ah;have Le:=ar ah;clear ah bl SF ho;obtain⟨HH,xq⟩:=hh2 (Fg n v hB ht) (λG=>K0 n.B hB G);obtain⟨W0,ae⟩:∃W0,W0=(w.alloc (.cells (aM n v) 75)).alloc (.cells (aY (List.replicate 8 0)).toArray 132):=⟨_,rfl⟩;have aG:bh W0 w.heap.size (aM n v) 75 :=by
  rw[ae];exact(bh.new w _ _).alloc _
 have EN:Hid (bh W0 (w.heap.size+1) (aY (List.replicate 8 0)).toArray 132):=by
  have :=bh.new (w.alloc (.cells (aM n v) 75)) (aY (List.replicate 8 0)).toArray 132;have e:(w.alloc (.cells (aM n v) 75)).heap.size=w.heap.size+1:=by simp
  rw[e,<-ae] at this;exact this
 have fJ:Hid (ay [] w W0):=by
  rw[ae];exact((ay.refl [] w).alloc _).alloc _
 have uT:=ar (cg aG hB);have rZ:Hid (∀G,ay [] W0 G->(loadVar 73 ⟨w.heap.size,4,none⟩).run prog G= .ok (.agg (zs n.B).toArray) G):=λG hk=>fA (off:=4) (aG.keep hk (by simp)) hB λk hk=>CE _ (by omega)
 have bZ:=lq;have bP:(fw n.B).length<=13:=mC n.B 13;have ry:=ar ae;have M8:Hid (uU n=pn n::n.S::List.replicate 6 0):=rfl;have XY:=CH n;generalize pn n=t,n.S=s,uU n=H,fw n.B=R,(zs n.B).toArray=ZB,aM n v=Z at *;clear aG ae bp bj ht hB;generalize vZ:(aY (List.replicate 8 0)).toArray=Z8 at *;have xE:=ar vZ;clear vZ;go_in;go_wp2_with((with_reducible show wpList _ _ _ (⟨_,.load 75 (.tmp 2),_,_,_,_⟩::_) _ _);rw[<-ry.out];refine gJ rfl 75 (.tmp 2) rfl _ rfl _ uT.out ?_);refine Rr (HH.out _) λw1 af=> ?_;obtain⟨w2,bo,tS,aX⟩:=bG (P:= prog) (ty:= 132) (cs:=aY H) (by rw[bB,XY];exact ja) (bh.new w1 Z8 132) (by rw[<-xE.out];simp[bB,XY]) (fk _);have uC:ay [] W0 w2:=(af.alloc (.cells Z8 132)).trans aX (by intro x hx;rw[au] at hx;have :=af.size;omega);have cf:w.heap.size+1<w1.heap.size:=bS EN.out.lt af.size;obtain⟨bw,SE,fo,bz⟩:=hh4 bo tS uC (rZ.out w2 uC);clear bo tS aX uC af HH;generalize ck:w1.heap.size=U at *;go_wp2_with(with_reducible first|refine gS 132 bw.out ?_|refine gL 73 bz.out ?_);refine(xq.out _).mono ?_;rintro e w3 ⟨va,ga,rfl,JQ,xh,aj⟩;obtain⟨aa,ca,rfl,bX,bV,bA⟩:=fW JQ;obtain⟨-,ba,rfl,-⟩:=bA.out 0 (by omega);have aN:=JQ.part (o:=0) (n:=5) (by omega);rw[dC,Nat.sub_zero,List.drop_zero] at aN;have Ud:(R.take 5).length=5:=by rw[aJ];omega
 obtain⟨vc,w4,zT,Gt,ax⟩:=qu (w:=w3.drew) (o:=2) (n:=6) (cap:=6) (SE.out.keep aj (by simp)).drew (show Reads w3.drew _ ga (aY (R.take 5)) from aN) (by omega) (by rw[XY];omega);have Nh:=zT 3;have bI:=sU U;have cn:¬(R.length:Int)<=6:=by omega
 have cp:(5:Int)<=(ca:Int):=by omega
 have b7:5<=ca:=by omega
 go_wp2_with fail;go_region_with (fail)
 have qb:Hid (ay [] w w4):=(((fJ.out.trans' fo.out).trans' aj).drew).trans ax (by intro x hx;rw[au] at hx;omega);have az:H.take 2++R.take 5++H.drop (2+(R.take 5).length)=t::s::(R.take 5++[0]):=by
  rw[M8.out,Ud];rfl
 rw[az] at Gt;have bD:(t::s::(R.take 5++[(0:Int)])).length=8:=by simp[Ud]
 have bk:Hid (bh w4 (w.heap.size+1) Z8 132):=((EN.out.keep fo.out (by simp)).keep aj (by simp)).drew.keep ax (by rw[au];omega);have bO:U<w2.heap.size:=SE.out.lt;have cj:U<ga:=by omega
 have bf:Hid (Reads w4 (.slice (some ⟨ga,ba,none⟩) R.length ca) ga (aY R)):=(show Reads w3.drew _ ga (aY R) from JQ).keep ax (by rw[au];omega);have bt:=(aO (w:=w) (w':=w4) (a:=⟨go,Qt,none⟩) (qb.out.block go bK (by simp))).trans Le.out;have c7:w4.cell? ⟨U,7,none⟩=some (.int .u64 ((t::s::(R.take 5++[(0:Int)])).getD 7 0)):=by
  rw[Gt.cell,aF,dF (by omega)]
 have f7:w4.frozen? ⟨U,7,none⟩=false:=Gt.frozen 7;have aT:bits .or .u64 9223372036854775808 (x0:Int)=((9223372036854775808+x0:Nat):Int):=by
  rw[show(9223372036854775808:Int)=((9223372036854775808:Nat):Int) from rfl,u64_or_nat _ _ (by omega) (by omega),nat_join 63 _ _ (by decide) (by omega)]
 obtain⟨X,hX⟩:∃X:Int,X=((9223372036854775808+x0:Nat):Int):=⟨_,rfl⟩;rw[<-hX] at aT;have aP:(9223372036854775808:Int)+((x0:Nat):Int)=X:=by omega
 rw[aP];have bv:=nC (x:=(x0:Int)) (by omega) (by omega);have aK:bh (w4.setCell ⟨U,7,none⟩ (.int .u64 X)) U (aY (t::s::(R.take 5++[X]))).toArray 132 :=by
  have :=Gt.set 7 (.int .u64 X);rw[ag,lI] at this;have e:(t::s::(R.take 5++[(0:Int)])).set 7 X=t::s::(R.take 5++[X]):=by
   rw[ai,ai,dI _ _ (by omega),Ud];rfl
  rw[e] at this;exact this
 have bH:=ar aK;have Np:Hid ((t::s::(R.take 5++[X])).length=8):=by show _=_;simp[Ud]
 obtain⟨W5,ac⟩:∃W5,W5=(w4.setCell ⟨U,7,none⟩ (.int .u64 X)).alloc (.cells Z8 132):=⟨_,rfl⟩;have bu:=ar ac;have bC:(w4.setCell ⟨U,7,none⟩ (.int .u64 X)).heap.size=w4.heap.size:=by simp[World.setCell]
 have XZ:Hid (bh W5 w4.heap.size (aY (List.replicate 8 0)).toArray 132):=by
  have :=bh.new (w4.setCell ⟨U,7,none⟩ (.int .u64 X)) Z8 132;rw[bC,<-ac,<-xE.out] at this;exact this
 have aH:Hid (ay [U] w4 W5):=by
  rw[ac];exact((ay.refl [U] w4).setCell (.inl (by simp)) _).alloc _
 have aZ:Hid (bh W5 U (aY (t::s::(R.take 5++[X]))).toArray 132):=by
  rw[ac];exact aK.alloc _
 have cm:U<w4.heap.size:=Gt.lt;generalize (t::s::(R.take 5++[(0:Int)])).getD 7 0=y7 at *;clear Gt aK ax zT Nh aN az bD aj JQ xh ac hX;go_wp2_with fail;rw[<-bu.out];have bg:Hid (Reads W5 (.slice (some ⟨ga,ba,none⟩) R.length ca) ga (aY R)):=bf.out.keep aH.out (by rw[au];omega);have aB:=bg.out.part (o:=5) (n:=R.length-5) (by omega);rw[aW (by rw[bM];omega)] at aB;have aV:(R.drop 5).length=R.length-5:=bM;obtain⟨b9,W,XV,EJ,jv⟩:=qu (w:=W5.drew) (o:=0) (n:=8) (cap:=8) (bh.drew XZ.out) (show Reads W5.drew _ ga (aY (R.drop 5)) from aB) (by omega) (by rw[bE];omega);have bF:=XV 3;have br:(List.replicate 8 (0:Int)).take 0++R.drop 5++(List.replicate 8 (0:Int)).drop (0+(R.drop 5).length)=R.drop 5++List.replicate (13-R.length) 0:=by
  rw[aV,eP,bQ,bc,jB,show 8-(R.length-5)=13-R.length by omega]
 rw[br] at EJ;have bU:=wq w4.heap.size;have cd:(5:Int)<=(R.length:Int):=by omega
 have bY:¬ca=5:=by omega
 have bL:5<=R.length:=by omega
 clear aT bv c7 f7 bt bI;go_region_with (fail)
 have av:(R.drop 5++List.replicate (13-R.length) 0).length=8:=by rw[aC,aV,bE];omega
 have b6:w4.heap.size<W.heap.size:=EJ.lt;have Iy:Hid (∀G,ay [w.heap.size+1] W G->(loadVar 132 U).run prog G= .ok (.agg (aY (t::s::(R.take 5++[X]))).toArray) G):=λG hk=>fN (((bh.drew aZ.out).keep jv (by rw[au];omega)).keep hk (by rw[au];omega)) Np.out
 have aR:Hid (∀G,ay [w.heap.size+1] W G->(loadVar 132 w4.heap.size).run prog G= .ok (.agg (aY (R.drop 5++List.replicate (13-R.length) 0)).toArray) G):=λG hk=>fN (EJ.keep hk (by rw[au];omega)) av
 have aS:bh W (w.heap.size+1) Z8 132 :=(bh.drew (bk.out.keep aH.out (by rw[au];omega))).keep jv (by rw[au];omega);have ak:Hid (∀G,ay [] W G->∃J,(storeVar 132 (w.heap.size+1:Nat) (.agg (aY (t::s::(R.take 5++[X]))).toArray)).run prog G= .ok () J/\bh J (w.heap.size+1) (aY (t::s::(R.take 5++[X]))).toArray 132/\ay [w.heap.size+1] G J):=λG hk=>
  bG (P:= prog) (ty:= 132) (cs:=aY (t::s::(R.take 5++[X]))) (by rw[bB,Np.out];exact ja) (aS.keep hk (by simp)) (by rw[<-xE.out,bN,bB,bB,Np.out,bE]) (fk _)
 have uB:Hid (ay [] w W):=((qb.out.trans aH.out (by intro x hx;rw[au] at hx;omega)).drew).trans jv (by intro x hx;rw[au] at hx;omega);clear EJ jv XV bF aB br aS bg bf XZ aZ bH bk;generalize bq:aY (t::s::(R.take 5++[X]))=ZO,aD:aY (R.drop 5++List.replicate (13-R.length) 0)=aQ at *;have bn:aQ.length=8:=by rw[<-aD,bB,av]
 obtain⟨a0,a1,a2,a3,a4,a5,a6,a7,rfl⟩:∃a0 a1 a2 a3 a4 a5 a6 a7,aQ=[a0,a1,a2,a3,a4,a5,a6,a7]:=by
  match aQ,bn with
  | [a,b,c,d,e,f,g,h],_=>exact⟨a,b,c,d,e,f,g,h,rfl⟩
 obtain⟨bb,Qu,aU⟩:=hh3 aD bq av;clear aD bq bn av;go_wp2_with fail;refine wp_region_any (by kernel_rfl) ?_
 (try (change wpAny _ _ _ _ _ _ _ (World.drew _)))
 refine iK (rs:=[0,1]) (by kernel_rfl) (by simp) ?_;refine eF rfl (λK z=> ?_) ?_
 rotate_left
 refine eF rfl (λK z=> ?_) ig;refine mR rfl 132 (.tmp 9) rfl _ rfl _ (aR.out _ (by first|exact(ay.refl _ _).drew|exact((ay.refl _ _).drew).alloc _|exact((ay.refl _ _).drew).trans' V.out)) ?_;refine z _ _ ?_;clear z K;refine iK (rs:=[0,2]) (by kernel_rfl) (by simp) ?_;refine eF rfl (λK z=> ?_) ?_;refine mR rfl 132 (.tmp 6) rfl _ rfl _ (Iy.out _ (by first|exact(ay.refl _ _).drew|exact((ay.refl _ _).drew).alloc _|exact((ay.refl _ _).drew).trans' V.out)) ?_;refine z _ _ ?_;clear z K
 rotate_left
 refine eF rfl (λK z=> ?_) ig
 go_simp
 refine z _ _ ?_;clear z K;refine iK (rs:=[0]) (by kernel_rfl) (by simp) ?_;refine eF rfl (λK z=> ?_) ig;refine mR rfl 132 (.tmp 6) rfl _ rfl _ (Iy.out _ (by first|exact(ay.refl _ _).drew|exact((ay.refl _ _).drew).alloc _|exact((ay.refl _ _).drew).trans' V.out)) ?_;refine z _ _ ?_;clear z K
 rotate_left
 refine mR rfl 132 (.tmp 6) rfl _ rfl _ (Iy.out _ (by first|exact(ay.refl _ _).drew|exact((ay.refl _ _).drew).alloc _|exact((ay.refl _ _).drew).trans' V.out)) ?_;refine z _ _ ?_;clear z K;refine iK (rs:=[1,3]) (by kernel_rfl) (by simp) ?_;refine eF rfl (λK z=> ?_) ?_;refine mR rfl 132 (.tmp 9) rfl _ rfl _ (aR.out _ (by first|exact(ay.refl _ _).drew|exact((ay.refl _ _).drew).alloc _|exact((ay.refl _ _).drew).trans' V.out)) ?_;refine z _ _ ?_;clear z K
 rotate_left
 refine eF rfl (λK z=> ?_) ig;obtain⟨J,hS,sf,SG⟩:=ak.out _ ((ay.refl _ _).drew);obtain⟨HS,Qv,V⟩:=hh3 hS sf SG;clear hS sf SG;refine pM rfl 132 (.tmp 4) (.tmp 38) rfl _ rfl _ rfl _ HS.out ?_;refine z _ _ ?_;clear z K;refine iK (rs:=[1]) (by kernel_rfl) (by simp) ?_;refine eF rfl (λK z=> ?_) ig;refine mR rfl 132 (.tmp 9) rfl _ rfl _ (aR.out _ (by first|exact(ay.refl _ _).drew|exact((ay.refl _ _).drew).alloc _|exact((ay.refl _ _).drew).trans' V.out)) ?_;refine z _ _ ?_;clear z K
 rotate_left
 refine iK (rs:=[2,3]) (by kernel_rfl) (by simp) ?_;refine eF rfl (λK z=> ?_) ?_
 go_simp
 refine z _ _ ?_;clear z K
 rotate_left
 refine eF rfl (λK z=> ?_) ig;obtain⟨J,hS,sf,SG⟩:=ak.out _ ((ay.refl _ _).drew);obtain⟨HS,Qv,V⟩:=hh3 hS sf SG;clear hS sf SG;refine pM rfl 132 (.tmp 4) (.tmp 38) rfl _ rfl _ rfl _ HS.out ?_;refine z _ _ ?_;clear z K
 rotate_left
 rotate_left
 refine iK (rs:=[2,3]) (by kernel_rfl) (by simp) ?_;refine eF rfl (λK z=> ?_) ?_
 go_simp
 refine z _ _ ?_;clear z K
 rotate_left
 refine eF rfl (λK z=> ?_) ig;obtain⟨J,hS,sf,SG⟩:=ak.out _ ((ay.refl _ _).drew);obtain⟨HS,Qv,V⟩:=hh3 hS sf SG;clear hS sf SG;refine pM rfl 132 (.tmp 4) (.tmp 38) rfl _ rfl _ rfl _ HS.out ?_;refine z _ _ ?_;clear z K;all_goals
  first
   |(have h0:=J
     clear h0;refine iK (rs:=[2]) (by kernel_rfl) (by simp) ?_;refine eF rfl (λK z=> ?_) ig
     go_simp
     refine z _ _ ?_;clear z K;refine iK (rs:=[4]) (by kernel_rfl) (by simp) ?_;refine eF rfl (λK z=> ?_) ig
     go_simp
     refine z _ _ ?_;clear z K;refine wpAny_done (by kernel_rfl) ?_ _;go_wp2_with fail;have zO:bh (J.alloc (.cells #[a0,a1,a2,a3,a4,a5,a6,a7] 132)) J.heap.size #[a0,a1,a2,a3,a4,a5,a6,a7] 132 :=bh.new J #[a0,a1,a2,a3,a4,a5,a6,a7] 132;have cr:W.heap.size<=J.heap.size:=V.out.size;have aL:ay [] w (J.alloc (.cells #[a0,a1,a2,a3,a4,a5,a6,a7] 132)):=((uB.out.drew).trans V.out (by intro x hx;rw[au] at hx;omega)).alloc _;exact aI (eG results213 rfl (by have :=Qv.out;rw[<-Qu.out] at this;exact fN (this.alloc _) Np.out) rfl) rfl ⟨.slice J.heap.size 1 1,J.heap.size,(by rw[aP,Qu.out];rfl),Gr zO aU.out bb.out,by omega,aL⟩)
   |(refine iK (rs:=[3]) (by kernel_rfl) (by simp) ?_
     refine eF rfl (λK z=> ?_) ig;obtain⟨J,hS,sf,SG⟩:=ak.out _ (((ay.refl _ _).drew).alloc _);obtain⟨HS,Qv,V⟩:=hh3 hS sf SG;clear hS sf SG;refine pM rfl 132 (.tmp 4) (.tmp 38) rfl _ rfl _ rfl _ HS.out ?_;refine z _ _ ?_;clear z K;refine iK (rs:=[4]) (by kernel_rfl) (by simp) ?_;refine eF rfl (λK z=> ?_) ig
     go_simp
     refine z _ _ ?_;clear z K;refine wpAny_done (by kernel_rfl) ?_ _;go_wp2_with fail;have zO:bh J W.heap.size #[a0,a1,a2,a3,a4,a5,a6,a7] 132 :=bh.keep (bh.new W.drew #[a0,a1,a2,a3,a4,a5,a6,a7] 132) V.out (by rw[au];show ¬W.heap.size=_;omega);have aL:ay [] w J:=((uB.out.drew).alloc _).trans V.out (by intro x hx;rw[au] at hx;omega);exact aI (eG results213 rfl (by have :=Qv.out;rw[<-Qu.out] at this;exact fN this Np.out) rfl) rfl ⟨.slice W.heap.size 1 1,W.heap.size,(by rw[aP,Qu.out];rfl),Gr zO aU.out bb.out,by omega,aL⟩)
def dN (E:List (ByteArray×Int)) (b:Nat):Nat:=((eB E b).length+2)/3
def fO (E:List (ByteArray×Int)):Nat->Nat
 |0=>0
 |b+1=>fO E b+dN E b
theorem uV (E:List (ByteArray×Int)){b c:Nat}(h:b<=c):fO E b<=fO E c:=by
 induction h with
 |refl=>exact aH _
 |step h ih=>exact cG ih (Nat.le_add_right _ _)
def yU (l:List (ByteArray×Int)) (x:Nat):List (ByteArray×Int):=(l.drop (3*x)).take 3
theorem nS (l:List (ByteArray×Int))(x:Nat):(yU l x).length=min 3 (l.length-3*x):=by simp[yU]
def zE (ws:List Int) (x:Int):List Int:=x::(ws++List.replicate (7-ws.length) 0)
theorem X0 (h:ws.length<=7)(x:Int):(zE ws x).length=8:=by simp[zE];omega
theorem oY (ws:List Int)(x:Int)(i:Nat):(zE ws x).getD (i+1) 0=ws.getD i 0:=by
 show(ws++List.replicate (7-ws.length) 0).getD i 0=_;rw[aj,aj];by_cases h:i<ws.length
 ·rw[ba h]
 ·rw[aR (by omega),bj,aP (by omega:ws.length<=i)]
  split<;>rfl
def X3 (E:List (ByteArray×Int)) (own:List Nat) (b j:Nat):List Int:=
 zE (eT (yU (eB E b) j)) (if j+1<dN E b then ((own.getD (fO E b+(j+1)) 0:Nat):Int) else 0)
def ya (E:List (ByteArray×Int)) (own:List Nat):Nat->List (List Int)
 |0=>[]
 |b+1=>ya E own b++(List.range (dN E b)).map (X3 E own b)
theorem oZ (E:List (ByteArray×Int))(own:List Nat):∀b,(ya E own b).length=fO E b
 |0=>rfl
 |b+1=>by rw[ya,fO,aC,oZ E own b,bY,fL]
theorem sk (E:List (ByteArray×Int))(own:List Nat){z j:Nat}(J:j<dN E z):∀{b:Nat},z<b->(ya E own b).getD (fO E z+j) []=X3 E own z j
 |0,h=>by omega
 |b+1,h=>by
  rw[ya,aj];by_cases e:z=b
  ·subst e
   rw[aR (by rw[oZ];omega),oZ,dD];simp[J]
  ·have G:z<b:=by omega
   have U:fO E z+j<fO E b:=by
    have :=uV E (show z+1<=b from G);rw[fO] at this;omega
   rw[ba (by rw[oZ];exact U),<-aj];exact sk E own J G
theorem uW (E:List (ByteArray×Int)){k:Nat}:∀{b:Nat},k<fO E b->∃z j,z<b/\j<dN E z/\k=fO E z+j
 |0,h=>by rw[fO] at h;omega
 |b+1,h=>by
  by_cases G:k<fO E b
  ·obtain⟨z,j,V,U,J⟩:=uW E G
   exact⟨z,j,by omega,U,J⟩
  ·rw[fO] at h
   exact⟨b,k-fO E b,by omega,by omega,by omega⟩
def hdD (E:List (ByteArray×Int)) (own:List Nat) (b:Nat):Int:=if 0<dN E b then ((own.getD (fO E b) 0:Nat):Int) else 0
def Aq (E:List (ByteArray×Int)) (own:List Nat) (b p q:Nat):Int:=
 if q<b then hdD E own q else if q=b/\0<p then ((own.getD (fO E q) 0:Nat):Int) else 0
def rE (n:bT) (own:List Nat) (b p:Nat):List Int:=
 [pn n,n.S,Aq n.E own b p 0,Aq n.E own b p 1,Aq n.E own b p 2,Aq n.E own b p 3,0,0]
def Gu (n:bT) (own:List Nat):List Int:=rE n own 4 0
theorem yb (n:bT)(own:List Nat)(b p:Nat):(rE n own b p).length=8:=rfl
theorem Us (n:bT)(own:List Nat):rE n own 0 0=pn n::n.S::List.replicate 6 0:=by
 unfold rE Aq;simp[List.replicate]
theorem yV (E:List (ByteArray×Int))(own:List Nat)(b q:Nat):Aq E own b (dN E b) q=Aq E own (b+1) 0 q:=by
 unfold Aq;by_cases G:q<b
 ·rw[aB G,aB]
 ·rw[aA G]
  by_cases J:q=b
  ·subst J
   rw[aB (show q<q+1 by omega),hdD];by_cases z:0<dN E q
   ·rw[aB ⟨rfl,z⟩,aB z]
   ·rw[aA (λh=>z h.2),aA z]
  ·rw[aA (λh=>J h.1),aA,aA]
theorem Ut (n:bT)(own:List Nat)(b:Nat):rE n own b (dN n.E b)=rE n own (b+1) 0:=by
 unfold rE;rw[yV,yV,yV,yV]
theorem Uu (n:bT)(own:List Nat)(b p:Nat)(h:p≠0):rE n own b p=rE n own b (p+1):=by
 have :∀q,Aq n.E own b p q=Aq n.E own b (p+1) q:=λq=>by
  unfold Aq;have z:(q=b/\0<p)↔(q=b/\0<p+1):=by omega
  simp only[z]
 unfold rE;rw[this,this,this,this]
theorem X4 (n:bT)(own:List Nat)(b:Nat)(h:b<4):(rE n own b 0).set (2+b) ((own.getD (fO n.E b) 0:Nat):Int)=rE n own b 1:=by
 rcases (show b=0\/b=1\/b=2\/b=3 by omega) with rfl|rfl|rfl|rfl<;>simp[rE,Aq]
structure CQ (E:List (ByteArray×Int)) (own:List Nat) (b:Nat) (pre:List Nat) (C:List Int):Prop where
 len:C.length=8*own.length
 done:∀b',b'<b->∀j,j<dN E b'->∀i,i<8->C.getD (8*(fO E b'+j)+i) 0=(X3 E own b' j).getD i 0
 part:∀j,j<pre.length->∀i,i<8->C.getD (8*(fO E b+j)+i) 0=(zE (eT (yU (eB E b) (pre.getD j 0))) (if j+1<pre.length then ((own.getD (fO E b+(j+1)) 0:Nat):Int) else 0)).getD i 0
 rest:∀i,8*(fO E b+pre.length)<=i->C.getD i 0=0
theorem CQ.start(E:List (ByteArray×Int))(own:List Nat):CQ E own 0 [] (List.replicate (8*own.length) 0):=
 ⟨by simp,λz h=>by omega,λj h=>by simp at h,λi _=>by
  rw[aj,bj];split<;>rfl⟩
theorem CQ.next(h:CQ E own b (List.range (dN E b)) C):CQ E own (b+1) [] C:=by
 have U:(List.range (dN E b)).length=dN E b:=fL;refine⟨h.len,λJ V j z i G=> ?_,λj z=>by simp at z,λi G=> ?_⟩
 ·by_cases e:J=b
  ·subst e
   have :=h.part j (by rw[U];exact z) i G;rw[U,show(List.range (dN E J)).getD j 0=j by simp[z]] at this;exact this
  ·exact h.done J (by omega) j z i G
 ·refine h.rest i ?_
  rw[U];simpa[fO] using G
def Gv (C:List Int) (a:Nat) (ws:List Int):List Int:=C.take a++ws++C.drop (a+ws.length)
theorem Uv (h:a+ws.length<=C.length):(Gv C a ws).length=C.length:=by simp[Gv];omega
theorem uX (h:a+ws.length<=C.length)(i:Nat):(Gv C a ws).getD i 0=if a<=i/\i<a+ws.length then ws.getD (i-a) 0 else C.getD i 0:=by
 have z:(C.take a).length=a:=by rw[aJ];omega
 unfold Gv;simp only[aj];by_cases G:i<a
 ·rw[aA,aV,ba (by rw[z];exact G),ij G]
 ·by_cases J:i<a+ws.length
  ·rw[aB ⟨by omega,J⟩,ba (by rw[aC,z];exact J),aR (by rw[z];omega),z]
  ·rw[aA,aR (by rw[aC,z];omega),aC,z,b9,show a+ws.length+(i-(a+ws.length))=i by omega]
theorem X5 (C:List Int)(k:Nat)(x:Int)(z:k<C.length)(i:Nat):(C.set k x).getD i 0=if i=k then x else C.getD i 0:=by
 simp only[aj,fh];by_cases h:k=i
 ·subst h;simp[z]
 ·rw[aA h,aA (λe=>h e.symm)]
theorem CQ.step{z:List Nat}{C1:List Int}(h:CQ E own b z C)(x f:Nat)(hf:f=fO E b+z.length)(ae:f<own.length)
  (h1:C1=if z.length=0 then C else C.set (8*(f-1)) ((own.getD f 0:Nat):Int)):CQ E own b (z++[x]) (Gv C1 (8*f+1) (eT (yU (eB E b) x))):=by
 have hw:(eT (yU (eB E b) x)).length<=6:=by rw[lf,nS];omega
 have Cx:C1.length=8*own.length:=by rw[h1];split<;>simp[h.len]
 have J:∀i,C1.getD i 0=if z.length≠0/\i=8*(f-1) then ((own.getD f 0:Nat):Int) else C.getD i 0:=λi=>by
  rw[h1];by_cases h0:z.length=0
  ·rw[aB h0,aA (λe=>e.1 h0)]
  ·rw[aA h0,X5 _ _ _ (by rw[h.len];omega)]
   by_cases U:i=8*(f-1)
   ·rw[aB U,aB ⟨h0,U⟩]
   ·rw[aA U,aA (λe=>U e.2)]
 have G:8*f+1+(eT (yU (eB E b) x)).length<=C1.length:=by rw[Cx];omega
 have W:(z++[x]).length=z.length+1:=by simp
 have aa:∀V,V<b->∀j,j<dN E V->fO E V+j<fO E b:=λV hb j hj=>by
  have :=uV E (show V+1<=b from hb);rw[fO] at this;omega
 refine⟨by rw[Uv G,Cx],λV hb j hj i U=> ?_,λj hj i U=> ?_,λi U=> ?_⟩
 ·have :=aa V hb j hj
  rw[uX G,aA,J,aA];exact h.done V hb j hj i U
 ·rw[W] at hj ⊢
  by_cases e:j=z.length
  ·subst e
   have hx:(z++[x]).getD z.length 0=x:=by simp
   rw[hx,aA,<-hf];cases i with
   |zero=>
    rw[uX G,aA,J,aA,h.rest _ (by omega)];rfl
   |succ i=>
    rw[oY,uX G];by_cases ac:i<(eT (yU (eB E b) x)).length
    ·rw[aB,show 8*f+(i+1)-(8*f+1)=i by omega]
    ·rw[aA,J,aA,h.rest _ (by omega),aj,aP (by omega)]
     rfl
  ·have WT:j<z.length:=by omega
   have hx:(z++[x]).getD j 0=z.getD j 0:=by simp only[aj];rw[ba WT]
   rw[hx,aB,uX G,aA,J];have h2:=h.part j WT i U;cases i with
   |zero=>
    by_cases e2:j+1=z.length
    ·rw[aB ⟨by omega,by omega⟩,hf,<-e2]
     rfl
    ·rw[aA,h2,aB]
   |succ i=>
    rw[aA,h2,oY,oY]
 ·rw[W] at U
  rw[uX G,aA,J,aA];exact h.rest i (by omega)
theorem CQ.breads(h:CQ E own 4 [] C)(V:fO E 4=own.length){W:World}{g cap T:Nat}(G:own.length<=cap)(J:cap<=maxLen)(hb:bh W g (aY C).toArray T):
  pK W (.slice g own.length cap) g (ya E own 4):=by
 have hl:(ya E own 4).length=own.length:=by rw[oZ,V]
 refine⟨some ⟨g,0,none⟩,cap,by rw[hl],by rw[hl];exact G,J,λ_=>⟨hb.lt,0,rfl,λk hk j hj=> ?_⟩⟩;rw[hl,<-V] at hk;obtain⟨U,i,z,hi,rfl⟩:=uW E hk;rw[sk E own hi z,<-h.done U z i hi j hj,hb.cell,aF,show 0+(fO E U+i)*8+j=8*(fO E U+i)+j by omega,dF];rw[h.len,<-V];omega
end
section
variable{w w':World}{T a b g:Nat}{C l ws:List Int}{v:Value}{P:Program}{E:List (ByteArray×Int)}{own:List Nat}
section
variable {P:Program} {ops:Array Oper} {Q:Exit->Act->World->Prop} {md:Region.Mode}
def sW (h:Array Bool):List Nat->Array Bool
 | []=>h
 |i::is=>sW (h.setIfInBounds i true) is
end
end
end Go.Proofs.YtimcfdnbpkiniaaGreatDoor
