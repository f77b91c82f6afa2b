/- Lemmas. -/
import Derived.Test.YtepbpdipenedhaaGreatDoorR06
set_option maxHeartbeats 8000000
set_option maxRecDepth 100000
namespace Go.Proofs.YtepbpdipenedhaaGreatDoor
open Go.Proofs.Tryz
open Go.RowKit
variable{w w':World}{T a b g:Nat}{C l ws:List Int}{v:Value}{P:Program}{E:List (ByteArray×Int)}{own:List Nat}
theorem SQ (b c:Nat)(z:c<=8)(w:World):(Instr.sliceAt 195 (.pointer (some ⟨b,0,none⟩)) none (some (.int .i64 (c:Int))) none).run prog w= .ok (.slice (some ⟨b,0,none⟩) c 8) w:=by
 have h:c=0\/c=1\/c=2\/c=3\/c=4\/c=5\/c=6\/c=7\/c=8:=by omega
 rcases h with rfl|rfl|rfl|rfl|rfl|rfl|rfl|rfl|rfl
 all_goals (show Sem.run _ _ _=_;kernel_rfl)
theorem bh.reads{o n c:Nat}(h:bh w b (aW l).toArray T)(U:o+n<=l.length)(J:n<=c)(V:c<=1000):Reads w (.slice (some ⟨b,o,none⟩) n c) b (aW ((l.drop o).take n)):=by
 have z:(aW ((l.drop o).take n)).length=n:=by rw[bp,aJ,bE];omega
 refine⟨_,c,by rw[z],by rw[z];exact J,by unfold maxLen;omega,λ_=>⟨h.lt,o,rfl,λj G=> ?_⟩⟩;rw[z] at G;rw[h.cell,aF,dA (by omega),dA (by rw[aJ,bE];omega)];simp[G]
theorem az.grown2{wr h:World}{row:Option Nat}(z:az [] w wr)(J:wr.grownBy h row)(G:∀k,row=some k->w.heap.size<=k):az [] w h:=z.grown J G
def mG (w:World) (X l:List Int) (m:Nat) (e:Ending) (w':World):Prop:=
 ∃v E ok g,e= .returned (.tuple #[v,.bool ok])/\bC w' v g E/\w.heap.size<=g/\(ok=true->na X l m/\E=rH X l m)/\(ok=false->¬na X l m/\E=[])/\az [] w w'
theorem mG.no{X:List Int}{m:Nat}(h:¬na X l m)(z:az [] w w'):mG w X l m (.returned (.tuple #[.slice none 0 0,.bool false])) w':=
 ⟨_,[],false,w.heap.size,rfl,bC.nil _ _,aI _,λh=>(by cases h),λ_=>⟨h,rfl⟩,z⟩
theorem JZ{gp:Nat}{B:List Int}{ps:List (Int×Int)}(h:eO w b gp B ps)(bk:In64 (aA B ps))(l:List Int)(hl:l.length=13)(Q4:∀k,0<=l.getD k 0/\l.getD k 0<256)(m:Nat)(hm:m<=832):
  Calls prog 191 #[.pointer (some ⟨b,0,none⟩),.agg (zs l).toArray,.int .i64 (m:Int)] w (mG w (aA B ps) l m):=by
 have HS:=au h;have tu:=au bk;have aY:=bh.new w (zs l).toArray 109;have oK:=au aY;have fW:Hid (az [] w (w.alloc (.cells (zs l).toArray 109))):=(az.refl _ _).alloc _;have bn:=xg m 4 (by omega) (by omega) (by omega);rw[show(m+4-1)/4=bj m by unfold bj;congr 1] at bn;have HP:=au bn;have CX:bj m<=300:=by unfold bj;omega
 have p9:Hid (∀z,az [] (w.alloc (.cells (zs l).toArray 109)) z->(loadVar 109 ⟨w.heap.size,0,none⟩).run prog z= .ok (.agg (zs l).toArray) z):=λz hk=>
  fc (off:=0) (aY.keep hk (by simp)) hl (λk hk=>by rw[aX,aF,fR (by omega)])
 have Wy:Hid (∀z k,k<13->az [] (w.alloc (.cells (zs l).toArray 109)) z->z.cell? ⟨w.heap.size,k,none⟩=some (.int .i64 (l.getD k 0))):=λz k hk fK=>by
  rw[(aY.keep fK (by simp)).cell,aF,fR (by omega)]
 have bJ:=au Q4;have HL:=au hl;clear h bk aY bn Q4;generalize hz:(zs l).toArray=Z at *;have HZ:=au hz;clear hz;by_cases N8:24<m
 ·have HN:Hid (¬na (aA B ps) l m):=λh=>by have :=h.1;omega
  have cA:(24:Int)<(m:Int):=by omega
  generalize bj m=aa at *;clear hl;go_enter func191,ntmps191;go_wp2_with fail;refine(HP.out _).mono ?_;rintro e w' ⟨rfl,rfl⟩;go_wp2_with fail;have aR:decide (24<m)=true:=bq N8;refine dX (S:=λz=>z=(w.alloc (.cells Z 109)).drew) (by kernel_rfl) (by kernel_rfl) (λd _ _ _ _ h=>by cases d<;>exact h) rfl (by kernel_rfl) ?_;repeat (first
   |(refine aK.cons undef (bc.off rfl) ?_;simp only[Act.put,ag,ah,ai])
   |(refine aK.cons (.bool true) (bc.val rfl ?h) ?_;(case h=>(intro z G;clear G;first|(go_simp;done)|(go_simp;simp[aR];done)));simp only[Act.put,ag,ah,ai])
   |(refine aK.cons ?_ (bc.val rfl ?h) ?_;(case h=>(intro z G;go_simp;rfl));simp only[Act.put,ag,ah,ai]))
  refine aK.done λz G=> ?_
  subst G;go_wp2_with fail;go_ret2;exact mG.no HN.out fW.out.drew
 ·have aR:decide (24<m)=false:=aS N8
  have cm:¬(24:Int)<(m:Int):=by omega
  have OZ:bj m<=13:=by unfold bj;omega
  have HU:=au (QW l (bj m) hl OZ);have GU:=au (λz=>OG (a:=l) (b:=mj l (bj m)) hl (tJ hl OZ) z);rw[HZ.out] at HU GU;have bT:=BL;obtain⟨t,ht⟩:∃t,decide (l=mj l (bj m))=t:=⟨_,rfl⟩;rw[ht] at GU;have bW:=GU.out;generalize (zs (mj l (bj m))).toArray=ZU at *;clear GU;cases t
  ·have HN:Hid (¬na (aA B ps) l m):=λh=>of_decide_eq_false ht h.2.1
   clear ht hl HL bJ;generalize bj m=aa at *;go_enter func191,ntmps191;go_wp2_with fail;refine(HP.out _).mono ?_;rintro e w' ⟨rfl,rfl⟩;go_wp2_with fail;refine dX (S:=λz=>az [] (w.alloc (.cells Z 109)) z) (by kernel_rfl) (by kernel_rfl) (λd _ _ _ _ h=>by cases d<;>exact h) ((az.refl _ _).drew) (by kernel_rfl) ?_;repeat (first
    |(refine aK.cons (.agg Z) (bc.load rfl 109 (.tmp 4) rfl _ rfl λz G=>p9.out z G) ?_;simp only[Act.put,ag,ah,ai])
    |(refine aK.cons (.agg ZU) (bc.call rfl 167 #[.agg Z,.int .i64 (aa:Int)] ?V ?h) ?_;(case V=>(intro wz;go_simp));(case h=>exact λz G=>(HU.out z).mono λe w' V=>⟨V.1,G.trans' V.2⟩);simp only[Act.put,ag,ah,ai])
    |(refine aK.cons (.bool false) (bc.val rfl ?h) ?_;(case h=>(intro z G;clear G;first|(go_simp;done)|(go_simp;simp[aR];done)));simp only[Act.put,ag,ah,ai])
    |(refine aK.cons ?_ (bc.val rfl ?h) ?_;(case h=>(intro z G;clear G;go_simp;rfl));simp only[Act.put,ag,ah,ai]))
   refine aK.done λz G=> ?_
   have qB:=au (fW.out.trans' G);clear G;go_wp2_with fail;go_ret2;exact mG.no HN.out qB.out
  ·have bQ:=of_decide_eq_true ht
   have b6:=au bQ;clear bQ;have b9:=λz=>LG w.heap.size (bj m) OZ z
   clear ht hl;generalize bG:bj m=aa at *;have aQ:=au bG;clear bG;go_enter func191,ntmps191;go_wp2_with fail;refine(HP.out _).mono ?_;rintro e w' ⟨rfl,rfl⟩;go_wp2_with fail;refine dX (S:=λz=>az [] (w.alloc (.cells Z 109)) z) (by kernel_rfl) (by kernel_rfl) (λd _ _ _ _ h=>by cases d<;>exact h) ((az.refl _ _).drew) (by kernel_rfl) ?_;repeat (first
    |(refine aK.cons (.agg Z) (bc.load rfl 109 (.tmp 4) rfl _ rfl λz G=>p9.out z G) ?_;simp only[Act.put,ag,ah,ai])
    |(refine aK.cons (.agg ZU) (bc.call rfl 167 #[.agg Z,.int .i64 (aa:Int)] ?V ?h) ?_;(case V=>(intro wz;go_simp));(case h=>exact λz G=>(HU.out z).mono λe w' V=>⟨V.1,G.trans' V.2⟩);simp only[Act.put,ag,ah,ai])
    |(refine aK.cons (.bool false) (bc.val rfl ?h) ?_;(case h=>(intro z G;clear G;first|(go_simp;done)|(go_simp;simp[aR];done)));simp only[Act.put,ag,ah,ai])
    |(refine aK.cons ?_ (bc.val rfl ?h) ?_;(case h=>(intro z G;clear G;go_simp;rfl));simp only[Act.put,ag,ah,ai]))
   refine aK.done λw1 G=> ?_
   have iU:=au G;clear G;obtain⟨E,hE⟩:∃E,E=rH (aA B ps) l m:=⟨_,rfl⟩;have HE:=au hE;have bv:E.length=m:=by rw[hE];exact pC _ _ _
   have Au:=au bv;have aG:Hid (∀e,e<m->eU E e=wu ((kf (zw (aA B ps) l e)).getD [])/\jl E e=vk (aA B ps) l e):=λe V=>by rw[hE];exact BR _ _ _ _ V
   have bz:m<=4*aa/\∀k,k<aa->4*k<m:=by
    have hc:=aQ.out;unfold bj at hc;exact⟨by omega,λk hk=>by omega⟩
   have bI:=au bz;clear hE bv bz;obtain⟨i0,hi,bM,bA,bD⟩:=cP Tryz.info_entry;have HI:=au hi;have cu:=kC;clear hi;go_wp2_with fail;clear b9 bW bT;go_loopg [9,29] aa (λgh s9 s29 z=>∃k:Nat,k+gh=aa/\s29= .int .i64 (k:Int)/\Hid (z.ownsRow (w.heap.size+1) 87 2 s9 (min m (4*k)) (eH (E.take (4*k)))/\(∀i,i<k->C3 (aA B ps) l m i)/\az [] (w.alloc (.cells Z 109)) z))
   case atStart=>exact⟨0,by omega,rfl,⟨by simp[eH],.inl ⟨rfl,by simp⟩⟩,by simp,iU.out⟩
   case round=>
    clear iU;obtain⟨k,hk,rfl,HP⟩:=hrel;obtain⟨J,av,fK⟩:=HP.out;cases gk with
    |zero=>
     obtain rfl:k=aa:=by omega
     have lU:Hid (mG w (aA B ps) l m (.returned (.tuple #[u9,.bool true])) wr):=by
      have h1:=bI.out.1;rw[cC h1,aV (by rw[Au.out];exact h1)] at J;obtain⟨g,ho,hg⟩:=fp.of_row J;obtain⟨g2,bV,b7⟩:∃g2,w.heap.size<=g2/\bC wr u9 g2 E:=by
       by_cases h0:m=0
       ·exact⟨w.heap.size,aI _,(ho.ereads Au.out.symm).anyG (by rw[Au.out,h0]) _⟩
       ·exact⟨g,by have :=(hg h0).1;omega,ho.ereads Au.out.symm⟩
      exact⟨u9,E,true,g2,rfl,b7,bV,λ_=>⟨⟨by omega,by rw[aQ.out];exact b6.out,by rw[aQ.out];exact av⟩,HE.out⟩,λh=>(by cases h),fW.out.trans' fK⟩
     clear HP J av fK hk;go_wp2_with fail;go_ret2;exact lU.out
    |succ gg=>
     have bH:k<aa:=by omega
     have cv:(k:Int)<(aa:Int):=by omega
     have dt:(0:Int)<=(k:Int):=by omega
     have bK:=bI.out.2 k bH;have bt:=Wy.out wr k (by omega) fK;have bS:=bJ.out k;have KV:Hid (¬C3 (aA B ps) l m k->¬na (aA B ps) l m):=λh hh=>h (hh.2.2 k (by rw[aQ.out];exact bH))
     have L6:Hid (C3 (aA B ps) l m k↔l.getD k 0≠0/\(∀j,j<min 4 (m-4*k)->(kf (zw (aA B ps) l (4*k+j))).isSome=true/\vk (aA B ps) l (4*k+j)<32)/\iG E k=eu (aA B ps) (1080+8*(l.getD k 0).toNat)):=by
      have e:=HE.out;show _↔_;rw[e];exact Iff.rfl
     have tG:=au av;have iZ:=au fK;have Q5:Hid (∀j,j<4->wj l (4*k+j)=1080+8*(l.getD k 0).toNat+2*j):=λj U=>SN l k j U
     obtain⟨q,hq⟩:∃q:Nat,l.getD k 0=(q:Int):=⟨(l.getD k 0).toNat,by omega⟩;rw[hq] at bt L6 Q5 bS;rw[aH] at L6 Q5;rw[Nat.min_eq_right (by omega)] at J;have ac:=au J;clear HP J av fK hq;by_cases bY:q=0
     ·subst bY
      have HN:Hid (¬na (aA B ps) l m):=KV.out λh=>(L6.out.1 h).1 rfl
      have qB:=au (fW.out.trans' iZ.out);clear L6 Q5 KV hk;go_wp2_with fail;go_ret2;exact mG.no HN.out qB.out
     ·have e0:((q:Int)==0)=false:=cQ.2 (by omega)
      have aN:=jU (q:Int) wr;rw[show iL (q:Int)=((1080+8*q:Nat):Int) by unfold iL;rw[aB (by omega)];omega] at aN;have Ww:=au aN;have ma:=au (oL (HS.out.keep (fW.out.trans' iZ.out) (by simp) (by simp)) (1080+8*q) (by omega));obtain⟨r,hr⟩:∃r,r=eu (aA B ps) (1080+8*q):=⟨_,rfl⟩;rw[<-hr] at ma L6;have cj:=au hr;have wN:r.length=8:=by rw[hr];exact iD _ _
      have bL:Hid (∀j,j<4->r.getD (j*2) 0=((zw (aA B ps) l (4*k+j):Nat):Int)/\r.getD (j*2+1) 0=vk (aA B ps) l (4*k+j)):=λj U=>by
       have cg:=Q5.out j U;rw[hr,j5 _ _ _ (by omega),j5 _ _ _ (by omega)];unfold zw vk;rw[cg];have bk:=tu.out (1080+8*q+2*j);rw[show 1080+8*q+j*2=1080+8*q+2*j by omega,show 1080+8*q+(j*2+1)=1080+8*q+2*j+1 by omega];exact⟨by omega,rfl⟩
      have BS:=au wN;have cr:Hid (∀j,j<4->0<=vk (aA B ps) l (4*k+j)):=λj U=>by
       have :=(tu.out (wj l (4*k+j)+1)).1;exact this
      clear hr wN Q5 aN;generalize hp:((1080+8*q:Nat):Int)=p at *;clear hp;obtain⟨c,hc⟩:∃c,c=min 4 (m-4*k):=⟨_,rfl⟩;have HC:=au hc;have ct:c<=4:=by omega
      have ck:4*k+c<=m:=by omega
      have bO:(m:Int)-(k:Int)*4=((m-4*k:Nat):Int):=by omega
      obtain⟨d,hd⟩:∃d,d=m-4*k:=⟨_,rfl⟩;rw[<-hd] at bO hc;have bU:((4:Int)<=(d:Int)/\c=4)\/((d:Int)<4/\c=d):=by omega
      clear hc hd;have cx:w.heap.size+1<=wr.heap.size:=by have :=iZ.out.size;simpa using this
      go_wp2_with fail;refine Ww.out.mono ?_;rintro e w' ⟨rfl,rfl⟩;go_wp2_with fail;refine ma.out.mono ?_;rintro e w3 ⟨rfl,br⟩;obtain⟨w5,bF,rI,j6⟩:=bB (P:= prog) (ty:= 195) (cs:=aW r) (by rw[bp,BS.out];exact ja) (bh.new w3 (aW (List.replicate 8 0)).toArray 195) (by simp[bp,BS.out]) (fh _);have cz:=br.size;have bu:=au bF;have ax:=au rI;have qG:Hid (az [] wr w5):=((br.alloc (.cells (aW (List.replicate 8 0)).toArray 195)).trans j6 (by intro x G;rw[ay] at G;omega));clear bF rI j6 br Ww ma;have nD:Hid (az [] (w.alloc (.cells Z 109)) w5):=iZ.out.trans' qG.out;have bb:Hid (∀g,u9.ownBlock=some g->g≠w3.heap.size):=λg hg=>by
       obtain⟨-,h1⟩:=ac.out;rcases h1 with ⟨hv,-⟩|⟨g2,cap,cw,hv,-,hh,-⟩
       ·rw[hv] at hg;cases hg
       ·rw[hv] at hg
        cases hg;have :=(Array.getElem?_eq_some_iff.1 hh).1;show g2≠w3.heap.size;omega
      have aU:Hid (w5.ownsRow (w.heap.size+1) 87 2 u9 (4*k+0) (eH (E.take (4*k+0)))):=dB ac.out qG.out (by simp);have cp:w.heap.size+1<=w3.heap.size:=by omega
      obtain⟨n2,bw⟩:∃n2,n2=2*c:=⟨_,rfl⟩;have Wz:Hid (∀j,j<c->(r.take n2).getD (j*2) 0=((zw (aA B ps) l (4*k+j):Nat):Int)/\(r.take n2).getD (j*2+1) 0=vk (aA B ps) l (4*k+j)):=λj U=>by
       have e0:(r.take n2).getD (j*2) 0=r.getD (j*2) 0:=by simp[show j*2<n2 by omega]
       have e1:(r.take n2).getD (j*2+1) 0=r.getD (j*2+1) 0:=by simp[show j*2+1<n2 by omega]
       rw[e0,e1];exact bL.out j (by omega)
      have ba:Hid (pY (r.take n2) c↔∀j,j<c->(kf (zw (aA B ps) l (4*k+j))).isSome=true/\vk (aA B ps) l (4*k+j)<32):=by
       constructor
       ·intro h j U
        have :=h j U;rw[(Wz.out j U).1,(Wz.out j U).2,aH] at this;exact this
       ·intro h j U
        rw[(Wz.out j U).1,(Wz.out j U).2,aH];exact h j U
      have bN:Hid (E.take (4*k+c)=E.take (4*k)++kY (r.take n2) c):=by
       show _=_;rw[List.take_add]
       congr 1
       have GK:((E.drop (4*k)).take c).length=c:=by rw[aJ,bE,Au.out];omega
       refine V7 (by rw[GK,jm]) λj U=> ?_
       rw[GK] at U;rw[(Av E (4*k) c j U).1,(Av E (4*k) c j U).2,(BO _ _ _ U).1,(BO _ _ _ U).2,(Wz.out j U).1,(Wz.out j U).2,aH];exact aG.out _ (by omega)
      have yw:Hid (∀j,0<=(r.take n2).getD j 0/\(r.take n2).getD j 0<18446744073709551616):=λj=>by
       by_cases U:j<n2
       ·have e0:(r.take n2).getD j 0=r.getD j 0:=by simp[U]
        rw[e0,cj.out];by_cases bZ:j<8
        ·rw[j5 _ _ _ bZ];exact tu.out _
        ·rw[aj,aT (by rw[iD];omega)]
         simp
       ·rw[aj,aT (by rw[aJ];omega)]
        simp
      have bP:Reads w5 (.slice (some ⟨w3.heap.size,0,none⟩) n2 8) w3.heap.size (aW (r.take n2)):=by
       have :=ax.out.reads (o:=0) (n:=n2) (c:=8) (by rw[BS.out];omega) (by omega) (by omega);rwa[List.drop_zero] at this
      have SR:=au (wh bP (by rw[aJ,BS.out];omega) c (by rw[aJ,BS.out];omega) yw.out);have aZ:Hid (∀x:Int,x=(n2:Int)->∀z,(Instr.sliceAt 195 (.pointer (some ⟨w3.heap.size,0,none⟩)) none (some (.int .i64 x)) none).run prog z= .ok (.slice (some ⟨w3.heap.size,0,none⟩) n2 8) z):=λx G z=>by
       rw[G];exact SQ _ _ (by omega) z
      have cn:1<=c:=by have :=HC.out;omega
      clear bP bL Wz yw;have O0:=au bw;clear bw;rcases bU with ⟨bR,aP⟩|⟨bR,aP⟩
      ·have Wt:=aZ.out 8 (by have :=O0.out;omega)
       have b8:=au aP;clear aP aZ;go_wp2_with(with_reducible refine gS 195 bu.out ?_);refine SR.out.mono ?_;rintro e w6 af;rcases af with ⟨g7,rfl,aL,Vz,WA,kG⟩|⟨rfl,aM,kG⟩
       ·have ae:=ba.out.1 WA
        have O3:=au (dB aU.out kG (by simp));have o8:=au (qG.out.trans' kG);have O4:=au (ax.out.keep kG (by simp));have WB:Hid (∀j u,(eH (kY (r.take n2) c))[j]? =some u->w6.cell? ((⟨g7,0,none⟩:Addr).add j)=some u):=λj u hu=>by
         obtain⟨-,-,aO,-⟩:=aL.cell (by omega);have U:=(List.getElem?_eq_some_iff.1 hu).1;rw[jV,jm] at U;rw[add_plain,aX,aO j U];exact hu
        have N4:Hid ((eH (kY (r.take n2) c)).length=c*2):=by show _=_;rw[jV,jm]
        have bl:w.heap.size+1<=w6.heap.size:=by have :=o8.out.size;omega
        have hi:=HI.out;clear Wt aL Vz WA kG SR;go_wp2_with(at_builtin;refine dO _ rfl _ _ 32 rfl (w.heap.size+1) 87 i0 (.agg #[.string ⟨#[]⟩,.int .i64 0]) 2 24 underlying32 hi bM bA bD rfl (by decide) u9 (4*k+0) _ rfl O3.out ⟨g7,0,none⟩ c c (eH (kY (r.take n2) c)) rfl N4.out WB.out (uV _) (by unfold maxLen;omega) (by omega) bl ?_);intro v9 w7 L8 W _;have J:w7.ownsRow (w.heap.size+1) 87 2 v9 (4*k+c) (eH (E.take (4*k+c))):=by
         rw[bN.out,nr];exact L8
        have aD:bh w7 w3.heap.size (aW r).toArray 195 :=(W.block _ O4.out.lt (λe=>bb.out _ e.symm rfl)).trans O4.out;have fK:az [] (w.alloc (.cells Z 109)) w7:=(iZ.out.trans' o8.out).grown2 W λg hg=>by have :=cZ O3.out g hg;simpa using this
        clear L8 W O3 o8 O4 nD qG aU bb ax iZ ac hi;obtain⟨g0,aC,bf⟩:=fp.of_row J;have tz:=au (aC.ereads (by rw[aJ,Au.out];omega));have bo:Hid (vZ (E.take (4*k+c))):=by
         have bg:∀e,e<4*k+c->0<=vk (aA B ps) l e/\vk (aA B ps) l e<32:=λe V=>by
          have h0:0<=vk (aA B ps) l e:=(tu.out (wj l e+1)).1;refine⟨h0,?_⟩;by_cases cd:e<4*k
          ·have :=((tG.out (e/4) (by omega)).2.1 (e%4) (by omega)).2
           rw[show 4*(e/4)+e%4=e by omega] at this;exact this
          ·have :=(ae (e-4*k) (by omega)).2
           rw[show 4*k+(e-4*k)=e by omega] at this;exact this
         refine⟨by rw[aJ,Au.out];omega,λe V=> ?_,λe V=> ?_⟩
         ·rw[aJ,Au.out] at V
          rw[(xj E (4*k+c) e (by omega)).1,(aG.out e (by omega)).1];have :=xS (zw (aA B ps) l e);omega
         ·rw[aJ,Au.out] at V
          rw[(xj E (4*k+c) e (by omega)).2,(aG.out e (by omega)).2];have :=bg e (by omega);omega
        have WC:Hid (∀z,az [] w7 z->Calls prog 196 #[v9,.int .i64 (k:Int)] z λe w'=>e= .returned (.agg (aW (iG E k)).toArray)/\az [] z w'):=λz ak=>by
         have :=xh (tz.out.keep ak (by simp)) bo.out k (by rw[aJ,Au.out];omega);rw[C2 E k c (by rw[HC.out,Au.out]) (by rw[Au.out];exact bK)] at this;exact this
        have O5:Hid (∀z,az [] w7 z->(loadVar 195 ⟨w3.heap.size,0,none⟩).run prog z= .ok (.agg (aW r).toArray) z):=λz ak=>eY (aD.keep ak (by simp)) BS.out
        have Fj:=au (λz=>Iq (a:=iG E k) (b:=r) (lC _ _ _) BS.out z);have cf:=tH;have iZ:=au fK;have ac:=au J;obtain⟨t2,ar⟩:∃t2,decide (iG E k=r)=t2:=⟨_,rfl⟩;rw[ar] at Fj;have bX:=Fj.out;have D8:Hid (C3 (aA B ps) l m k↔t2=true):=by
         show _↔_;rw[L6.out,<-ar,decide_eq_true_iff];refine⟨λh=>h.2.2,λh=>⟨by omega,λi hi=>ae i ?_,h⟩⟩;have :=HC.out;omega
        clear J ae aD fK aC bf ar Fj;generalize (aW (iG E k)).toArray=ZQ at *;generalize (aW r).toArray=ZP at *;cases t2;all_goals
         go_wp2_with fail;refine dX (S:=λz=>az [] w7 z) (by kernel_rfl) (by kernel_rfl) (λd _ _ _ _ h=>by cases d<;>exact h) ((az.refl _ _).drew) (by kernel_rfl) ?_;repeat (first
          |(refine aK.cons (.agg ZP) (bc.load rfl 195 (.tmp 12) rfl _ rfl λz G=>O5.out z G) ?_;simp only[Act.put,ag,ah,ai])
          |(refine aK.cons (.agg ZQ) (bc.call rfl 196 #[v9,.int .i64 (k:Int)] ?V ?h) ?_;(case V=>(intro wz;go_simp));(case h=>exact λz G=>(WC.out z G).mono λe w' V=>⟨V.1,G.trans' V.2⟩);simp only[Act.put,ag,ah,ai])
          |(refine aK.cons ?_ (bc.val rfl ?h) ?_;(case h=>(intro z G;clear G;go_simp;rfl));simp only[Act.put,ag,ah,ai]))
         refine aK.done λwz G=> ?_
         have wO:=au G;clear G
        ·have HN:Hid (¬na (aA B ps) l m):=KV.out λh=>by have :=D8.out.1 h;cases this
         have qB:=au (fW.out.trans' (iZ.out.trans' wO.out));go_wp2_with fail;go_ret2;exact mG.no HN.out qB.out
        ·have WG:Hid (wz.ownsRow (w.heap.size+1) 87 2 v9 (min m (4*(k+1))) (eH (E.take (4*(k+1))))/\(∀i,i<k+1->C3 (aA B ps) l m i)/\az [] (w.alloc (.cells Z 109)) wz):=by
          refine⟨?_,λi hi=> ?_,iZ.out.trans' wO.out⟩
          ·have h1:=dB ac.out wO.out (by simp)
           have aO:=HC.out;rw[show min m (4*(k+1))=4*k+c by omega];have e:E.take (4*(k+1))=E.take (4*k+c):=by
            by_cases h4:c=4
            ·rw[h4,Nat.mul_add]
            ·rw[aV (by rw[Au.out];omega),aV (by rw[Au.out];omega)]
           rw[e];exact h1
          ·by_cases e:i=k
           ·subst e;exact D8.out.2 (by simp)
           ·exact tG.out i (by omega)
         go_wp2_with fail;go_roundg gg;case measure=>omega
         case rel=>exact⟨k+1,by omega,by go_num,WG.out⟩
       ·have HN:Hid (¬na (aA B ps) l m):=KV.out λh=>aM (ba.out.2 λj U=>(L6.out.1 h).2.1 j (by have :=HC.out;omega))
        have qB:=au (fW.out.trans' ((iZ.out.trans' qG.out).trans' kG));clear aM kG SR;go_wp2_with fail;go_ret2;exact mG.no HN.out qB.out
      ·have cy:2*(d:Int)=(n2:Int):=by have :=O0.out;omega
       have Wt:=aZ.out (n2:Int) rfl;have b8:=au aP;clear aP aZ;go_wp2_with(with_reducible refine gS 195 bu.out ?_);refine SR.out.mono ?_;rintro e w6 af;rcases af with ⟨g7,rfl,aL,Vz,WA,kG⟩|⟨rfl,aM,kG⟩
       ·have ae:=ba.out.1 WA
        have O3:=au (dB aU.out kG (by simp));have o8:=au (qG.out.trans' kG);have O4:=au (ax.out.keep kG (by simp));have WB:Hid (∀j u,(eH (kY (r.take n2) c))[j]? =some u->w6.cell? ((⟨g7,0,none⟩:Addr).add j)=some u):=λj u hu=>by
         obtain⟨-,-,aO,-⟩:=aL.cell (by omega);have U:=(List.getElem?_eq_some_iff.1 hu).1;rw[jV,jm] at U;rw[add_plain,aX,aO j U];exact hu
        have N4:Hid ((eH (kY (r.take n2) c)).length=c*2):=by show _=_;rw[jV,jm]
        have bl:w.heap.size+1<=w6.heap.size:=by have :=o8.out.size;omega
        have hi:=HI.out;clear Wt aL Vz WA kG SR;go_wp2_with(at_builtin;refine dO _ rfl _ _ 32 rfl (w.heap.size+1) 87 i0 (.agg #[.string ⟨#[]⟩,.int .i64 0]) 2 24 underlying32 hi bM bA bD rfl (by decide) u9 (4*k+0) _ rfl O3.out ⟨g7,0,none⟩ c c (eH (kY (r.take n2) c)) rfl N4.out WB.out (uV _) (by unfold maxLen;omega) (by omega) bl ?_);intro v9 w7 L8 W _;have J:w7.ownsRow (w.heap.size+1) 87 2 v9 (4*k+c) (eH (E.take (4*k+c))):=by
         rw[bN.out,nr];exact L8
        have aD:bh w7 w3.heap.size (aW r).toArray 195 :=(W.block _ O4.out.lt (λe=>bb.out _ e.symm rfl)).trans O4.out;have fK:az [] (w.alloc (.cells Z 109)) w7:=(iZ.out.trans' o8.out).grown2 W λg hg=>by have :=cZ O3.out g hg;simpa using this
        clear L8 W O3 o8 O4 nD qG aU bb ax iZ ac hi;obtain⟨g0,aC,bf⟩:=fp.of_row J;have tz:=au (aC.ereads (by rw[aJ,Au.out];omega));have bo:Hid (vZ (E.take (4*k+c))):=by
         have bg:∀e,e<4*k+c->0<=vk (aA B ps) l e/\vk (aA B ps) l e<32:=λe V=>by
          have h0:0<=vk (aA B ps) l e:=(tu.out (wj l e+1)).1;refine⟨h0,?_⟩;by_cases cd:e<4*k
          ·have :=((tG.out (e/4) (by omega)).2.1 (e%4) (by omega)).2
           rw[show 4*(e/4)+e%4=e by omega] at this;exact this
          ·have :=(ae (e-4*k) (by omega)).2
           rw[show 4*k+(e-4*k)=e by omega] at this;exact this
         refine⟨by rw[aJ,Au.out];omega,λe V=> ?_,λe V=> ?_⟩
         ·rw[aJ,Au.out] at V
          rw[(xj E (4*k+c) e (by omega)).1,(aG.out e (by omega)).1];have :=xS (zw (aA B ps) l e);omega
         ·rw[aJ,Au.out] at V
          rw[(xj E (4*k+c) e (by omega)).2,(aG.out e (by omega)).2];have :=bg e (by omega);omega
        have WC:Hid (∀z,az [] w7 z->Calls prog 196 #[v9,.int .i64 (k:Int)] z λe w'=>e= .returned (.agg (aW (iG E k)).toArray)/\az [] z w'):=λz ak=>by
         have :=xh (tz.out.keep ak (by simp)) bo.out k (by rw[aJ,Au.out];omega);rw[C2 E k c (by rw[HC.out,Au.out]) (by rw[Au.out];exact bK)] at this;exact this
        have O5:Hid (∀z,az [] w7 z->(loadVar 195 ⟨w3.heap.size,0,none⟩).run prog z= .ok (.agg (aW r).toArray) z):=λz ak=>eY (aD.keep ak (by simp)) BS.out
        have Fj:=au (λz=>Iq (a:=iG E k) (b:=r) (lC _ _ _) BS.out z);have cf:=tH;have iZ:=au fK;have ac:=au J;obtain⟨t2,ar⟩:∃t2,decide (iG E k=r)=t2:=⟨_,rfl⟩;rw[ar] at Fj;have bX:=Fj.out;have D8:Hid (C3 (aA B ps) l m k↔t2=true):=by
         show _↔_;rw[L6.out,<-ar,decide_eq_true_iff];refine⟨λh=>h.2.2,λh=>⟨by omega,λi hi=>ae i ?_,h⟩⟩;have :=HC.out;omega
        clear J ae aD fK aC bf ar Fj;generalize (aW (iG E k)).toArray=ZQ at *;generalize (aW r).toArray=ZP at *;cases t2;all_goals
         go_wp2_with fail;refine dX (S:=λz=>az [] w7 z) (by kernel_rfl) (by kernel_rfl) (λd _ _ _ _ h=>by cases d<;>exact h) ((az.refl _ _).drew) (by kernel_rfl) ?_;repeat (first
          |(refine aK.cons (.agg ZP) (bc.load rfl 195 (.tmp 12) rfl _ rfl λz G=>O5.out z G) ?_;simp only[Act.put,ag,ah,ai])
          |(refine aK.cons (.agg ZQ) (bc.call rfl 196 #[v9,.int .i64 (k:Int)] ?V ?h) ?_;(case V=>(intro wz;go_simp));(case h=>exact λz G=>(WC.out z G).mono λe w' V=>⟨V.1,G.trans' V.2⟩);simp only[Act.put,ag,ah,ai])
          |(refine aK.cons ?_ (bc.val rfl ?h) ?_;(case h=>(intro z G;clear G;go_simp;rfl));simp only[Act.put,ag,ah,ai]))
         refine aK.done λwz G=> ?_
         have wO:=au G;clear G
        ·have HN:Hid (¬na (aA B ps) l m):=KV.out λh=>by have :=D8.out.1 h;cases this
         have qB:=au (fW.out.trans' (iZ.out.trans' wO.out));go_wp2_with fail;go_ret2;exact mG.no HN.out qB.out
        ·have WG:Hid (wz.ownsRow (w.heap.size+1) 87 2 v9 (min m (4*(k+1))) (eH (E.take (4*(k+1))))/\(∀i,i<k+1->C3 (aA B ps) l m i)/\az [] (w.alloc (.cells Z 109)) wz):=by
          refine⟨?_,λi hi=> ?_,iZ.out.trans' wO.out⟩
          ·have h1:=dB ac.out wO.out (by simp)
           have aO:=HC.out;rw[show min m (4*(k+1))=4*k+c by omega];have e:E.take (4*(k+1))=E.take (4*k+c):=by
            by_cases h4:c=4
            ·rw[h4,Nat.mul_add]
            ·rw[aV (by rw[Au.out];omega),aV (by rw[Au.out];omega)]
           rw[e];exact h1
          ·by_cases e:i=k
           ·subst e;exact D8.out.2 (by simp)
           ·exact tG.out i (by omega)
         go_wp2_with fail;go_roundg gg;case measure=>omega
         case rel=>exact⟨k+1,by omega,by go_num,WG.out⟩
       ·have HN:Hid (¬na (aA B ps) l m):=KV.out λh=>aM (ba.out.2 λj U=>(L6.out.1 h).2.1 j (by have :=HC.out;omega))
        have qB:=au (fW.out.trans' ((iZ.out.trans' qG.out).trans' kG));clear aM kG SR;go_wp2_with fail;go_ret2;exact mG.no HN.out qB.out
def oM (w:World) (v:Value) (g:Nat) (Ls:List (List Int)):Prop:=
 ∃a cap,v= .slice a Ls.length cap/\Ls.length<=cap/\cap<=maxLen/\(Ls.length≠0->g<w.heap.size/\∃off,a=some ⟨g,off,none⟩/\∀k,k<Ls.length->∀j,j<8->w.cell? ⟨g,off+k*8+j,none⟩=some (.int .u64 ((Ls.getD k []).getD j 0)))
theorem oM.keep{Ls:List (List Int)}(h:oM w v g Ls){l:List Nat}(J:az l w w')(W:Ls.length≠0->g∉l):oM w' v g Ls:=by
 obtain⟨a,cap,V,h2,h3,h4⟩:=h;refine⟨a,cap,V,h2,h3,λU=> ?_⟩;obtain⟨z,off,h5,h6⟩:=h4 U;refine⟨bL z J.size,off,h5,λk G j hj=> ?_⟩;exact(aO (w:=w) (w':=w') (a:=⟨g,off+k*8+j,none⟩) (J.block g z (W U))).trans (h6 k G j hj)
theorem oM.nil(w:World)(g:Nat):oM w (.slice none 0 0) g []:=⟨none,0,rfl,by simp,by simp[maxLen],λh=>absurd rfl h⟩
def ml (n:bP) (own:List Nat):List Int:=
 if (fu n.B).length<=6 then oh n::n.S::(fu n.B++List.replicate (6-(fu n.B).length) 0) else oh n::n.S::((fu n.B).take 5++[9223372036854775808+((own.getD 0 0:Nat):Int)])
def jW (n:bP):List (List Int):=
 if (fu n.B).length<=6 then [] else [(fu n.B).drop 5++List.replicate (13-(fu n.B).length) 0]
def oN (w:World) (R:List Int) (z:List (List Int)) (e:Ending) (w':World):Prop:=
 ∃h gb,e= .returned (.tuple #[.agg (aW R).toArray,h])/\oM w' h gb z/\w.heap.size<=gb/\az [] w w'
theorem dH{fn:Func}{tmps:Array Value}{t:Nat}{z:Addr}{x:Value}(h:fn.results= #[.cell a t,.tmp b])(J:tmps.getD a undef= .pointer (some z))(U:(loadVar t z).run P w= .ok v w)
  (G:tmps.getD b undef=x):(results fn tmps).run P w= .ok (.tuple #[v,x]) w:=by
 rw[fX] at J G;unfold results;rw[h];simp[J,uW,U,G]
theorem lD{z:Array Oper}{o:Oper}{a:Act}{K:Act->World->Prop}{Q:Exit->Act->World->Prop}{E:Prop}(G:o.guard=none)(ty:TypeId)(x y:Operand)(ho:o.op= .store ty x y)(J:Addr)
  (W:a.eval x= .pointer (some J)) (v:Value) (V:a.eval y=v) (w':World) (U:(storeVar ty J v).run P w= .ok () w') (h:K (a.put o.dst undef) w'):if Region.wanted o (yielded z a.tmps)=true then Oper.wp P o a w K Q else E:=by
 have hw:Region.wanted o (yielded z a.tmps)=true:=by simp[Region.wanted,G]
 rw[aC hw];unfold Oper.wp execOp;simp only[ho,W,V,Instr.storeAt,Instr.sureAddr,cg,fO,cm,U];exact h
theorem pD{L:List Int}{V G J U W a5 a6 z:Value}(hb:bh w b #[V,G,J,U,W,a5,a6,z] T)(hl:L.length=8)(h:aW L=[V,G,J,U,W,a5,a6,z]):oM w (.slice (some ⟨b,0,none⟩) 1 1) b [L]:=by
 refine⟨_,1,rfl,aI _,by unfold maxLen;omega,λ_=>⟨hb.lt,0,rfl,λk hk j hj=> ?_⟩⟩;have dt:k=0:=by
  have :k<1:=hk;omega
 subst dt;have e:(0+0*8+j:Nat)=j:=by omega
 rw[e,hb.cell];have h2:(#[V,G,J,U,W,a5,a6,z]:Array Value)=(aW L).toArray:=by rw[h]
 rw[h2,aF,dA (by omega)];rfl
theorem rJ (b:Nat)(w:World):(Instr.sliceAt 195 (.pointer (some ⟨b,0,none⟩)) (some (.int .i64 2)) none none).run prog w= .ok (.slice (some ⟨b,2,none⟩) 6 6) w:=by show Sem.run _ _ _=_;kernel_rfl
theorem Fk (n:bP)(v:Value)(hB:n.B.length=13)(ht:yK n)(vo:Value)(own:List Nat)(h6:(fu n.B).length<=6):
  Calls prog 218 #[.agg (aR n v),vo] w (oN w (ml n own) (jW n)):=by
 have af:ml n own=oh n::n.S::(fu n.B++List.replicate (6-(fu n.B).length) 0):=aC h6;have ah:jW n=[]:=aC h6;rw[af,ah];have HH:=au (D5 n v hB ht);have EW:=au (λwx=>JO n.B hB wx);obtain⟨V,z⟩:∃V,V=(w.alloc (.cells (aR n v) 111)).alloc (.cells (aW (List.replicate 8 0)).toArray 195):=⟨_,rfl⟩;have ac:bh V w.heap.size (aR n v) 111 :=by
  rw[z];exact(bh.new w _ _).alloc _
 have KW:Hid (bh V (w.heap.size+1) (aW (List.replicate 8 0)).toArray 195):=by
  have :=bh.new (w.alloc (.cells (aR n v) 111)) (aW (List.replicate 8 0)).toArray 195;have e:(w.alloc (.cells (aR n v) 111)).heap.size=w.heap.size+1:=by simp
  rw[e,<-z] at this;exact this
 have fW:Hid (az [] w V):=by
  rw[z];exact((az.refl [] w).alloc _).alloc _
 have vY:=au (ct ac hB);have pX:Hid (∀wx,az [] V wx->(loadVar 109 ⟨w.heap.size,4,none⟩).run prog wx= .ok (.agg (zs n.B).toArray) wx):=λwx hk=>fc (off:=4) (ac.keep hk (by simp)) hB λk hk=>BK _ (by omega)
 have aD:=kC;have ax:(fu n.B).length<=13:=lN n.B 13;have qC:=au z;have LR:Hid (tN n=oh n::n.S::List.replicate 6 0):=rfl;have WH:=BM n;generalize oh n=t at *;generalize n.S=s at *;generalize tN n=H at *;generalize fu n.B=R at *;generalize (zs n.B).toArray=ZB at *;generalize aR n v=Z at *;clear ac z af ah ht hB;generalize wK:(aW (List.replicate 8 0)).toArray=Z8 at *;have xR:=au wK;clear wK;go_enter func218,ntmps218;go_wp2_with((with_reducible show wpList _ _ _ (⟨_,.load 111 (.tmp 2),_,_,_,_⟩::_) _ _);rw[<-qC.out];refine gH rfl 111 (.tmp 2) rfl _ rfl _ vY.out ?_);refine(HH.out _).mono ?_;rintro e w1 ⟨rfl,G⟩;obtain⟨w2,ae,yP,ai⟩:=bB (P:= prog) (ty:= 195) (cs:=aW H) (by rw[bp,WH];exact ja) (bh.new w1 Z8 195) (by rw[<-xR.out];simp[bp,WH]) (fh _);have sW:az [] V w2:=(G.alloc (.cells Z8 195)).trans ai (by intro x hx;rw[ay] at hx;have :=G.size;omega);have ar:w.heap.size+1<w1.heap.size:=bL KW.out.lt G.size;have aj:=au ae;have Q6:=au yP;have fL:=au sW;have ak:=au (pX.out w2 sW);clear ae yP ai sW G HH;generalize aA:w1.heap.size=g6 at *;go_wp2_with(first|(with_reducible refine gS 195 aj.out ?_)|(with_reducible refine gL 109 ak.out ?_));refine(EW.out _).mono ?_;rintro e w3 ⟨va,ga,rfl,KU,tv,J⟩;obtain⟨vc,w4,yO,Fl,W⟩:=pB (o:=2) (n:=6) (cap:=6) (Q6.out.keep J (by simp)) KU h6 (by rw[WH];omega);obtain⟨aa,ca,rfl,-,-,-⟩:=iB KU;have U:H.take 2++R++H.drop (2+R.length)=t::s::(R++List.replicate (6-R.length) 0):=by
  rw[LR.out,show 2+R.length=R.length+1+1 by omega,List.drop_succ_cons,List.drop_succ_cons,jq];rfl
 rw[U] at Fl;have h:(t::s::(R++List.replicate (6-R.length) 0)).length=8:=by simp;omega
 have SS:=au (eY Fl h);have pW:Hid (az [] w w4):=((fW.out.trans' fL.out).trans' J).trans W (by intro x hx;rw[ay] at hx;omega);have ag:bh w4 (w.heap.size+1) Z8 195 :=(((KW.out.keep fL.out (by simp)).keep J (by simp)).keep W (by rw[ay];omega));obtain⟨w5,hS,rI,j6⟩:=bB (P:= prog) (ty:= 195) (cs:=aW (t::s::(R++List.replicate (6-R.length) 0))) (by rw[bp,h];exact ja) ag (by rw[<-xR.out];simp[bp,h]) (fh _);have HS:=au hS;have IH:=au (eY rI h);have qG:Hid (az [] w w5):=pW.out.trans j6 (by intro x hx;rw[ay] at hx;omega);have Zj:=au yO;have av:=rJ g6;have aB:(R.length:Int)<=6:=by omega
 clear KU tv J yO Fl W U h ag hS rI j6 WH;go_wp2_with(first|((with_reducible show wpList _ _ _ (⟨some 20,_,_,_,_,_⟩::_) _ _);refine iQ rfl (.tmp 18) (.tmp 19) 71 71 rfl _ _ rfl rfl (Zj.out _) ?_)|(with_reducible refine gL 195 SS.out ?_)|(with_reducible refine gS 195 HS.out ?_));exact aL (dH results218 rfl IH.out rfl) rfl ⟨_,w.heap.size,rfl,oM.nil _ _,aI _,qG.out⟩
theorem rK{xs:List Nat}(h:Reads w v g (dE xs)):∃a cap,v= .slice a xs.length cap/\xs.length<=cap/\cap<=maxLen/\
  Hid (∀k,k<xs.length->g<w.heap.size/\∃off,a=some ⟨g,off,none⟩/\w.cell? ⟨g,off+k,none⟩=some (.int .i64 ((xs.getD k 0:Nat):Int))):=by
 obtain⟨a,cap,U,G,V,h3⟩:=h;rw[fI] at *;refine⟨a,cap,U,G,V,λk z=> ?_⟩;obtain⟨J,off,W,hc⟩:=h3 (by intro e;have :=cB List.length e;rw[fI,b8] at this;omega);exact⟨J,off,W,(hc k z).trans (np z)⟩
theorem Reads.part{off L cap:Nat}{R:List Int}(h:Reads w (.slice (some ⟨g,off,none⟩) L cap) g (aW R)){o n:Nat}(hn:o+n<=R.length):Reads w (.slice (some ⟨g,off+o,none⟩) n (cap-o)) g (aW ((R.drop o).take n)):=by
 obtain⟨a,c,W,V,h2,h3⟩:=h;cases W;rw[bp] at V;have z:(aW ((R.drop o).take n)).length=n:=by rw[bp,aJ,bE];omega
 refine⟨_,cap-o,by rw[z],by rw[z];omega,by omega,λhx=> ?_⟩;have aa:0<n:=by
  rcases eT n with G|G
  ·subst G;exact absurd (bg z) hx
  ·exact G
 obtain⟨hg,U,ho,hc⟩:=h3 (by intro e;have :=cB List.length e;rw[bp,b8] at this;omega);cases ho;refine⟨hg,_,rfl,λj J=> ?_⟩;rw[z] at J;have :=hc (o+j) (by rw[bp];omega);rw[Nat.add_assoc,this,dA (by omega),dA (by rw[aJ,bE];omega)];simp[J]
theorem J0 (n:bP)(v:Value)(hB:n.B.length=13)(ht:yK n)(vo:Value)(go:Nat)(own:List Nat)(ho:Reads w vo go (dE own))(bC:own.getD 0 0<256)(h1:1<=own.length)(h6:6<(fu n.B).length):
  Calls prog 218 #[.agg (aR n v),vo] w (oN w (ml n own) (jW n)):=by
 have bf:ml n own=oh n::n.S::((fu n.B).take 5++[9223372036854775808+((own.getD 0 0:Nat):Int)]):=aB (by omega);have bn:jW n=[(fu n.B).drop 5++List.replicate (13-(fu n.B).length) 0]:=aB (by omega);rw[bf,bn];obtain⟨ao,co,rfl,L9,b9,VA⟩:=rK ho;obtain⟨bu,O6,rfl,ak⟩:=VA.out 0 (by omega);have bQ:0<(own.length:Int):=by omega
 obtain⟨x0,bl⟩:∃x0,x0=own.getD 0 0:=⟨_,rfl⟩;rw[<-bl] at bC ak ⊢;rw[dR] at ak;have N9:=au ak;clear ak bl VA ho;have HH:=au (D5 n v hB ht);have EW:=au (λV=>JO n.B hB V);obtain⟨W0,af⟩:∃W0,W0=(w.alloc (.cells (aR n v) 111)).alloc (.cells (aW (List.replicate 8 0)).toArray 195):=⟨_,rfl⟩;have aK:bh W0 w.heap.size (aR n v) 111 :=by
  rw[af];exact(bh.new w _ _).alloc _
 have KW:Hid (bh W0 (w.heap.size+1) (aW (List.replicate 8 0)).toArray 195):=by
  have :=bh.new (w.alloc (.cells (aR n v) 111)) (aW (List.replicate 8 0)).toArray 195;have e:(w.alloc (.cells (aR n v) 111)).heap.size=w.heap.size+1:=by simp
  rw[e,<-af] at this;exact this
 have fW:Hid (az [] w W0):=by
  rw[af];exact((az.refl [] w).alloc _).alloc _
 have vY:=au (ct aK hB);have pX:Hid (∀V,az [] W0 V->(loadVar 109 ⟨w.heap.size,4,none⟩).run prog V= .ok (.agg (zs n.B).toArray) V):=λV hk=>fc (off:=4) (aK.keep hk (by simp)) hB λk hk=>BK _ (by omega)
 have cf:=kC;have bS:(fu n.B).length<=13:=lN n.B 13;have qC:=au af;have LR:Hid (tN n=oh n::n.S::List.replicate 6 0):=rfl;have WH:=BM n;generalize oh n=t at *;generalize n.S=s at *;generalize tN n=H at *;generalize fu n.B=R at *;generalize (zs n.B).toArray=ZB at *;generalize aR n v=Z at *;clear aK af bf bn ht hB;generalize wK:(aW (List.replicate 8 0)).toArray=Z8 at *;have xR:=au wK;clear wK;go_enter func218,ntmps218;go_wp2_with((with_reducible show wpList _ _ _ (⟨_,.load 111 (.tmp 2),_,_,_,_⟩::_) _ _);rw[<-qC.out];refine gH rfl 111 (.tmp 2) rfl _ rfl _ vY.out ?_);refine(HH.out _).mono ?_;rintro e w1 ⟨rfl,aj⟩;obtain⟨w2,aT,yP,aQ⟩:=bB (P:= prog) (ty:= 195) (cs:=aW H) (by rw[bp,WH];exact ja) (bh.new w1 Z8 195) (by rw[<-xR.out];simp[bp,WH]) (fh _);have sW:az [] W0 w2:=(aj.alloc (.cells Z8 195)).trans aQ (by intro x hx;rw[ay] at hx;have :=aj.size;omega);have b7:w.heap.size+1<w1.heap.size:=bL KW.out.lt aj.size;have bq:=au aT;have Q6:=au yP;have fL:=au sW;have bF:=au (pX.out w2 sW);clear aT yP aQ sW aj HH;generalize cd:w1.heap.size=g6 at *;go_wp2_with(first|(with_reducible refine gS 195 bq.out ?_)|(with_reducible refine gL 109 bF.out ?_));refine(EW.out _).mono ?_;rintro e w3 ⟨va,ga,rfl,KU,tv,av⟩;obtain⟨aa,ca,rfl,bU,cg,bH⟩:=iB KU;obtain⟨-,aZ,rfl,-⟩:=bH.out 0 (by omega);have aI:=KU.part (o:=0) (n:=5) (by omega);rw[dR,Nat.sub_zero,List.drop_zero] at aI;have SE:(R.take 5).length=5:=by rw[aJ];omega
 obtain⟨vc,w4,yO,Fl,ar⟩:=pB (w:=w3.drew) (o:=2) (n:=6) (cap:=6) (Q6.out.keep av (by simp)).drew (show Reads w3.drew _ ga (aW (R.take 5)) from aI) (by omega) (by rw[WH];omega);have JV:=yO 3;have bD:=rJ g6;have b6:¬(R.length:Int)<=6:=by omega
 have bX:(5:Int)<=(ca:Int):=by omega
 have b8:5<=ca:=by omega
 go_wp2_with fail;go_region_with (fail)
 have pW:Hid (az [] w w4):=(((fW.out.trans' fL.out).trans' av).drew).trans ar (by intro x hx;rw[ay] at hx;omega);have aA:H.take 2++R.take 5++H.drop (2+(R.take 5).length)=t::s::(R.take 5++[0]):=by
  rw[LR.out,SE];rfl
 rw[aA] at Fl;have bv:(t::s::(R.take 5++[(0:Int)])).length=8:=by simp[SE]
 have aS:Hid (bh w4 (w.heap.size+1) Z8 195):=((KW.out.keep fL.out (by simp)).keep av (by simp)).drew.keep ar (by rw[ay];omega);have bJ:g6<w2.heap.size:=Q6.out.lt;have bW:g6<ga:=by omega
 have bj:Hid (Reads w4 (.slice (some ⟨ga,aZ,none⟩) R.length ca) ga (aW R)):=(show Reads w3.drew _ ga (aW R) from KU).keep ar (by rw[ay];omega);have bz:=(aO (w:=w) (w':=w4) (a:=⟨go,O6,none⟩) (pW.out.block go bu (by simp))).trans N9.out;have c7:w4.cell? ⟨g6,7,none⟩=some (.int .u64 ((t::s::(R.take 5++[(0:Int)])).getD 7 0)):=by
  rw[Fl.cell,aF,dA (by omega)]
 have f7:w4.frozen? ⟨g6,7,none⟩=false:=Fl.frozen 7;have bk:bits .or .u64 9223372036854775808 (x0:Int)=((9223372036854775808+x0:Nat):Int):=by
  rw[show(9223372036854775808:Int)=((9223372036854775808:Nat):Int) from rfl,u64_or_nat _ _ (by omega) (by omega),nat_join 63 _ _ (by decide) (by omega)]
 obtain⟨X,hX⟩:∃X:Int,X=((9223372036854775808+x0:Nat):Int):=⟨_,rfl⟩;rw[<-hX] at bk;have ac:(9223372036854775808:Int)+((x0:Nat):Int)=X:=by omega
 rw[ac];have br:=mD (x:=(x0:Int)) (by omega) (by omega);have aC:bh (w4.setCell ⟨g6,7,none⟩ (.int .u64 X)) g6 (aW (t::s::(R.take 5++[X]))).toArray 195 :=by
  have :=Fl.set 7 (.int .u64 X);rw[ag,lT] at this;have e:(t::s::(R.take 5++[(0:Int)])).set 7 X=t::s::(R.take 5++[X]):=by
   rw[ai,ai,dx _ _ (by omega),SE];rfl
  rw[e] at this;exact this
 have bI:=au aC;have Az:Hid ((t::s::(R.take 5++[X])).length=8):=by show _=_;simp[SE]
 obtain⟨W5,ah⟩:∃W5,W5=(w4.setCell ⟨g6,7,none⟩ (.int .u64 X)).alloc (.cells Z8 195):=⟨_,rfl⟩;have bt:=au ah;have bA:(w4.setCell ⟨g6,7,none⟩ (.int .u64 X)).heap.size=w4.heap.size:=by simp[World.setCell]
 have WI:Hid (bh W5 w4.heap.size (aW (List.replicate 8 0)).toArray 195):=by
  have :=bh.new (w4.setCell ⟨g6,7,none⟩ (.int .u64 X)) Z8 195;rw[bA,<-ah,<-xR.out] at this;exact this
 have aH:Hid (az [g6] w4 W5):=by
  rw[ah];exact((az.refl [g6] w4).setCell (.inl (by simp)) _).alloc _
 have bb:Hid (bh W5 g6 (aW (t::s::(R.take 5++[X]))).toArray 195):=by
  rw[ah];exact aC.alloc _
 have bM:g6<w4.heap.size:=Fl.lt;generalize (t::s::(R.take 5++[(0:Int)])).getD 7 0=y7 at *;clear Fl aC ar yO JV aI aA bv av KU tv ah hX;go_wp2_with fail;rw[<-bt.out];have bc:Hid (Reads W5 (.slice (some ⟨ga,aZ,none⟩) R.length ca) ga (aW R)):=bj.out.keep aH.out (by rw[ay];omega);have aM:=bc.out.part (o:=5) (n:=R.length-5) (by omega);rw[aV (by rw[bE];omega)] at aM;have bg:(R.drop 5).length=R.length-5:=bE;obtain⟨bT,U,Wx,DD,kG⟩:=pB (w:=W5.drew) (o:=0) (n:=8) (cap:=8) (bh.drew WI.out) (show Reads W5.drew _ ga (aW (R.drop 5)) from aM) (by omega) (by rw[bG];omega);have bw:=Wx 3;have aU:(List.replicate 8 (0:Int)).take 0++R.drop 5++(List.replicate 8 (0:Int)).drop (0+(R.drop 5).length)=R.drop 5++List.replicate (13-R.length) 0:=by
  rw[bg,eV,bY,aX,jq,show 8-(R.length-5)=13-R.length by omega]
 rw[aU] at DD;have bO:=vh w4.heap.size;have bR:(5:Int)<=(R.length:Int):=by omega
 have bK:¬ca=5:=by omega
 have bV:5<=R.length:=by omega
 clear bk br c7 f7 bz bD;go_region_with (fail)
 have ax:(R.drop 5++List.replicate (13-R.length) 0).length=8:=by rw[aD,bg,bG];omega
 have bZ:w4.heap.size<U.heap.size:=DD.lt;have SS:Hid (∀V,az [w.heap.size+1] U V->(loadVar 195 ⟨g6,0,none⟩).run prog V= .ok (.agg (aW (t::s::(R.take 5++[X]))).toArray) V):=λV hk=>eY (((bh.drew bb.out).keep kG (by rw[ay];omega)).keep hk (by rw[ay];omega)) Az.out
 have SU:Hid (∀V,az [w.heap.size+1] U V->(loadVar 195 ⟨w4.heap.size,0,none⟩).run prog V= .ok (.agg (aW (R.drop 5++List.replicate (13-R.length) 0)).toArray) V):=λV hk=>eY (DD.keep hk (by rw[ay];omega)) ax
 have ba:bh U (w.heap.size+1) Z8 195 :=(bh.drew (aS.out.keep aH.out (by rw[ay];omega))).keep kG (by rw[ay];omega);have SM:Hid (∀V,az [] U V->∃G,(storeVar 195 ⟨w.heap.size+1,0,none⟩ (.agg (aW (t::s::(R.take 5++[X]))).toArray)).run prog V= .ok () G/\bh G (w.heap.size+1) (aW (t::s::(R.take 5++[X]))).toArray 195/\az [w.heap.size+1] V G):=λV hk=>
  bB (P:= prog) (ty:= 195) (cs:=aW (t::s::(R.take 5++[X]))) (by rw[bp,Az.out];exact ja) (ba.keep hk (by simp)) (by rw[<-xR.out,bN,bp,bp,Az.out,bG]) (fh _)
 have o8:Hid (az [] w U):=((pW.out.trans aH.out (by intro x hx;rw[ay] at hx;omega)).drew).trans kG (by intro x hx;rw[ay] at hx;omega);clear DD kG Wx bw aM aU ba bc bj WI bb bI aS;generalize aY:aW (t::s::(R.take 5++[X]))=ZO at *;generalize aN:aW (R.drop 5++List.replicate (13-R.length) 0)=aG at *;have bo:aG.length=8:=by rw[<-aN,bp,ax]
 obtain⟨a0,W,a2,a3,a4,a5,a6,a7,rfl⟩:∃a0 W a2 a3 a4 a5 a6 a7,aG=[a0,W,a2,a3,a4,a5,a6,a7]:=by
  match aG,bo with
  | [a,b,c,d,e,f,g,h],_=>exact⟨a,b,c,d,e,f,g,h,rfl⟩
 have ae:=au aN;have Fm:=au aY;have SV:=au ax;clear aN aY bo ax;go_wp2_with fail;refine jn (by kernel_rfl) ?_
 (try (change wpAny _ _ _ _ _ _ _ (World.drew _)))
 refine eD (rs:=[0,1]) (by kernel_rfl) (by simp) ?_;refine cH rfl (λK z=> ?_) ?_
 ·refine l7 rfl 195 (.tmp 6) rfl _ rfl _ (SS.out _ (by first|exact(az.refl _ _).drew|exact((az.refl _ _).drew).alloc _|exact((az.refl _ _).drew).trans' J.out|exact(((az.refl _ _).drew).alloc _).trans' J.out|exact(((az.refl _ _).drew).trans' J.out).alloc _)) ?_
  refine z _ _ ?_;clear z K;refine eD (rs:=[1,3]) (by kernel_rfl) (by simp) ?_;refine cH rfl (λK z=> ?_) ?_
  ·refine l7 rfl 195 (.tmp 9) rfl _ rfl _ (SU.out _ (by first|exact(az.refl _ _).drew|exact((az.refl _ _).drew).alloc _|exact((az.refl _ _).drew).trans' J.out|exact(((az.refl _ _).drew).alloc _).trans' J.out|exact(((az.refl _ _).drew).trans' J.out).alloc _)) ?_
   refine z _ _ ?_;clear z K;refine eD (rs:=[2,3]) (by kernel_rfl) (by simp) ?_;refine cH rfl (λK z=> ?_) ?_
   ·go_simp
    refine z _ _ ?_;clear z K;refine eD (rs:=[3]) (by kernel_rfl) (by simp) ?_;refine cH rfl (λK z=> ?_) ?_
    ·obtain⟨G,hS,uM,II⟩:=SM.out _ (((az.refl _ _).drew).alloc _)
     have HS:=au hS;have G1:=au uM;have J:=au II;clear hS uM II;refine lD rfl 195 (.tmp 4) (.tmp 38) rfl _ rfl _ rfl _ HS.out ?_;refine z _ _ ?_;clear z K;refine eD (rs:=[4]) (by kernel_rfl) (by simp) ?_;refine cH rfl (λK z=> ?_) ?_
     ·go_simp
      refine z _ _ ?_;clear z K;refine wpAny_done (by kernel_rfl) ?_ _;go_wp2_with fail;have tM:bh G U.heap.size #[a0,W,a2,a3,a4,a5,a6,a7] 195 :=bh.keep (bh.new U.drew #[a0,W,a2,a3,a4,a5,a6,a7] 195) J.out (by rw[ay];show ¬U.heap.size=_;omega);have Ma:az [] w G:=((o8.out.drew).alloc _).trans J.out (by intro x hx;rw[ay] at hx;omega);exact aL (dH results218 rfl (by have :=G1.out;rw[<-Fm.out] at this;exact eY this Az.out) rfl) rfl ⟨.slice (some ⟨U.heap.size,0,none⟩) 1 1,U.heap.size,(by rw[ac,Fm.out];rfl),pD tM SV.out ae.out,by omega,Ma⟩
     exact dV
    exact dV
   refine cH rfl (λK z=> ?_) ?_
   ·obtain⟨G,hS,uM,II⟩:=SM.out _ ((az.refl _ _).drew)
    have HS:=au hS;have G1:=au uM;have J:=au II;clear hS uM II;refine lD rfl 195 (.tmp 4) (.tmp 38) rfl _ rfl _ rfl _ HS.out ?_;refine z _ _ ?_;clear z K;refine eD (rs:=[2]) (by kernel_rfl) (by simp) ?_;refine cH rfl (λK z=> ?_) ?_
    ·go_simp
     refine z _ _ ?_;clear z K;refine eD (rs:=[4]) (by kernel_rfl) (by simp) ?_;refine cH rfl (λK z=> ?_) ?_
     ·go_simp
      refine z _ _ ?_;clear z K;refine wpAny_done (by kernel_rfl) ?_ _;go_wp2_with fail;have tM:bh (G.alloc (.cells #[a0,W,a2,a3,a4,a5,a6,a7] 195)) G.heap.size #[a0,W,a2,a3,a4,a5,a6,a7] 195 :=bh.new G #[a0,W,a2,a3,a4,a5,a6,a7] 195;have aP:U.heap.size<=G.heap.size:=J.out.size;have Ma:az [] w (G.alloc (.cells #[a0,W,a2,a3,a4,a5,a6,a7] 195)):=((o8.out.drew).trans J.out (by intro x hx;rw[ay] at hx;omega)).alloc _;exact aL (dH results218 rfl (by have :=G1.out;rw[<-Fm.out] at this;exact eY (this.alloc _) Az.out) rfl) rfl ⟨.slice (some ⟨G.heap.size,0,none⟩) 1 1,G.heap.size,(by rw[ac,Fm.out];rfl),pD tM SV.out ae.out,by omega,Ma⟩
     exact dV
    exact dV
   exact dV
  refine cH rfl (λK z=> ?_) ?_
  ·obtain⟨G,hS,uM,II⟩:=SM.out _ ((az.refl _ _).drew)
   have HS:=au hS;have G1:=au uM;have J:=au II;clear hS uM II;refine lD rfl 195 (.tmp 4) (.tmp 38) rfl _ rfl _ rfl _ HS.out ?_;refine z _ _ ?_;clear z K;refine eD (rs:=[1]) (by kernel_rfl) (by simp) ?_;refine cH rfl (λK z=> ?_) ?_
   ·refine l7 rfl 195 (.tmp 9) rfl _ rfl _ (SU.out _ (by first|exact(az.refl _ _).drew|exact((az.refl _ _).drew).alloc _|exact((az.refl _ _).drew).trans' J.out|exact(((az.refl _ _).drew).alloc _).trans' J.out|exact(((az.refl _ _).drew).trans' J.out).alloc _)) ?_
    refine z _ _ ?_;clear z K;refine eD (rs:=[2]) (by kernel_rfl) (by simp) ?_;refine cH rfl (λK z=> ?_) ?_
    ·go_simp
     refine z _ _ ?_;clear z K;refine eD (rs:=[4]) (by kernel_rfl) (by simp) ?_;refine cH rfl (λK z=> ?_) ?_
     ·go_simp
      refine z _ _ ?_;clear z K;refine wpAny_done (by kernel_rfl) ?_ _;go_wp2_with fail;have tM:bh (G.alloc (.cells #[a0,W,a2,a3,a4,a5,a6,a7] 195)) G.heap.size #[a0,W,a2,a3,a4,a5,a6,a7] 195 :=bh.new G #[a0,W,a2,a3,a4,a5,a6,a7] 195;have aP:U.heap.size<=G.heap.size:=J.out.size;have Ma:az [] w (G.alloc (.cells #[a0,W,a2,a3,a4,a5,a6,a7] 195)):=((o8.out.drew).trans J.out (by intro x hx;rw[ay] at hx;omega)).alloc _;exact aL (dH results218 rfl (by have :=G1.out;rw[<-Fm.out] at this;exact eY (this.alloc _) Az.out) rfl) rfl ⟨.slice (some ⟨G.heap.size,0,none⟩) 1 1,G.heap.size,(by rw[ac,Fm.out];rfl),pD tM SV.out ae.out,by omega,Ma⟩
     exact dV
    exact dV
   exact dV
  exact dV
 refine cH rfl (λK z=> ?_) ?_
 ·refine l7 rfl 195 (.tmp 9) rfl _ rfl _ (SU.out _ (by first|exact(az.refl _ _).drew|exact((az.refl _ _).drew).alloc _|exact((az.refl _ _).drew).trans' J.out|exact(((az.refl _ _).drew).alloc _).trans' J.out|exact(((az.refl _ _).drew).trans' J.out).alloc _)) ?_
  refine z _ _ ?_;clear z K;refine eD (rs:=[0,2]) (by kernel_rfl) (by simp) ?_;refine cH rfl (λK z=> ?_) ?_
  ·refine l7 rfl 195 (.tmp 6) rfl _ rfl _ (SS.out _ (by first|exact(az.refl _ _).drew|exact((az.refl _ _).drew).alloc _|exact((az.refl _ _).drew).trans' J.out|exact(((az.refl _ _).drew).alloc _).trans' J.out|exact(((az.refl _ _).drew).trans' J.out).alloc _)) ?_
   refine z _ _ ?_;clear z K;refine eD (rs:=[2,3]) (by kernel_rfl) (by simp) ?_;refine cH rfl (λK z=> ?_) ?_
   ·go_simp
    refine z _ _ ?_;clear z K;refine eD (rs:=[3]) (by kernel_rfl) (by simp) ?_;refine cH rfl (λK z=> ?_) ?_
    ·obtain⟨G,hS,uM,II⟩:=SM.out _ (((az.refl _ _).drew).alloc _)
     have HS:=au hS;have G1:=au uM;have J:=au II;clear hS uM II;refine lD rfl 195 (.tmp 4) (.tmp 38) rfl _ rfl _ rfl _ HS.out ?_;refine z _ _ ?_;clear z K;refine eD (rs:=[4]) (by kernel_rfl) (by simp) ?_;refine cH rfl (λK z=> ?_) ?_
     ·go_simp
      refine z _ _ ?_;clear z K;refine wpAny_done (by kernel_rfl) ?_ _;go_wp2_with fail;have tM:bh G U.heap.size #[a0,W,a2,a3,a4,a5,a6,a7] 195 :=bh.keep (bh.new U.drew #[a0,W,a2,a3,a4,a5,a6,a7] 195) J.out (by rw[ay];show ¬U.heap.size=_;omega);have Ma:az [] w G:=((o8.out.drew).alloc _).trans J.out (by intro x hx;rw[ay] at hx;omega);exact aL (dH results218 rfl (by have :=G1.out;rw[<-Fm.out] at this;exact eY this Az.out) rfl) rfl ⟨.slice (some ⟨U.heap.size,0,none⟩) 1 1,U.heap.size,(by rw[ac,Fm.out];rfl),pD tM SV.out ae.out,by omega,Ma⟩
     exact dV
    exact dV
   refine cH rfl (λK z=> ?_) ?_
   ·obtain⟨G,hS,uM,II⟩:=SM.out _ ((az.refl _ _).drew)
    have HS:=au hS;have G1:=au uM;have J:=au II;clear hS uM II;refine lD rfl 195 (.tmp 4) (.tmp 38) rfl _ rfl _ rfl _ HS.out ?_;refine z _ _ ?_;clear z K;refine eD (rs:=[2]) (by kernel_rfl) (by simp) ?_;refine cH rfl (λK z=> ?_) ?_
    ·go_simp
     refine z _ _ ?_;clear z K;refine eD (rs:=[4]) (by kernel_rfl) (by simp) ?_;refine cH rfl (λK z=> ?_) ?_
     ·go_simp
      refine z _ _ ?_;clear z K;refine wpAny_done (by kernel_rfl) ?_ _;go_wp2_with fail;have tM:bh (G.alloc (.cells #[a0,W,a2,a3,a4,a5,a6,a7] 195)) G.heap.size #[a0,W,a2,a3,a4,a5,a6,a7] 195 :=bh.new G #[a0,W,a2,a3,a4,a5,a6,a7] 195;have aP:U.heap.size<=G.heap.size:=J.out.size;have Ma:az [] w (G.alloc (.cells #[a0,W,a2,a3,a4,a5,a6,a7] 195)):=((o8.out.drew).trans J.out (by intro x hx;rw[ay] at hx;omega)).alloc _;exact aL (dH results218 rfl (by have :=G1.out;rw[<-Fm.out] at this;exact eY (this.alloc _) Az.out) rfl) rfl ⟨.slice (some ⟨G.heap.size,0,none⟩) 1 1,G.heap.size,(by rw[ac,Fm.out];rfl),pD tM SV.out ae.out,by omega,Ma⟩
     exact dV
    exact dV
   exact dV
  refine cH rfl (λK z=> ?_) ?_
  ·go_simp
   refine z _ _ ?_;clear z K;refine eD (rs:=[0]) (by kernel_rfl) (by simp) ?_;refine cH rfl (λK z=> ?_) ?_
   ·refine l7 rfl 195 (.tmp 6) rfl _ rfl _ (SS.out _ (by first|exact(az.refl _ _).drew|exact((az.refl _ _).drew).alloc _|exact((az.refl _ _).drew).trans' J.out|exact(((az.refl _ _).drew).alloc _).trans' J.out|exact(((az.refl _ _).drew).trans' J.out).alloc _)) ?_
    refine z _ _ ?_;clear z K;refine eD (rs:=[3]) (by kernel_rfl) (by simp) ?_;refine cH rfl (λK z=> ?_) ?_
    ·obtain⟨G,hS,uM,II⟩:=SM.out _ (((az.refl _ _).drew).alloc _)
     have HS:=au hS;have G1:=au uM;have J:=au II;clear hS uM II;refine lD rfl 195 (.tmp 4) (.tmp 38) rfl _ rfl _ rfl _ HS.out ?_;refine z _ _ ?_;clear z K;refine eD (rs:=[4]) (by kernel_rfl) (by simp) ?_;refine cH rfl (λK z=> ?_) ?_
     ·go_simp
      refine z _ _ ?_;clear z K;refine wpAny_done (by kernel_rfl) ?_ _;go_wp2_with fail;have tM:bh G U.heap.size #[a0,W,a2,a3,a4,a5,a6,a7] 195 :=bh.keep (bh.new U.drew #[a0,W,a2,a3,a4,a5,a6,a7] 195) J.out (by rw[ay];show ¬U.heap.size=_;omega);have Ma:az [] w G:=((o8.out.drew).alloc _).trans J.out (by intro x hx;rw[ay] at hx;omega);exact aL (dH results218 rfl (by have :=G1.out;rw[<-Fm.out] at this;exact eY this Az.out) rfl) rfl ⟨.slice (some ⟨U.heap.size,0,none⟩) 1 1,U.heap.size,(by rw[ac,Fm.out];rfl),pD tM SV.out ae.out,by omega,Ma⟩
     exact dV
    exact dV
   exact dV
  exact dV
 exact dV
def dN (E:List (ByteArray×Int)) (b:Nat):Nat:=((ez E b).length+2)/3
def fN (E:List (ByteArray×Int)):Nat->Nat
 |0=>0
 |b+1=>fN E b+dN E b
theorem tQ (E:List (ByteArray×Int)){b c:Nat}(h:b<=c):fN E b<=fN E c:=by
 induction h with
 |refl=>exact aI _
 |step h ih=>exact cD ih (Nat.le_add_right _ _)
def xU (l:List (ByteArray×Int)) (x:Nat):List (ByteArray×Int):=(l.drop (3*x)).take 3
theorem mO (l:List (ByteArray×Int))(x:Nat):(xU l x).length=min 3 (l.length-3*x):=by simp[xU]
def yx (ws:List Int) (x:Int):List Int:=x::(ws++List.replicate (7-ws.length) 0)
theorem WJ (h:ws.length<=7)(x:Int):(yx ws x).length=8:=by simp[yx];omega
theorem nX (ws:List Int)(x:Int)(i:Nat):(yx ws x).getD (i+1) 0=ws.getD i 0:=by
 show(ws++List.replicate (7-ws.length) 0).getD i 0=_;rw[aj,aj];by_cases h:i<ws.length
 ·rw[aY h]
 ·rw[aQ (by omega),bo,aT (by omega:ws.length<=i)]
  split<;>rfl
def WK (E:List (ByteArray×Int)) (own:List Nat) (b j:Nat):List Int:=
 yx (eK (xU (ez E b) j)) (if j+1<dN E b then ((own.getD (fN E b+(j+1)) 0:Nat):Int) else 0)
def xm (E:List (ByteArray×Int)) (own:List Nat):Nat->List (List Int)
 |0=>[]
 |b+1=>xm E own b++(List.range (dN E b)).map (WK E own b)
theorem nY (E:List (ByteArray×Int))(own:List Nat):∀b,(xm E own b).length=fN E b
 |0=>rfl
 |b+1=>by rw[xm,fN,aD,nY E own b,bS,eN]
theorem rh (E:List (ByteArray×Int))(own:List Nat){z j:Nat}(J:j<dN E z):∀{b:Nat},z<b->(xm E own b).getD (fN E z+j) []=WK E own z j
 |0,h=>by omega
 |b+1,h=>by
  rw[xm,aj];by_cases e:z=b
  ·subst e
   rw[aQ (by rw[nY];omega),nY,cY];simp[J]
  ·have G:z<b:=by omega
   have U:fN E z+j<fN E b:=by
    have :=tQ E (show z+1<=b from G);rw[fN] at this;omega
   rw[aY (by rw[nY];exact U),<-aj];exact rh E own J G
theorem tS (E:List (ByteArray×Int)){k:Nat}:∀{b:Nat},k<fN E b->∃z j,z<b/\j<dN E z/\k=fN E z+j
 |0,h=>by rw[fN] at h;omega
 |b+1,h=>by
  by_cases G:k<fN E b
  ·obtain⟨z,j,V,U,J⟩:=tS E G
   exact⟨z,j,by omega,U,J⟩
  ·rw[fN] at h
   exact⟨b,k-fN E b,by omega,by omega,by omega⟩
def hdD (E:List (ByteArray×Int)) (own:List Nat) (b:Nat):Int:=if 0<dN E b then ((own.getD (fN E b) 0:Nat):Int) else 0
def zy (E:List (ByteArray×Int)) (own:List Nat) (b p q:Nat):Int:=
 if q<b then hdD E own q else if q=b/\0<p then ((own.getD (fN E q) 0:Nat):Int) else 0
def qH (n:bP) (own:List Nat) (b p:Nat):List Int:=
 [oh n,n.S,zy n.E own b p 0,zy n.E own b p 1,zy n.E own b p 2,zy n.E own b p 3,0,0]
def Fp (n:bP) (own:List Nat):List Int:=qH n own 4 0
theorem xo (n:bP)(own:List Nat)(b p:Nat):(qH n own b p).length=8:=rfl
theorem SX (n:bP)(own:List Nat):qH n own 0 0=oh n::n.S::List.replicate 6 0:=by
 unfold qH zy;simp[List.replicate]
theorem xV (E:List (ByteArray×Int))(own:List Nat)(b q:Nat):zy E own b (dN E b) q=zy E own (b+1) 0 q:=by
 unfold zy;by_cases G:q<b
 ·rw[aC G,aC (by omega)]
 ·rw[aB G]
  by_cases J:q=b
  ·subst J
   rw[aC (show q<q+1 by omega),hdD];by_cases z:0<dN E q
   ·rw[aC ⟨rfl,z⟩,aC z]
   ·rw[aB (λh=>z h.2),aB z]
  ·rw[aB (λh=>J h.1),aB (by omega),aB (by omega)]
theorem SY (n:bP)(own:List Nat)(b:Nat):qH n own b (dN n.E b)=qH n own (b+1) 0:=by
 unfold qH;rw[xV,xV,xV,xV]
theorem SZ (n:bP)(own:List Nat)(b p:Nat)(h:p≠0):qH n own b p=qH n own b (p+1):=by
 have :∀q,zy n.E own b p q=zy n.E own b (p+1) q:=λq=>by
  unfold zy;have z:(q=b/\0<p)↔(q=b/\0<p+1):=by omega
  simp only[z]
 unfold qH;rw[this,this,this,this]
theorem WL (n:bP)(own:List Nat)(b:Nat)(h:b<4):(qH n own b 0).set (2+b) ((own.getD (fN n.E b) 0:Nat):Int)=qH n own b 1:=by
 rcases (show b=0\/b=1\/b=2\/b=3 by omega) with rfl|rfl|rfl|rfl<;>simp[qH,zy]
structure BU (E:List (ByteArray×Int)) (own:List Nat) (b:Nat) (pre:List Nat) (C:List Int):Prop where
 len:C.length=8*own.length
 done:∀b',b'<b->∀j,j<dN E b'->∀i,i<8->C.getD (8*(fN E b'+j)+i) 0=(WK E own b' j).getD i 0
 part:∀j,j<pre.length->∀i,i<8->C.getD (8*(fN E b+j)+i) 0=(yx (eK (xU (ez E b) (pre.getD j 0))) (if j+1<pre.length then ((own.getD (fN E b+(j+1)) 0:Nat):Int) else 0)).getD i 0
 rest:∀i,8*(fN E b+pre.length)<=i->C.getD i 0=0
theorem BU.start(E:List (ByteArray×Int))(own:List Nat):BU E own 0 [] (List.replicate (8*own.length) 0):=
 ⟨by simp,λz h=>by omega,λj h=>by simp at h,λi _=>by
  rw[aj,bo];split<;>rfl⟩
theorem BU.next(h:BU E own b (List.range (dN E b)) C):BU E own (b+1) [] C:=by
 have U:(List.range (dN E b)).length=dN E b:=eN;refine⟨h.len,λJ V j z i G=> ?_,λj z=>by simp at z,λi G=> ?_⟩
 ·by_cases e:J=b
  ·subst e
   have :=h.part j (by rw[U];exact z) i G;rw[U,show(List.range (dN E J)).getD j 0=j by simp[z]] at this;exact this
  ·exact h.done J (by omega) j z i G
 ·refine h.rest i ?_
  rw[U];simpa[fN] using G
def Fq (C:List Int) (a:Nat) (ws:List Int):List Int:=C.take a++ws++C.drop (a+ws.length)
theorem S4 (h:a+ws.length<=C.length):(Fq C a ws).length=C.length:=by simp[Fq];omega
theorem tT (h:a+ws.length<=C.length)(i:Nat):(Fq C a ws).getD i 0=if a<=i/\i<a+ws.length then ws.getD (i-a) 0 else C.getD i 0:=by
 have z:(C.take a).length=a:=by rw[aJ];omega
 unfold Fq;simp only[aj];by_cases G:i<a
 ·rw[aB (by omega),ba,aY (by rw[z];exact G),ij G]
 ·by_cases J:i<a+ws.length
  ·rw[aC ⟨by omega,J⟩,aY (by rw[aD,z];exact J),aQ (by rw[z];omega),z]
  ·rw[aB (by omega),aQ (by rw[aD,z];omega),aD,z,bT,show a+ws.length+(i-(a+ws.length))=i by omega]
theorem WM (C:List Int)(k:Nat)(x:Int)(z:k<C.length)(i:Nat):(C.set k x).getD i 0=if i=k then x else C.getD i 0:=by
 simp only[aj,fg];by_cases h:k=i
 ·subst h;simp[z]
 ·rw[aB h,aB (λe=>h e.symm)]
theorem BU.step{z:List Nat}{C1:List Int}(h:BU E own b z C)(x f:Nat)(hf:f=fN E b+z.length)(ae:f<own.length)
  (h1:C1=if z.length=0 then C else C.set (8*(f-1)) ((own.getD f 0:Nat):Int)):BU E own b (z++[x]) (Fq C1 (8*f+1) (eK (xU (ez E b) x))):=by
 have hw:(eK (xU (ez E b) x)).length<=6:=by rw[kx,mO];omega
 have GK:C1.length=8*own.length:=by rw[h1];split<;>simp[h.len]
 have J:∀i,C1.getD i 0=if z.length≠0/\i=8*(f-1) then ((own.getD f 0:Nat):Int) else C.getD i 0:=λi=>by
  rw[h1];by_cases h0:z.length=0
  ·rw[aC h0,aB (λe=>e.1 h0)]
  ·rw[aB h0,WM _ _ _ (by rw[h.len];omega)]
   by_cases U:i=8*(f-1)
   ·rw[aC U,aC ⟨h0,U⟩]
   ·rw[aB U,aB (λe=>U e.2)]
 have G:8*f+1+(eK (xU (ez E b) x)).length<=C1.length:=by rw[GK];omega
 have V:(z++[x]).length=z.length+1:=by simp
 have aa:∀W,W<b->∀j,j<dN E W->fN E W+j<fN E b:=λW hb j hj=>by
  have :=tQ E (show W+1<=b from hb);rw[fN] at this;omega
 refine⟨by rw[S4 G,GK],λW hb j hj i U=> ?_,λj hj i U=> ?_,λi U=> ?_⟩
 ·have :=aa W hb j hj
  rw[tT G,aB (by omega),J,aB (by omega)];exact h.done W hb j hj i U
 ·rw[V] at hj ⊢
  by_cases e:j=z.length
  ·subst e
   have hx:(z++[x]).getD z.length 0=x:=by simp
   rw[hx,aB (by omega),<-hf];cases i with
   |zero=>
    rw[tT G,aB (by omega),J,aB (by omega),h.rest _ (by omega)];rfl
   |succ i=>
    rw[nX,tT G];by_cases ac:i<(eK (xU (ez E b) x)).length
    ·rw[aC (by omega),show 8*f+(i+1)-(8*f+1)=i by omega]
    ·rw[aB (by omega),J,aB (by omega),h.rest _ (by omega),aj,aT (by omega)]
     rfl
  ·have QV:j<z.length:=by omega
   have hx:(z++[x]).getD j 0=z.getD j 0:=by simp only[aj];rw[aY QV]
   rw[hx,aC (by omega),tT G,aB (by omega),J];have h2:=h.part j QV i U;cases i with
   |zero=>
    by_cases e2:j+1=z.length
    ·rw[aC ⟨by omega,by omega⟩,hf,<-e2]
     rfl
    ·rw[aB (by omega),h2,aC (by omega)]
   |succ i=>
    rw[aB (by omega),h2,nX,nX]
 ·rw[V] at U
  rw[tT G,aB (by omega),J,aB (by omega)];exact h.rest i (by omega)
theorem BU.breads(h:BU E own 4 [] C)(V:fN E 4=own.length){W:World}{g cap T:Nat}(J:own.length<=cap)(G:cap<=maxLen)(hb:bh W g (aW C).toArray T):
  oM W (.slice (some ⟨g,0,none⟩) own.length cap) g (xm E own 4):=by
 have hl:(xm E own 4).length=own.length:=by rw[nY,V]
 refine⟨some ⟨g,0,none⟩,cap,by rw[hl],by rw[hl];exact J,G,λ_=>⟨hb.lt,0,rfl,λk hk j hj=> ?_⟩⟩;rw[hl,<-V] at hk;obtain⟨U,i,z,hi,rfl⟩:=tS E hk;rw[rh E own hi z,<-h.done U z i hi j hj,hb.cell,aF,show 0+(fN E U+i)*8+j=8*(fN E U+i)+j by omega,dA];rw[h.len,<-V];omega
end Go.Proofs.YtepbpdipenedhaaGreatDoor
