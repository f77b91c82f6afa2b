/- Lemmas. -/
import Derived.Test.YtimcfdnbpkiniaaGreatDoorM30
import Derived.Deep.WholeRow
set_option maxHeartbeats 4000000
set_option maxRecDepth 100000
namespace Go.Proofs.YtimcfdnbpkiniaaGreatDoor
open Go.Proofs.Tryz
open Go.RowKit
variable{w:World}{G T U b g gp k:Nat}{B X c l:List Int}{n:bT}{ps:List (Int×Int)}{v z:Value}
theorem vP:(prog.info? 166).map (·.size)=some 832:=by kernel_rfl
theorem zx (w:World):(zeroValue 166).run prog w= .ok (.agg (kS (List.replicate 832 0)).toArray) w:=by kernel_rfl
theorem wY (l:List Int):∀u∈kS l,u.oneCell'=true:=by
 intro u h;simp only[kS,bH] at h;obtain⟨x,-,rfl⟩:=h;rfl
theorem zy (z:bh w g (kS l).toArray T)(h:l.length=832):(loadVar 166 g).run prog w= .ok (.agg (kS l).toArray) w:=
 bZ g 0 (kS l) underlying166 rfl (by rw[fH,h];exact vP) λj _=>by rw[z.cell,bc,aF]
def kH (X:List Int) (n:bT) (m:Nat):List Int:=(List.range 832).map λj=>if j<m then mq X n j else 0
theorem wZ (X:List Int)(n:bT)(m:Nat):(kH X n m).length=832:=by simp[kH]
theorem Pd (X:List Int)(n:bT):kH X n 0=List.replicate 832 0:=by
 apply cE;intro j;simp only[kH,bJ,bj];by_cases h:j<832
 ·rw[cC h,aB h];rfl
 ·rw[aP (by simpa using h),aA h];rfl
theorem RT (X:List Int)(n:bT):kH X n 832=iT X n:=by
 unfold kH iT;refine dP λj h=> ?_
 rw[aB (b7.1 h)]
theorem Pe (h:n.B.getD k 0=0):kH X n (64*k)=kH X n (64*(k+1)):=by
 unfold kH;refine dP λj G=> ?_
 by_cases z:j<64*k
 ·rw[aB z,aB]
 ·rw[aA z]
  split
  ·unfold mq
   rw[show j/64=k by omega,aB h]
  ·rfl
def yN (W:Nat):List Int:=(lN W).map λc:Nat=>(c:Int)
theorem vQ (W:Nat):(yN W).length=8:=by simp[yN,l8]
theorem Pf (W:Nat):pj (lN W)=kS (yN W):=by simp[pj,kS,yN]
theorem Wy (W:Nat){j:Nat}(h:j<8):(yN W)[j]? =some ((rJ W j:Nat):Int):=by
 have z:=uL W j h;have G:j<(lN W).length:=by rw[l8];exact h
 rw[aj,aD G] at z;unfold yN;rw[bJ,aD G];exact cP (λc:Nat=>some (c:Int)) z
theorem Pg{i:Nat}(V:k<13)(W:i<8)(U:n.B.getD k 0≠0):
  (kH X n (64*k+8*i)).take (64*k+8*i)++(yN (X.getD (1080+8*(n.B.getD k 0).toNat+i) 0).toNat).take (832-(64*k+8*i))++(kH X n (64*k+8*i)).drop (64*k+8*i+min 8 (832-(64*k+8*i)))=kH X n (64*k+8*(i+1)):=by
 rw[show min 8 (832-(64*k+8*i))=8 by omega,aW (i:=832-(64*k+8*i)) (by rw[vQ];omega)];apply cE;intro j;have G:((kH X n (64*k+8*i)).take (64*k+8*i)).length=64*k+8*i:=by rw[aJ,wZ];omega
 have z:∀m j,j<832->(kH X n m)[j]? =some (if j<m then mq X n j else 0):=λm j h=>by simp[kH,h]
 by_cases J:j<64*k+8*i
 ·rw[aV,ba (by omega),bU,aB J,z _ _ (by omega),z _ _ (by omega),aB J,aB]
 ·by_cases h2:j<64*k+8*i+8
  ·rw[ba (by rw[aC,G,vQ];omega),aR (by omega),G,Wy _ (by omega),z _ _ (by omega),aB]
   unfold mq;rw[show j/64=k by omega,aA U,show j%64/8=i by omega,show j%8=j-(64*k+8*i) by omega]
  ·rw[aR (by rw[aC,G,vQ];omega),aC,G,vQ,b9]
   by_cases h3:j<832
   ·rw[z _ _ (by omega),z _ _ (by omega),aA,aA]
   ·rw[aP (by rw[wZ];omega),aP (by rw[wZ];omega)]
theorem uI (b m:Nat)(J:m<832)(w:World):(Instr.sliceAt 166 (.pointer (some ⟨b,0,none⟩)) (some (.int .i64 (m:Int))) none none).run prog w= .ok (.slice (some ⟨b,m,none⟩) (832-m) (832-m)) w:=by
 have G:∀w,(sizeOf (prog.elem 166)).run prog w= .ok 1 w:=λw=>by show Sem.run _ _ _=_;kernel_rfl
 have h: prog.arrayLen 166 =832:=by kernel_rfl
 have z:=run_sliceAt_array_l (P:= prog) w 166 ⟨b,0,none⟩ (by kernel_rfl) .i64 (m:Int) (by omega) (by rw[h];omega);rw[G,h,aG] at z;rw[z];show _=Result.ok (Value.slice (some ⟨b,m,none⟩) (832-m) (832-m)) w;simp only[Result.andThen,slicedAt,aA (show ¬832=m by omega),iJ,add_plain,bc]
theorem Ph (b:Nat)(w:World):(Instr.sliceAt 205 (.pointer (some ⟨b,0,none⟩)) none none none).run prog w= .ok (.slice b 8 8) w:=by
 show Sem.run _ _ _=_;kernel_rfl
theorem KB{b:Int}(z:0<=b)(h:b<256):iN b=1080+8*b:=by unfold iN;rw[aA];omega
def Ez (z h:World) (c:Nat) (l:List Int):Prop:=bh h c (kS l).toArray 166/\ay [c] z h
theorem L9{Z:Array Value}(z:bh w g Z 205)(G:Z.size=8)(h:l.length=8):
  ∃w',(storeCells ⟨g,0,none⟩ (kS l).toArray.toList).run prog w= .ok () w'/\bh w' g (kS l).toArray 205/\ay [g] w w':=by
 refine⟨_,run_storeCells_at (P:= prog) g 0 205 (kS l) 0 Z w z (by rw[fH,h,G];omega) (wY _),?_,(ay.refl _ _).setRow (by simp) _⟩;have e:(Z.toList.take (0+0)++kS l++Z.toList.drop (0+0+(kS l).length)).toArray=(kS l).toArray:=by
  rw[dz (by rw[fH,h,dO,G];omega)];simp
 rw[e];exact kr z
def Z8b:Array Value:= #[.int .u8 0,.int .u8 0,.int .u8 0,.int .u8 0,.int .u8 0,.int .u8 0,.int .u8 0,.int .u8 0]
theorem xa (h:eK w b gp B ps)(aT:b<w.heap.size/\gp<w.heap.size)(aL:In64 (az B ps)){n:bT}(hB:n.B.length=13)(hN:lD n.B)(o:jz)(vp vq vd v:Value):
  Calls prog 116 #[cB b o vp vq vd,aM n v] w λe w'=>e=(kS (iT (az B ps) n)).toArray/\ay [] w w':=by
 obtain⟨Z,hZ⟩:∃Z,(kS (List.replicate 832 0)).toArray=Z:=⟨_,rfl⟩;obtain⟨W,hW⟩:∃W,(((w.alloc (.cells (cB b o vp vq vd) 91)).alloc (.cells (aM n v) 75)).alloc (.cells Z 166)).alloc (.cells Z 166)=W:=⟨_,rfl⟩;have cM:ay [] w W:=by rw[<-hW];exact((((ay.refl [] w).alloc _).alloc _).alloc _).alloc _
 have jN:bh W w.heap.size (cB b o vp vq vd) 91 :=by rw[<-hW];exact(((bh.new w _ _).alloc _).alloc _).alloc _
 have IC:bh W (w.heap.size+1) (aM n v) 75 :=by rw[<-hW];exact((bh.new2 w _ _ _ _).alloc _).alloc _
 have jL:bh W (w.heap.size+1+1) Z 166 :=by
  have :=(bh.new2 (w.alloc (.cells (cB b o vp vq vd) 91)) (aM n v) 75 Z 166).alloc (.cells Z 166);rw[aX,hW] at this;exact this
 have Mh:bh W (w.heap.size+1+1+1) Z 166 :=by
  have :=bh.new2 ((w.alloc (.cells (cB b o vp vq vd) 91)).alloc (.cells (aM n v) 75)) Z 166 Z 166;rw[aX,aX,hW] at this;exact this
 have aN:W.heap.size=w.heap.size+1+1+1+1:=by rw[<-hW];simp only[aX]
 have rZ:Hid ((loadVar 73 ⟨w.heap.size+1,4,none⟩).run prog W= .ok (.agg (zs n.B).toArray) W):=fA IC hB λk G=>(gG v hB).f4 k G
 have ax:=h.keep cM (by simp) (by simp);have aY:b<w.heap.size:=h.raw.lt;have EI:Hid (∀(i:Int) (x:Nat) z,ay [w.heap.size+1+1+1] W z->(x:Int)=Bb B ps i->Calls prog 57 #[b,(i:Int)] z λe w'=>e= .returned (.int .u64 (x:Int))/\z=w'):=λi x z G hx=>by
  rw[hx];refine py (ax.keep G ?_ ?_) i
  ·rw[au];omega
  ·rw[au];omega
 have qd:Hid (∀z,ay [w.heap.size+1+1+1] W z->z.cell? w.heap.size=some (.pointer (some ⟨b,0,none⟩))):=λz G=>by
  rw[(jN.keep G (by rw[au];omega)).cell];rfl
 have av:Hid (∀k:Nat,k<13->(zs n.B).toArray[k]? =some (.int .i64 (n.B.getD k 0))):=λk G=>by rw[aF,gK (by omega)]
 have p9:Hid (Ez W W (w.heap.size+1+1+1) (kH (az B ps) n (64*0))):=⟨by rw[Pd,hZ];exact Mh,ay.refl _ _⟩;have NW:Hid (∀k:Nat,k<13->0<=n.B.getD k 0/\n.B.getD k 0<256):=λk G=>mQ hN G
 have aO:Hid (∀k:Nat,n.B.getD k 0=0->kH (az B ps) n (64*k)=kH (az B ps) n (64*(k+1))):=λk G=>Pe G
 have aQ:Hid (∀k i:Nat,k<13->i<8->n.B.getD k 0≠0->∃x:Nat,(x:Int)=Bb B ps (1080+8*n.B.getD k 0+(i:Int))/\(kH (az B ps) n (64*k+8*i)).take (64*k+8*i)++(yN x).take (832-(64*k+8*i))++(kH (az B ps) n (64*k+8*i)).drop (64*k+8*i+min 8 (832-(64*k+8*i)))=kH (az B ps) n (64*k+8*(i+1))):=λk i G hi hb=>by
  have h1:=mQ hN G;refine⟨_,?_,Pg G hi hb⟩;unfold Bb;rw[aB,show(1080+8*n.B.getD k 0+(i:Int)).toNat=1080+8*(n.B.getD k 0).toNat+i by omega];have :=aL (1080+8*(n.B.getD k 0).toNat+i);omega
 have Mm:Hid (∀m,(kH (az B ps) n m).length=832):=λm=>wZ _ _ m
 have ET:Hid (∀z,Ez W z (w.heap.size+1+1+1) (kH (az B ps) n (64*13))->∃U,(loadVar 166 (w.heap.size+1+1+1:Nat)).run prog z= .ok (.agg (kS (iT (az B ps) n)).toArray) z/\(storeVar 166 (w.heap.size+1+1:Nat) (.agg (kS (iT (az B ps) n)).toArray)).run prog z= .ok () U/\(loadVar 166 (w.heap.size+1+1:Nat)).run prog U= .ok (.agg (kS (iT (az B ps) n)).toArray) U/\ay [] w U):=λz hc=>by
  obtain⟨h1,h2⟩:=hc;rw[show 64*13=832 from rfl,RT] at h1;have hl:(iT (az B ps) n).length=832:=(kP _ _).1;obtain⟨U,q1,q2,q3⟩:=bG (P:= prog) (ty:= 166) (cs:=kS (iT (az B ps) n)) (by rw[fH,hl];exact vP) (jL.keep h2 (by rw[au];omega)) (by rw[<-hZ];simp[fH,hl]) (wY _);refine⟨U,zy h1 hl,q1,zy q2 hl,(cM.trans h2 ?_).trans q3 ?_⟩<;>(intro x hx;rw[au] at hx;omega)
 have aG:=zx;have lU:=ar aN;rw[hZ] at aG;clear cM jN IC jL Mh aN h aT aL hB hN ax aY;generalize kH (az B ps) n=CT,iT (az B ps) n=CL,Bb B ps=GN at *;generalize hq:(kS CL).toArray=CC at *;clear hq hZ;generalize zs n.B=NB,cB b o vp vq vd=J,aM n v=N,n.B.getD=bn at *;go_in;go_wp2_with(with_reducible refine gL 73 rZ.out ?_);clear hW aG rZ;go_loopg [6,7,8,9,12] 13 (λgh s6 s7 s8 s9 s12 z=>∃k:Nat,k+gh=13/\s12= .int .i64 (k:Int)/\Hid (Ez W z (w.heap.size+1+1+1) (CT (64*k))))
 case atStart=>exact⟨0,by omega,rfl,p9⟩
 case round=>
  clear p9;obtain⟨k,G,rfl,V⟩:=hrel;cases gk with
  |zero=>
   obtain rfl:k=13:=by omega
   obtain⟨U,q1,q2,q3,q4⟩:=ET.out _ V.out;obtain⟨HL,HS,rN,jr⟩:=hh4 q1 q2 q3 q4;clear q1 q2 q3 q4 V ET G;go_wp2_with(with_reducible first|refine gL 166 HL.out ?_|refine gS 166 HS.out ?_);exact aI (bA results116 rfl rN.out) rfl ⟨rfl,jr.out⟩
  |succ gg=>
   have mo:k<13:=by omega
   have aT:(k:Int)<13:=by omega
   have cM:(0:Int)<=(k:Int):=by omega
   have Iu:=yR mo (av.out k mo);have DY:=NW.out k mo;have ah:=aO.out k;have HW:=ar (aQ.out k);clear aQ aO av NW;generalize bn k 0=bb at *;by_cases ag:bb=0
   ·subst ag
    have mA:=V;rw[ah rfl] at mA;clear V DY ah HW;go_wp2_with fail;go_roundg gg;case measure=>omega
    case rel=>exact⟨k+1,by omega,by go_num,mA⟩
   ·have bp:(bb==0)=false:=by simpa using ag
    obtain⟨pb,af⟩:∃pb,1080+8*bb=pb:=⟨_,rfl⟩;have ou:Hid (∀z,Calls prog 155 #[bb] z λe w'=>e=(pb:Int)/\z=w'):=λz=>by
     have :=kv bb z;rwa[KB DY.1 DY.2,af] at this
    rw[af] at HW;have bt:0<=pb/\pb<3121:=by omega
    clear ah af DY;go_wp2_with fail;go_loopg [8,9,18] 8 (λgh s8 s9 s18 z=>∃i:Nat,i+gh=8/\s18= .int .i64 (i:Int)/\Hid (Ez W z (w.heap.size+1+1+1) (CT (64*k+8*i))))
    case atStart=>exact⟨0,by omega,rfl,V⟩
    case round=>
     clear V;obtain⟨i,hi,rfl,V⟩:=hrel;cases gk with
     |zero=>
      obtain rfl:i=8:=by omega
      have mA:=V;rw[show 64*k+8*8=64*(k+1) by omega] at mA;clear V hi;go_wp2_with fail;go_roundg gg;case measure=>omega
      case rel=>exact⟨k+1,by omega,by go_num,mA⟩
     |succ g2=>
      have Mo:i<8:=by omega
      have qa:(i:Int)<8:=by omega
      have bo:(0:Int)<=(i:Int):=by omega
      obtain⟨x,hx,ak⟩:=HW.out i mo Mo ag;have aJ:=ar ak;have bk:IntKind.i64.wrap (pb+(i:Int))=pb+(i:Int):=by rw[cy];omega
      have HG:Hid (∀z,ay [w.heap.size+1+1+1] W z->Calls prog 57 #[b,.int .i64 (pb+(i:Int))] z λe w'=>e= .returned (.int .u64 (x:Int))/\z=w'):=λz G=>EI.out _ x z G hx
      have aU:Hid (∀z,Calls prog 154 #[.int .u64 (x:Int)] z λe w'=>e=(kS (yN x)).toArray/\ay [] z w'):=λz=>by
       have :=Bk x z;rwa[Pf] at this
      have IY:Hid ((yN x).length=8):=vQ x;have QK:=qd.out _ V.out.2;have aZ:w.heap.size<wr.heap.size:=by have :=V.out.2.size;have :=lU.out;omega
      clear ak hx HW;generalize yN x=bs at *;generalize aa:(kS bs).toArray=DB at *;have aK:=ar aa;have aH:Hid (∀z g,bh z g Z8b 205->∃w',(storeCells ⟨g,0,none⟩ DB.toList).run prog z= .ok () w'/\bh w' g DB 205/\ay [g] z w'):=λz g hb=>by
       have :=L9 (l:=bs) hb rfl IY.out;rwa[aa] at this
      have aW:DB.size=8:=by rw[<-aa,bN,fH,IY.out]
      have aR:∀z:World,(storeCells ⟨z.heap.size,0,none⟩ DB.toList).run prog (z.alloc (.cells #[.int .u8 0,.int .u8 0,.int .u8 0,.int .u8 0,.int .u8 0,.int .u8 0,.int .u8 0,.int .u8 0] 205))= .ok () (z.alloc (.cells DB 205)):=λz=>by
       have :=run_storeCells_new (P:= prog) z 205 Z8b (kS bs).toArray (by rw[bN,fH,IY.out];exact Tryz.info_bytes) (by show(8:Nat)=_;rw[bN,fH,IY.out]) (by rw[Array.all_eq_true'];intro u hu;exact wY bs u (by simpa using hu));rwa[aa] at this
      clear aa;have ba:w.heap.size+1+1+1<wr.heap.size:=by have :=V.out.2.size;have :=lU.out;omega
      have HA:Hid (∀U,ay [] wr.drew U->bh (U.alloc (.cells DB 205)) U.heap.size DB 205/\Ez W (U.alloc (.cells DB 205)) (w.heap.size+1+1+1) (CT (64*k+8*i))/\U.heap.size≠w.heap.size+1+1+1):=λU G=>by
       have h1:wr.heap.size<=U.heap.size:=G.size;exact⟨bh.new _ _ _,⟨((V.out.1.drew).keep G (by simp)).alloc _,((V.out.2.drew).trans G (by simp)).alloc _⟩,by omega⟩
      have aD:Hid (∀U w9,ay [] (wr.alloc (.cells Z8b 205)).drew U->bh w9 wr.heap.size DB 205->ay [wr.heap.size] U w9->bh w9 wr.heap.size DB 205/\Ez W w9 (w.heap.size+1+1+1) (CT (64*k+8*i))/\wr.heap.size≠w.heap.size+1+1+1):=λU w9 G EJ PF=>by
       have h0:=V.out.2.size;refine⟨EJ,⟨(((V.out.1.alloc _).drew).keep G (by simp)).keep PF (by rw[au];omega),((((V.out.2.alloc _).drew).trans G (by simp))).trans PF λx hx=> ?_⟩,by omega⟩;rw[au] at hx;exact .inr (by omega)
      have YV:Hid (64*k+8*i<832):=by unfold Hid;omega
      obtain⟨off,cap,aP,ac⟩:∃off cap,(∀z,(Instr.sliceAt 166 (.pointer (some ⟨w.heap.size+1+1+1,0,none⟩)) (some (.int .i64 ((k:Int)*64+(i:Int)*8))) none none).run prog z= .ok (.slice (some ⟨w.heap.size+1+1+1,off,none⟩) (832-(64*k+8*i)) cap) z)/\off=64*k+8*i:=by
       refine⟨64*k+8*i,832-(64*k+8*i),λz=> ?_,rfl⟩;have :=uI (w.heap.size+1+1+1) (64*k+8*i) (by omega) z;rwa[show((64*k+8*i:Nat):Int)=(k:Int)*64+(i:Int)*8 by omega] at this
      have aA:=ar aP;clear aP
      go_upto_region 9 with fail
      go_cut [9] (λs9 z=>∃a:Nat,s9= .pointer (some ⟨a,0,none⟩)/\Hid (bh z a DB 205/\Ez W z (w.heap.size+1+1+1) (CT (64*k+8*i))/\a≠w.heap.size+1+1+1))
      case first=>
       go_region_with (first|(go_at_call 155;refine C' (ou.out _) ?_)|(go_at_call 57;refine(HG.out _ (by first|exact V.out.2|exact V.out.2.drew|exact(V.out.2.drew).alloc _)).mono ?_;rintro e w1 ⟨rfl,rfl⟩)|(go_at_call 154;refine Rr (aU.out _) λU ai=> ?_;(try (obtain⟨w9,q1,q2,q3⟩:=aH.out U _ ((bh.new wr Z8b 205).drew.keep ai (by simp));(have bq:(storeCells ⟨wr.heap.size,0,none⟩ DB.toList).run prog U= .ok () w9:=q1);(have Q2:=ar q2);(have Q3:=ar q3);clear q1 q2 q3));(have fo:=ar ai);clear ai))
       all_goals go_wp2_with fail
       all_goals go_meet
       all_goals first|exact⟨_,rfl,aD.out _ _ fo.out Q2.out Q3.out⟩|exact⟨_,rfl,HA.out _ fo.out⟩
      case rest=>
       clear HA aD aH aR aW ou HG aU QK V ba aZ;obtain⟨a,rfl,aC⟩:=hcut;obtain⟨EJ,aj,bf⟩:=aC.out;rw[<-aK.out] at EJ;have ER:Reads wc (.slice a 8 8) a (kS bs):=by
        refine⟨some ⟨a,0,none⟩,8,by rw[fH,IY.out],by rw[fH,IY.out];omega,by unfold maxLen;omega,λ_=>⟨EJ.lt,0,rfl,λj hj=> ?_⟩⟩;rw[EJ.cell,bc,aF]
       obtain⟨r,w4,zT,ae,aS⟩:=TC (w:=wc.drew) (o:=off) (n:=832-(64*k+8*i)) (cap:=cap) aj.1.drew ER (by rw[Mm.out,IY.out,ac];have :=YV.out;omega);rw[IY.out,ac,aJ.out] at ae;have aV:Hid (Ez W w4 (w.heap.size+1+1+1) (CT (64*k+8*(i+1)))):=⟨ae,aj.2.drew.trans' aS⟩;have bj:=aA.out;have br:∀z,(Instr.sliceAt 205 (.pointer (some ⟨a,0,none⟩)) none none none).run prog z= .ok (.slice a 8 8) z:=λz=>Ph a z
       have Nh:=zT 3;have WW:IntKind.i64.wrap ((k:Int)*64)=(k:Int)*64:=by rw[cy];omega
       have bg:IntKind.i64.wrap ((i:Int)*8)=(i:Int)*8:=by rw[cy];omega
       have bl:IntKind.i64.wrap ((k:Int)*64+(i:Int)*8)=(k:Int)*64+(i:Int)*8:=by rw[cy];omega
       clear zT ae aS ER EJ aj bf aC aK aA aJ ac;go_wp2_with fail;go_region_with (fail)
       go_wp2_with fail;go_roundg g2;case measure=>omega
       case rel=>exact⟨i+1,by omega,by go_num,aV⟩
theorem Ma (b m:Nat)(J:m+8<=832)(w:World):(Instr.sliceAt 166 (.pointer (some ⟨b,0,none⟩)) (some (.int .i64 (m:Int))) (some (.int .i64 ((m:Int)+8))) none).run prog w= .ok (.slice (some ⟨b,m,none⟩) 8 (832-m)) w:=by
 have G:∀w,(sizeOf (prog.elem 166)).run prog w= .ok 1 w:=λw=>by show Sem.run _ _ _=_;kernel_rfl
 have h: prog.arrayLen 166 =832:=by kernel_rfl
 have z:=run_sliceAt_array_lh (P:= prog) w 166 ⟨b,0,none⟩ (by kernel_rfl) .i64 .i64 (m:Int) ((m:Int)+8) (by omega) (by omega) (by rw[h];omega);rw[G,h,aG,show((m:Int)+8).toNat=m+8 by omega] at z;rw[z];show _=Result.ok (Value.slice (some ⟨b,m,none⟩) 8 (832-m)) w;simp only[Result.andThen,slicedAt,aA (show ¬832=m by omega),iJ,add_plain,bc,dD]
theorem RU (b m cap:Nat)(w:World):(Instr.arrayAt 205 (.slice (some ⟨b,m,none⟩) 8 cap)).run prog w= .ok (.pointer (some ⟨b,m,none⟩)) w:=by
 show Sem.run _ _ _=_;kernel_rfl
theorem Wz{m:Nat}(G:bh w g (kS l).toArray T)(J:m+8<=l.length):(loadVar 205 ⟨g,m,none⟩).run prog w= .ok (.agg (kS ((l.drop m).take 8)).toArray) w:=by
 have h:((l.drop m).take 8).length=8:=by rw[aJ,bM];omega
 refine bZ g m (kS ((l.drop m).take 8)) underlying205 rfl (by rw[fH,h];exact Tryz.info_bytes) λj z=> ?_
 rw[fH,h] at z;rw[G.cell,aF];simp only[kS,bJ,bU,b9];rw[aB z]
theorem aaB (G:AU c)(m:Nat)(V:m+8<=832)(w:World):
  Calls prog 158 #[(kS ((c.drop m).take 8)).toArray] w λe w'=>e= .returned (.int .u64 (rP c m))/\ay [] w w':=by
 have U:((c.drop m).take 8).length=8:=by have :=G.1;rw[aJ,bM];omega
 have h:∀x∈(c.drop m).take 8,0<=x/\x<256:=λx z=>G.2 x (gA (bO z))
 have :=Sq (((c.drop m).take 8).map Int.toNat) (by rw[bY,U]) (λx z=>by
  obtain⟨y,J,rfl⟩:=bH.1 z;have :=h y J;omega) w
 have e:pj (((c.drop m).take 8).map Int.toNat)=kS ((c.drop m).take 8):=by
  simp only[pj,kS,List.map_map];refine dP λx z=> ?_
  have :=h x z;show Value.int .u8 ((x.toNat:Nat):Int)=Value.int .u8 x;rw[show((x.toNat:Nat):Int)=x by omega]
 rw[e] at this;exact this
def qI (c:List Int) (h:Int) (k i:Nat):List (Int×Int):=(List.range i).map λw:Nat=>(iN h+(w:Int),rP c (64*k+8*w))
theorem Pj (c:List Int)(h:Int)(k i:Nat):qI c h k (i+1)=qI c h k i++[(iN h+(i:Int),rP c (64*k+8*i))]:=by
 unfold qI;rw[dV,ey];rfl
theorem RV (c:List Int)(h:Int)(k i:Nat):(qI c h k i).length=i:=by simp[qI]
theorem Pk (h:B.getD k 0=0):fu B c (k+1)=fu B c k:=by
 show fu B c k++_=_;rw[aB h,br]
theorem RY (h:B.getD k 0≠0):fu B c (k+1)=fu B c k++qI c (B.getD k 0) k 8:=by
 show fu B c k++_=_;rw[aA h];rfl
def vR (W z:World) (b G:Nat) (B:List Int) (ps:List (Int×Int)):Prop:=∃h,(h=G\/(W.heap.size<=h/\h<z.heap.size))/\eK z b h B ps/\ay [b,G] W z
theorem vR.put{W wr wx:World}(h:vR W wr b U B ps)(ac:b<W.heap.size/\U<W.heap.size)(hn:ps.length<=1000000)(G:ay [] wr wx){i:Int}(h0:0<=i)(h1:i<3128)(x:Int):
  Calls prog 47 #[b,i,.int .u64 x] wx λe w'=>e= .returned (.tuple #[])/\vR W w' b U B (ps++[(i,x)]):=by
 obtain⟨gI,hg,hs,vS⟩:=h;have aa:=vS.size;have :=pz (hs.keep G (by simp) (by simp)) hn i x;rw[show Aj ps i x=ps++[(i,x)] by rw[Aj,aB (by rw[tY];omega)]] at this;refine Rr this ?_;rintro w' ⟨lS,J,V,z⟩;have h2:=G.size;have h3:=z.size;refine⟨rfl,lS,?_,V,(vS.trans G (by simp)).trans z λy hy=> ?_⟩
 ·rcases hg with h|h<;>rcases J with h'|h'<;>omega
 ·simp only[aL,aK,bC] at hy ⊢
  rcases hg with h|h<;>omega
theorem Ac (h:eK w b U B ps)(aR:b<w.heap.size/\U<w.heap.size)(az:ps.length<=900000){n:bT}(hB:n.B.length=13)(hN:lD n.B){c:List Int}(hc:AU c)(o:jz)(vp vq vd v:Value):
  Calls prog 118 #[cB b o vp vq vd,aM n v,(kS c).toArray] w λe w'=>e= .returned (.tuple #[])/\vR w w' b U B (ps++fu n.B c 13):=by
 obtain⟨Z,hZ⟩:∃Z,(kS c).toArray=Z:=⟨_,rfl⟩;obtain⟨W,hW⟩:∃W,((w.alloc (.cells (cB b o vp vq vd) 91)).alloc (.cells (aM n v) 75)).alloc (.cells Z 166)=W:=⟨_,rfl⟩;have cM:ay [] w W:=by rw[<-hW];exact(((ay.refl [] w).alloc _).alloc _).alloc _
 have jN:bh W w.heap.size (cB b o vp vq vd) 91 :=by rw[<-hW];exact((bh.new w _ _).alloc _).alloc _
 have IC:bh W (w.heap.size+1) (aM n v) 75 :=by rw[<-hW];exact(bh.new2 w _ _ _ _).alloc _
 have Mh:bh W (w.heap.size+1+1) (kS c).toArray 166 :=by
  have :=bh.new2 (w.alloc (.cells (cB b o vp vq vd) 91)) (aM n v) 75 Z 166;rw[aX,hW] at this;rw[hZ];exact this
 have aW:W.heap.size=w.heap.size+1+1+1:=by rw[<-hW];simp only[aX]
 have rZ:Hid ((loadVar 73 ⟨w.heap.size+1,4,none⟩).run prog W= .ok (.agg (zs n.B).toArray) W):=fA IC hB λk G=>(gG v hB).f4 k G
 have aA:b<W.heap.size/\U<W.heap.size:=⟨by omega,by omega⟩;have aI:Hid (vR W W b U B (ps++fu n.B c 0)):=⟨U,.inl rfl,by rw[show fu n.B c 0=[] from rfl,br];exact h.keep cM (by simp) (by simp),ay.refl _ _⟩;have ET:Hid (∀z qs,vR W z b U B qs->vR w z b U B qs):=λz qs hp=>by
  obtain⟨g,h1,h2,h3⟩:=hp;refine⟨g,by rcases h1 with h1|h1<;>omega,h2,(cM.mono (l':=[b,U]) (by simp)).trans' h3⟩
 have qd:Hid (∀z qs,vR W z b U B qs->z.cell? w.heap.size=some (.pointer (some ⟨b,0,none⟩))):=λz qs hp=>by
  obtain⟨g,h1,h2,h3⟩:=hp;rw[(jN.keep h3 (by simp only[aL,aK,bC];omega)).cell];rfl
 have ba:Hid (∀wr qs z m,vR W wr b U B qs->ay [] wr z->m+8<=832->(loadVar 205 ⟨w.heap.size+1+1,m,none⟩).run prog z= .ok (.agg (kS ((c.drop m).take 8)).toArray) z):=λwr qs z m hp G hm=>by
  obtain⟨g,h1,h2,h3⟩:=hp;exact Wz ((Mh.keep h3 (by simp only[aL,aK,bC];omega)).keep G (by simp)) (by rw[hc.1];exact hm)
 have ax:Hid (∀k:Nat,k<13->(zs n.B).toArray[k]? =some (.int .i64 (n.B.getD k 0))):=λk G=>by rw[aF,gK (by omega)]
 have NW:Hid (∀k:Nat,k<13->0<=n.B.getD k 0/\n.B.getD k 0<256):=λk G=>mQ hN G
 have bc:Hid (∀m,m+8<=832->∀z,Calls prog 158 #[(kS ((c.drop m).take 8)).toArray] z λe w'=>e= .returned (.int .u64 (rP c m))/\ay [] z w'):=λm hm z=>aaB hc m hm z
 have aQ:Hid (∀k,n.B.getD k 0=0->fu n.B c (k+1)=fu n.B c k):=λk G=>Pk G
 have aH:Hid (∀k,n.B.getD k 0≠0->fu n.B c (k+1)=fu n.B c k++qI c (n.B.getD k 0) k 8):=λk G=>RY G
 have Mm:Hid (∀k,(fu n.B c k).length<=8*k):=λk=>tM _ _ k
 obtain⟨aY,zN⟩:=hh2 aA az;rw[hZ];clear cM jN IC Mh aW h aR hB hN aA az hZ;generalize cB b o vp vq vd=J,aM n v=N,fu n.B c=CP,zs n.B=NB,n.B.getD=bn at *;go_in;go_wp2_with(with_reducible refine gL 73 rZ.out ?_);clear hW rZ;go_loopg [6,7,8,9,12] 13 (λgh s6 s7 s8 s9 s12 z=>∃k:Nat,k+gh=13/\s12= .int .i64 (k:Int)/\Hid (vR W z b U B (ps++CP k)))
 case atStart=>exact⟨0,by omega,rfl,aI⟩
 case round=>
  clear aI;obtain⟨k,G,rfl,V⟩:=hrel;cases gk with
  |zero=>
   obtain rfl:k=13:=by omega
   have HE:=ar (ET.out _ _ V.out);clear V ET G;go_wp2_with fail;go_end0;exact⟨rfl,HE.out⟩
  |succ gg=>
   have mo:k<13:=by omega
   have aR:(k:Int)<13:=by omega
   have cM:(0:Int)<=(k:Int):=by omega
   have Iu:=yR mo (ax.out k mo);have DY:=NW.out k mo;have aa:=aQ.out k;have aj:=aH.out k;have aO:=Mm.out k;clear aQ aH ax NW Mm;generalize bn k 0=bb at *;by_cases ae:bb=0
   ·subst ae
    have mA:=V;rw[<-aa rfl] at mA;clear V DY aa aj;go_wp2_with fail;go_roundg gg;case measure=>omega
    case rel=>exact⟨k+1,by omega,by go_num,mA⟩
   ·have bp:(bb==0)=false:=by simpa using ae
    have av:=aj ae;obtain⟨pb,ac⟩:∃pb,1080+8*bb=pb:=⟨_,rfl⟩;have af:=KB DY.1 DY.2;have ou:Hid (∀z,Calls prog 155 #[bb] z λe w'=>e=(pb:Int)/\z=w'):=λz=>by
     have :=kv bb z;rwa[af,ac] at this
    have aB:Hid (∀i,qI c bb k (i+1)=qI c bb k i++[(pb+(i:Int),rP c (64*k+8*i))]):=λi=>by rw[Pj,af,ac]
    have aZ:Hid (∀i,(qI c bb k i).length=i):=λi=>RV _ _ _ _
    have bv:1080<=pb/\pb<3121:=by omega
    obtain⟨aS,aT⟩:=hh2 av aO;have XP:Hid (vR W wr b U B (ps++(CP k++qI c bb k 0))):=by rw[show qI c bb k 0=[] from rfl,br];exact V.out
    clear aa aj av ac DY af V aO;generalize qI c bb k=WP at *;go_wp2_with fail;go_loopg [8,9,18] 8 (λgh s8 s9 s18 z=>∃i:Nat,i+gh=8/\s18= .int .i64 (i:Int)/\Hid (vR W z b U B (ps++(CP k++WP i))))
    case atStart=>exact⟨0,by omega,rfl,XP⟩
    case round=>
     clear XP;obtain⟨i,hi,rfl,V⟩:=hrel;cases gk with
     |zero=>
      obtain rfl:i=8:=by omega
      have mA:Hid (vR W wr b U B (ps++CP (k+1))):=by rw[aS.out];exact V.out
      clear V hi;go_wp2_with fail;go_roundg gg;case measure=>omega
      case rel=>exact⟨k+1,by omega,by go_num,mA⟩
     |succ g2=>
      have Mo:i<8:=by omega
      have qa:(i:Int)<8:=by omega
      have bo:(0:Int)<=(i:Int):=by omega
      obtain⟨m,hm⟩:∃m,64*k+8*i=m:=⟨_,rfl⟩;have bq:(k:Int)*64+(i:Int)*8=(m:Int):=by omega
      have ak:m+8<=832:=by omega
      have bk:(m:Int)<832:=by omega
      have au:=aB.out i;rw[hm] at au;have HJ:=ar (bc.out m ak);have mY:Hid (∀z,ay [] wr z->(loadVar 205 ⟨w.heap.size+1+1,m,none⟩).run prog z= .ok (.agg (kS ((c.drop m).take 8)).toArray) z):=λz G=>ba.out _ _ z m V.out G ak
      have aG:Hid (∀z,ay [] wr z->Calls prog 47 #[b,.int .i64 (pb+(i:Int)),.int .u64 (rP c m)] z λe w'=>e= .returned (.tuple #[])/\vR W w' b U B (ps++(CP k++WP (i+1)))):=λz G=>by
       have :=V.out.put aY.out (by
        have :=zN.out;have :=aT.out;have :=aZ.out i;rw[aC,aC];omega) G (i:=pb+(i:Int)) (by omega) (by omega) (rP c m)
       rwa[aV,aV,<-au] at this
      have QK:∀z,ay [] wr z->z.cell? w.heap.size=some (.pointer (some ⟨b,0,none⟩)):=λz G=>by
       obtain⟨g,h1,h2,h3⟩:=V.out;exact qd.out z (ps++(CP k++WP i)) ⟨g,by have :=G.size;omega,h2.keep G (by simp) (by simp),h3.trans G (by simp)⟩
      have aJ:=ar QK;have bg:IntKind.i64.wrap (pb+(i:Int))=pb+(i:Int):=by rw[cy];omega
      have bj:IntKind.i64.wrap ((k:Int)*64)=(k:Int)*64:=by rw[cy];omega
      have bw:IntKind.i64.wrap ((i:Int)*8)=(i:Int)*8:=by rw[cy];omega
      have bl:IntKind.i64.wrap ((m:Int)+8)=(m:Int)+8:=by rw[cy];omega
      have bt:IntKind.i64.wrap (m:Int)=(m:Int):=by rw[cy];omega
      obtain⟨aD,aN⟩:=hh2 (Ma (w.heap.size+1+1) m ak) (RU (w.heap.size+1+1) m (832-m));clear QK au aB hm;generalize rP c m=jx,(kS ((c.drop m).take 8)).toArray=DB at *;go_wp2_with fail;refine jW (l:=[_,_,_,_,_,_,_,_,_,_,_,_,_]) (S:=λz=>ay [] wr z) rfl ((ay.refl _ _).drew) ?_;repeat (
       (first
       |(refine aU.cons (.agg DB) (bR.load rfl 205 (.tmp 36) rfl _ rfl λz hx=>mY.out z hx) ?_)
       |(refine aU.cons (.int .i64 pb) (bR.call rfl 155 #[bb] ?he ?h) ?_;(case he=>(intro wz;go_simp));(case h=>exact λz hx=>(ou.out z).mono λe w' he=>⟨he.1,he.2▸hx⟩))
       |(refine aU.cons (.int .u64 jx) (bR.call rfl 158 #[DB] ?he ?h) ?_;(case he=>(intro wz;go_simp));(case h=>exact λz hx=>(HJ.out z).mono λe w' he=>⟨he.1,hx.trans' he.2⟩))
       |(refine aU.cons ?_ (bR.val rfl ?h) ?_;(case h=>(intro z hx;(have bu:=aJ.out z hx);(have bf:=aD.out z);(have SL:=aN.out z);clear hx;go_simp;rfl))));simp only[Act.put,ag,ah,ai])
      refine aU.done λz hx=> ?_
      have uf:=ar hx;clear hx;go_wp2_with fail;refine Rr (aG.out _ uf.out) λw2 aP=> ?_;have mA:=ar aP;clear aP aG uf V HJ mY aJ aD aN ou;go_wp2_with fail;go_roundg g2;case measure=>omega
      case rel=>exact⟨i+1,by omega,by go_num,mA⟩
theorem EA (s:Nat)(h:s<=100000)(w:World):Calls prog 156 #[(s:Int)] w λe w'=>e=((bL s:Nat):Int)/\w=w':=by
 have z:IntKind.i64.wrap ((s:Int)+64)=(s:Int)+64:=by rw[cy];omega
 have U:IntKind.i64.wrap ((s:Int)+64-1)=(s:Int)+64-1:=by rw[cy];omega
 have J:((s:Int)+64-1).tdiv 64=((bL s:Nat):Int):=by
  rw[Int.tdiv_eq_ediv_of_nonneg (by omega)];unfold bL;omega
 have G:IntKind.i64.wrap ((bL s:Nat):Int)=((bL s:Nat):Int):=by rw[cy];unfold bL;omega
 go_in;go_wp2_with fail;go_ret;exact⟨rfl,rfl⟩
theorem WA (h:n.B.length=13){k:Nat}(J:k<13)(x:Int):(aM n v).setIfInBounds (4+k) (.int .i64 x)=aM { n with B:=n.B.set k x } v:=by
 have z:mZ n v=[.int .i64 n.F,.int .i64 n.K,.int .i64 n.L,.int .i64 n.S]++(zs n.B++[v]):=rfl;have G:mZ { n with B:=n.B.set k x } v=[.int .i64 n.F,.int .i64 n.K,.int .i64 n.L,.int .i64 n.S]++(zs (n.B.set k x)++[v]):=rfl;unfold aM;rw[ag,z,G,dI _ _ (by simp),List.set_append_left _ _ (by rw[eO,h];simp;omega)];simp[zs,List.map_set]
def Pm (w:World) (b z:Nat) (B:List Int) (ps:List (Int×Int)) (n:bT) (v:Value) (h:List Nat) (e:Ending) (w':World):Prop:=
 ((aZ (az B ps)).length<h.length/\e= .returned (.tuple #[aM ck (.slice none 0 0),(7:Int)])/\ay [] w w')\/
 (h.length<=(aZ (az B ps)).length/\e= .returned (.tuple #[.agg (aM { n with B:=jF n.B h ((aZ (az B ps)).take h.length) h.length } v),(0:Int)])/\vR w w' b z B (ps++dm (az B ps) ((aZ (az B ps)).take h.length)))
theorem Mb (h:n.B.length=13){w:World}{g T:Nat}(z:bh w g (aM n v) T){k:Nat}(G:k<13):w.cell? ⟨g,4+k,none⟩=some (.int .i64 (n.B.getD k 0)):=by
 rw[z.cell];exact(gG v h).f4 k G
theorem WB (h:eK w b gp B ps)(aS:In64 (az B ps))(hT:∀G,ay [b,gp] w G->kN G)(ah:b<w.heap.size/\gp<w.heap.size)(aQ:ps.length<=600000){n:bT}(hB:n.B.length=13)(o:jz)(vp vq vd:Value){v:Value}(hv:v.oneCell'=true)(f t:Nat)(bE:f<=t)(ht:t<=832):
  Calls prog 117 #[cB b o vp vq vd,aM n v,(f:Int),(t:Int)] w (Pm w b gp B ps n v (fK n.B (f/64) (bL t))):=by
 obtain⟨i0,hi,bM,bq,bO⟩:=df Tryz.info_int;obtain⟨R0,aG⟩:∃R0,aM ck (.slice none 0 0)=R0:=⟨_,rfl⟩;obtain⟨W,hW⟩:∃W,((w.alloc (.cells (cB b o vp vq vd) 91)).alloc (.cells (aM n v) 75)).alloc (.cells R0 75)=W:=⟨_,rfl⟩;have cM:ay [] w W:=by rw[<-hW];exact(((ay.refl [] w).alloc _).alloc _).alloc _
 have jN:bh W w.heap.size (cB b o vp vq vd) 91 :=by rw[<-hW];exact((bh.new w _ _).alloc _).alloc _
 have IC:bh W (w.heap.size+1) (aM n v) 75 :=by rw[<-hW];exact(bh.new2 w _ _ _ _).alloc _
 have jL:bh W (w.heap.size+1+1) R0 75 :=by
  have :=bh.new2 (w.alloc (.cells (cB b o vp vq vd) 91)) (aM n v) 75 R0 75;rw[aX,hW] at this;exact this
 have aT:W.heap.size=w.heap.size+1+1+1:=by rw[<-hW];simp only[aX]
 have rH:=dA;rw[aG] at rH;obtain⟨a,ha⟩:∃a,f/64=a:=⟨_,rfl⟩;obtain⟨e,he⟩:∃e,bL t=e:=⟨_,rfl⟩;have cm:a<=e/\e<=13:=by rw[<-ha,<-he];unfold bL;omega
 have hq:((f:Int)).tdiv 64=(a:Int):=by
  rw[Int.tdiv_eq_ediv_of_nonneg (by omega)];omega
 have bg:IntKind.i64.wrap (a:Int)=(a:Int):=by rw[cy];omega
 have Nl:Hid (∀G,Calls prog 156 #[(t:Int)] G λx w'=>x=(e:Int)/\G=w'):=λG=>by
  have :=EA t (by omega) G;rwa[he] at this
 rw[ha,he];have UU:Hid (∀G,ay [] W G->∀k,k<13->G.cell? ⟨w.heap.size+1,4+k,none⟩=some (.int .i64 (n.B.getD k 0))):=λG hk k mo=>Mb hB (IC.keep hk (by simp)) mo
 have qd:Hid (∀G,ay [] W G->G.cell? w.heap.size=some (.pointer (some ⟨b,0,none⟩))):=λG hk=>by
  rw[(jN.keep hk (by simp)).cell];rfl
 have bB:Hid (∀k,fK n.B a (k+1)=fK n.B a k++(if a<=k/\n.B.getD k 0=0 then [k] else [])):=λk=>Ro _ _ _
 have M8:Hid (∀k,(fK n.B a k).length<=k):=λk=>vK _ _ _
 have aP:Hid (fK n.B a a=[]):=by
  refine List.eq_nil_iff_forall_not_mem.2 λx hx=> ?_
  have :=zk.1 hx;omega
 obtain⟨HB,vT,uQ,HT,Fe,zN,bn⟩:=hh7 hB h aS hT ah aQ IC;obtain⟨EN,lU,fJ,Rv,HV⟩:=hh5 jL aT cM aG hv;have bA:=hW;clear h aS hT ah aQ hB jN IC jL aT cM ha he bE ht aG hv;generalize hJ:cB b o vp vq vd=J,hN:aM n v=N at *;have HN:=ar hN;clear hJ hN bA;go_in;go_wp2_with fail;clear hW hq bg;go_loopg [10,11] (e-a) (λgh Xw K3 G=>∃k:Nat,a<=k/\k+gh=e/\K3= .int .i64 (k:Int)/\Hid (G.ownsRow W.heap.size 3 1 Xw (fK n.B a k).length (dL (fK n.B a k))/\ay [] W G))
 case atStart=>exact⟨a,aH _,by omega,rfl,by rw[aP.out];exact⟨⟨rfl,.inl ⟨rfl,rfl⟩⟩,ay.refl _ _⟩⟩
 case round=>
  clear aP;obtain⟨k,bw,hk,rfl,V⟩:=hrel;cases gk with
  |zero=>
   obtain rfl:k=e:=by omega
   have kg:=V.out.2;obtain⟨g,af,hg⟩:=ma.of_row V.out.1;have ER:=af.reads;have ag:=vT.out.keep (fJ.out.trans' kg) (by simp) (by simp);have QK:=qd.out wr kg;have ak:=M8.out k;have bp:=kg.size;have bI:=lU.out;have bo:Hid (∀q∈fK n.B a k,q<13):=λq hq=>by have :=zk.1 hq;omega
   generalize fK n.B a k=z at *;obtain⟨ad,cap,rfl,bQ,b6,U⟩:=ER;rw[fp] at bQ U;rw[fp] at *;have ah:¬(k:Int)<(k:Int):=by omega
   by_cases po:(aZ (az B ps)).length<z.length
   ·have JT:=ar (yf ag uQ.out z.length po)
    obtain⟨w2,q1,q2,q3⟩:=cz (n:=ck) (v:= .slice none 0 0) (EN.out.keep kg (by simp)) (by rw[<-Rv.out];rfl) rfl rfl;have HL:=ar (cg q2 rfl);rw[Rv.out] at q1 HL;have HS:=ar q1;have HF:Hid (Pm w b gp B ps n v z (.returned (.tuple #[.agg R0,(7:Int)])) w2):= .inl ⟨po,by rw[Rv.out],((fJ.out.trans' kg).trans q3 (by intro x hx;rw[au] at hx;omega))⟩;clear q1 q2 q3 ag af U V kg;generalize z.length=q at *;go_wp2_with(first|(with_reducible refine gS 75 HS.out ?_)|(go_at_call 156;refine C' (Nl.out _) ?_)|(go_at_call 157;refine C' JT.out ?_));exact aI (eG results117 rfl HL.out rfl) rfl HF.out
   ·have ai:z.length<=(aZ (az B ps)).length:=by omega
    have aU:((aZ (az B ps)).take z.length).length=z.length:=by rw[aJ];omega
    have JT:=ar (CU ag uQ.out (HT.out wr ((fJ.out.trans' kg).mono (by simp))) (by have :=Fe.out;omega) (by have :=zN.out;omega) z.length ai);have qV:Hid (∀G w2:World,∀gI:Nat,(gI=gp\/(wr.heap.size<=gI/\gI<G.heap.size))->eK G b gI B (ps++dm (az B ps) ((aZ (az B ps)).take z.length))->ay [b,gp] wr G->ay [w.heap.size+1,w.heap.size+1+1] G w2->Pm w b gp B ps n v z (.returned (.tuple #[.agg (aM { n with B:=jF n.B z ((aZ (az B ps)).take z.length) z.length } v),(0:Int)])) w2):=λG w2 gI h1 h2 h3 h4=>by
     have :=h3.size;have :=h4.size;have :=Fe.out;refine .inr ⟨ai,rfl,gI,by omega,h2.keep h4 (by simp only[aL,aK,bC];omega) (by simp only[aL,aK,bC];omega),((((fJ.out.trans' kg).mono (l':=[b,gp]) (by simp)).trans' h3).trans h4 λx hx=> ?_)⟩;simp only[aL,aK,bC] at hx;omega
    generalize (aZ (az B ps)).take z.length=l at *;clear ag af V po ai;obtain⟨Mk,bR,CK,UN,nK⟩:=hh5 U ak aU hg kg;clear U ak aU hg kg;generalize aF:z.length=q at *;go_wp2_with(first|(go_at_call 156;refine C' (Nl.out _) ?_));refine JT.out.mono ?_;rintro e w2 ⟨v2,g2,rfl,r1,r2,r3,lS,r4,r5,r6,r7⟩;obtain⟨bt,bS,rfl,bb,bU,RZ⟩:=r1;rw[fp,CK.out] at bb RZ;rw[fp,CK.out];have bN:=r7.size;have bc:Hid (bh w2 (w.heap.size+1) (aM { n with B:=jF n.B z l 0 } v) 75):=by
     have :=(bn.out.keep nK.out (by simp)).keep r7 (by simp only[aL,aK,bC];have :=Fe.out;omega);rw[<-HN.out] at this;exact this
    have bH:Hid (bh w2 (w.heap.size+1+1) R0 75):=(EN.out.keep nK.out (by simp)).keep r7 (by simp only[aL,aK,bC];have :=Fe.out;omega);have Zh:Hid (∀w4,ay [w.heap.size+1,w.heap.size+1+1] w2 w4->Pm w b gp B ps n v z (.returned (.tuple #[.agg (aM { n with B:=jF n.B z l q } v),(0:Int)])) w4):=λw4 bJ=>by
     exact qV.out w2 w4 lS r4 r6 r7 bJ
    have bK:w.heap.size+1<g:=by have :=UN.out;omega
    have bj:w.heap.size+1<g2:=by omega
    have aR:∀j,j<q->g<w2.heap.size/\∃off,ad=some ⟨g,off,none⟩/\∀G,ay [w.heap.size+1] w2 G->G.cell? ⟨g,off+j,none⟩=some (.int .i64 ((z.getD j 0:Nat):Int)):=λj hj=>by
     obtain⟨p1,off,p2,p3⟩:=Mk.out (λe=>by have :=cP List.length e;rw[fp,cD,aF] at this;omega);have bv:ay [b,gp] wr w2:=r7;refine⟨by omega,off,p2,λG hk=> ?_⟩;rw[aO (w:=wr) (a:=⟨g,off+j,none⟩) ((hk.block g (by omega) (by rw[au];omega)).trans (bv.block g p1 (by simp only[aL,aK,bC];have :=Fe.out;omega))),p3 j (by omega),nA (by omega)]
    have aV:∀j,j<q->∃off,bt=some ⟨g2,off,none⟩/\∀G,ay [w.heap.size+1] w2 G->G.cell? ⟨g2,off+j,none⟩=some (.int .i64 ((l.getD j 0:Nat):Int)):=λj hj=>by
     obtain⟨p1,off,p2,p3⟩:=RZ (λe=>by have :=cP List.length e;rw[fp,cD] at this;have :=CK.out;omega);refine⟨off,p2,λG hk=> ?_⟩;rw[aO (w:=w2) (a:=⟨g2,off+j,none⟩) (hk.block g2 (by omega) (by rw[au];omega)),p3 j hj,nA (by rw[CK.out];exact hj)]
    obtain⟨bu,bk⟩:=hh2 aR aV;have bG:Hid (∀j,j<q->z.getD j 0<13):=λj hj=>by
     rw[aj,aD (by omega)];exact bo.out _ (bF _)
    have IB:=ar aF;have bZ:q<=13:=by have :=bR.out;omega
    clear aR aV RZ aF r2 r3 r4 r5 r6 r7 qV QK JT bN Mk bp bI bb bK bj;go_wp2_with fail;go_loopg [14,15,47] q (λgh s14 s15 s47 G=>∃j:Nat,j+gh=q/\s47= .int .i64 (j:Int)/\Hid (bh G (w.heap.size+1) (aM { n with B:=jF n.B z l j } v) 75/\ay [w.heap.size+1] w2 G))
    case atStart=>exact⟨0,by omega,rfl,bc.out,ay.refl _ _⟩
    case round=>
     clear bc;obtain⟨j,hj,rfl,V⟩:=hrel;cases gk with
     |zero=>
      obtain rfl:j=q:=by omega
      have aW:=cg V.out.1 (by show(jF n.B z l j).length=13;rw[oF];exact HB.out);obtain⟨w4,q1,q2,q3⟩:=cz (n:={ n with B:=jF n.B z l j }) (v:=v) (bH.out.keep V.out.2 (by simp)) (by rw[<-Rv.out];rfl) (by show(jF n.B z l j).length=13;rw[oF];exact HB.out) HV.out;obtain⟨HL,HS,rN,HF⟩:=hh4 aW q1 (cg q2 (by show(jF n.B z l j).length=13;rw[oF];exact HB.out)) (Zh.out w4 ((V.out.2.mono (by simp)).trans q3 (by simp)));clear q1 q2 q3 aW Zh V;generalize aM { n with B:=jF n.B z l j } v=NN at *;go_wp2_with(with_reducible first|refine gS 75 HS.out ?_|refine gL 75 HL.out ?_);exact aI (eG results117 rfl rN.out rfl) rfl HF.out
     |succ gg=>
      have av:j<q:=by omega
      have cd:(j:Int)<(q:Int):=by omega
      have Ci:(0:Int)<=(j:Int):=by omega
      obtain⟨-,off,rfl,bD⟩:=bu.out j av;obtain⟨bV,rfl,bf⟩:=bk.out j av;have b7:=bD _ V.out.2;have bX:=bf _ V.out.2;have ba:=bG.out j av;have bl:Hid (jF n.B z l (j+1)=(jF n.B z l j).set (z.getD j 0) ((l.getD j 0:Nat):Int)):=rfl;have ax:(jF n.B z l j).length=13:=by rw[oF];exact HB.out
      have b9:=Mb (n:={ n with B:=jF n.B z l j }) (v:=v) ax V.out.1 ba;have cj:=V.out.1.frozen (4+z.getD j 0);have sf:=V.out.1.set (4+z.getD j 0) (.int .i64 ((l.getD j 0:Nat):Int));rw[WA (n:={ n with B:=jF n.B z l j }) ax ba] at sf;have mA:Hid (bh (wr.setCell ⟨w.heap.size+1,4+z.getD j 0,none⟩ (.int .i64 ((l.getD j 0:Nat):Int))) (w.heap.size+1) (aM { n with B:=jF n.B z l (j+1) } v) 75/\ay [w.heap.size+1] w2 (wr.setCell ⟨w.heap.size+1,4+z.getD j 0,none⟩ (.int .i64 ((l.getD j 0:Nat):Int)))):=⟨sf,V.out.2.setCell (by simp) _⟩;have cf:(0:Int)<=((z.getD j 0:Nat):Int):=by omega
      have bW:((z.getD j 0:Nat):Int)<13:=by omega
      clear sf ax V bl;generalize z.getD j 0=xx,((l.getD j 0:Nat):Int)=yy at *;go_wp2_with fail;go_roundg gg;case measure=>omega
      case rel=>exact⟨j+1,by omega,by go_num,mA.out⟩
  |succ gg=>
   have mo:k<13:=by omega
   have ah:(k:Int)<(e:Int):=by omega
   have Qn:(k:Int)<13:=by omega
   have cM:(0:Int)<=(k:Int):=by omega
   have vS:IntKind.i64.wrap ((k:Int)+1)=(k:Int)+1:=by rw[cy];omega
   have bz:=UU.out wr V.out.2 k mo;have Rp:=bB.out k;have ak:=M8.out k;generalize n.B.getD k 0=x at *;by_cases hx:x=0
   ·have e0:(x==0)=true:=by rw[hx];rfl
    obtain⟨ae,jr⟩:=hh2 V.out.1 V.out.2;rw[aB ⟨bw,hx⟩] at Rp;have aN:=ar Rp;have bY:=V.out.2.size;clear V Rp hx;generalize bP:fK n.B a k=L at *;generalize hq:L.length=q at *;have HQ:=ar hq;clear bP hq;go_wp2_with(first|(go_at_call 156;refine C' (Nl.out _) ?_)|(at_builtin;refine eU _ rfl _ _ 76 rfl W.heap.size 3 i0 (.int .i64 0) 1 8 underlying76 hi bM bq bO rfl (by decide) u10 q _ rfl (ae.out.alloc _) ⟨wr.heap.size,0,none⟩ 1 1 [.int .i64 (k:Int)] rfl rfl ?c1 ?c2 (by unfold maxLen;omega) (by omega) (by simp;omega) ?_));case c1=>exact lH _ [_] _ _ rfl
    case c2=>simp[Value.oneCell']
    intro v' w1 aa ac aY;have Qs:Hid (w1.ownsRow W.heap.size 3 1 v' (fK n.B a (k+1)).length (dL (fK n.B a (k+1)))/\ay [] W w1):=by
     show _/\_;rw[aN.out,aC,HQ.out,ub];exact⟨aa,(jr.out.alloc _).grown ac (dQ ae.out)⟩
    clear aa ac aY ae jr aN HQ;go_wp2_with fail;go_roundg gg;case measure=>omega
    case rel=>exact⟨k+1,by omega,by omega,by go_num,Qs⟩
   ·have e0:(x==0)=false:=by simpa using hx
    have Qs:Hid (wr.ownsRow W.heap.size 3 1 u10 (fK n.B a (k+1)).length (dL (fK n.B a (k+1)))/\ay [] W wr):=by
     show _/\_;rw[Rp,aA (λh=>hx h.2),br];exact V.out
    clear V Rp hx;go_wp2_with(go_at_call 156;refine C' (Nl.out _) ?_);go_roundg gg;case measure=>omega
    case rel=>exact⟨k+1,by omega,by omega,by go_num,Qs⟩
theorem Jm (h:z.cells= #[z])(n:Nat):(Builtin.zeroCells z.cells n).toList=List.replicate n z:=by
 rw[h];apply cV
 ·simp[Builtin.zeroCells]
 ·intro j G J
  simp[Builtin.zeroCells,Nat.mod_one]
theorem KC{t off n cap:Nat}{h:Array Value}(hu: prog.underlying t=some (.slice G))(hz:(zeroValue G).run prog w= .ok z w)(YA:z.cells= #[z])(J:z.oneCell'=true)(U:bh w b h T)(W:off+n<=h.size):
  ∃w',(∀ty,(Builtin.clear_ #[t] ty #[.slice (some ⟨b,off,none⟩) n cap]).run prog w= .ok (.tuple #[]) w')/\bh w' b (h.toList.take off++List.replicate n z++h.toList.drop (off+n)).toArray T/\ay [b] w w':=by
 cases n with
 |zero=>
  refine⟨w,λty=> ?_,?_,ay.refl _ _⟩
  ·unfold Builtin.clear_
   simp[dB hu]
  ·rw[List.replicate_zero,br,dC,dt]
   exact U
 |succ m=>
  have V:=run_storeCells_at prog b off T (List.replicate (m+1) z) 0 h w U (by rw[bE];omega) (λv hv=>by rw[il hv];exact J);refine⟨_,λty=> ?_,?_,(ay.refl _ _).setRow (g:=b) (by simp) (h.toList.take off++List.replicate (m+1) z++h.toList.drop (off+(List.replicate (m+1) z).length)).toArray⟩
  ·unfold Builtin.clear_
   simp only[cr,dB hu,cO,aF,iD,hz,Jm YA];simp only[dC] at V;rw[V];simp
  ·rw[bE]
   exact kr U
theorem Pn (b c:Nat)(V:c<=13)(w:World):∃off,(Instr.sliceAt 73 (.pointer (some ⟨b,4,none⟩)) (some (.int .i64 (c:Int))) none none).run prog w= .ok (.slice (some ⟨b,off,none⟩) (13-c) (13-c)) w/\(c<13->off=4+c)/\off<=17:=by
 have J:∀w,(sizeOf (prog.elem 73)).run prog w= .ok 1 w:=λw=>by show Sem.run _ _ _=_;kernel_rfl
 have z: prog.arrayLen 73 =13:=by kernel_rfl
 have G:=run_sliceAt_array_l (P:= prog) w 73 ⟨b,4,none⟩ (by kernel_rfl) .i64 (c:Int) (by omega) (by rw[z];omega);rw[J,z,aG] at G;rw[G];by_cases U:c<13
 ·refine⟨4+c,?_,λ_=>rfl,by omega⟩
  simp only[Result.andThen,slicedAt,aA (show ¬13=c by omega),iJ,add_plain]
 ·obtain rfl:c=13:=by omega
  exact⟨4,rfl,λh=>absurd h U,by omega⟩
theorem aaC (J:n.B.length=13){c off:Nat}(hc:c<=13)(ho:c<13->off=4+c):((aM n v).toList.take off++List.replicate (13-c) (Value.int .i64 0)++(aM n v).toList.drop (off+(13-c))).toArray=aM (qH n c) v:=by
 by_cases h:c<13
 ·obtain rfl:=ho h
  have U:(aM n v).toList=([.int .i64 n.F,.int .i64 n.K,.int .i64 n.L,.int .i64 n.S]:List Value)++(zs n.B++[v]):=rfl;have G:aM (qH n c) v=(([.int .i64 n.F,.int .i64 n.K,.int .i64 n.L,.int .i64 n.S]:List Value)++(zs (jh n.B c)++[v])).toArray:=rfl;rw[U,G]
  congr 1
  have e3:∀(a:List Value) (r:List Value) (j:Nat),a.length=4->(a++r).take (4+j)=a++r.take j:=λa r j z=>by rw[<-z,List.take_length_add_append]
  have W:∀(a:List Value) (r:List Value) (j:Nat),a.length=4->(a++r).drop (4+j)=r.drop j:=λa r j z=>by rw[<-z,List.drop_length_add_append]
  rw[e3 _ _ _ rfl,show 4+c+(13-c)=4+13 by omega,W _ _ _ rfl,fI (by rw[eO];omega),List.drop_left' (by rw[eO,J]),aV,aV]
  congr 1
  unfold jh;rw[yQ,aV];simp[zs]
 ·obtain rfl:c=13:=by omega
  have V:jh n.B 13=n.B:=by unfold jh;rw[aW (by omega)];simp
  have G:aM (qH n 13) v=aM n v:=by unfold qH;rw[V]
  rw[G,je,List.replicate_zero,br,dC,dt]
theorem aaD (U:c.length=832){s off:Nat}(J:s<=832)(G:s<832->off=s):((kS c).toArray.toList.take off++List.replicate (832-s) (Value.int .u8 0)++(kS c).toArray.toList.drop (off+(832-s))).toArray=(kS (OV c s)).toArray:=by
 by_cases h:s<832
 ·obtain rfl:=G h
  congr 1
  rw[dz (by show(kS c).length<=_;rw[fH];omega),br];unfold OV kS;rw[ey,jT,jq]
 ·obtain rfl:s=832:=by omega
  have z:OV c 832=c:=by unfold OV;rw[aW (by omega)];simp
  rw[z,je,List.replicate_zero,br,dC,dt]
theorem Po (b m:Nat)(h:m<=832)(w:World):∃off cap,(Instr.sliceAt 166 (.pointer (some ⟨b,0,none⟩)) (some (.int .i64 (m:Int))) none none).run prog w= .ok (.slice (some ⟨b,off,none⟩) (832-m) cap) w/\(m<832->off=m)/\off+(832-m)<=832:=by
 by_cases z:m<832
 ·exact⟨m,832-m,uI b m z w,λ_=>rfl,by omega⟩
 ·obtain rfl:m=832:=by omega
  have U:∀w,(sizeOf (prog.elem 166)).run prog w= .ok 1 w:=λw=>by show Sem.run _ _ _=_;kernel_rfl
  have G: prog.arrayLen 166 =832:=by kernel_rfl
  have J:=run_sliceAt_array_l (P:= prog) w 166 ⟨b,0,none⟩ (by kernel_rfl) .i64 (832:Nat) (by omega) (by rw[G];omega);rw[U,G,aG] at J;refine⟨0,0,?_,λh=>absurd h z,by omega⟩;rw[J];rfl
def ru (n:bT) (c:Nat):List Nat:=(n.B.drop c).map Int.toNat
theorem Pp (J:n.B.length=13)(W:∀k,0<=n.B.getD k 0)(G:bh w g (aM n v) T){c off:Nat}(hc:c<=13)(ho:c<13->off=4+c):Reads w (.slice (some ⟨g,off,none⟩) (13-c) (13-c)) g (dL (ru n c)):=by
 have z:(dL (ru n c)).length=13-c:=by rw[fp];unfold ru;simp[J]
 refine⟨_,13-c,by rw[z],by omega,by unfold maxLen;omega,λaa=>⟨G.lt,off,rfl,λj U=> ?_⟩⟩;rw[z] at U;obtain rfl:=ho (by omega);rw[show 4+c+j=4+(c+j) by omega,Mb J G (by omega),nA (by rw[<-fp,z];exact U)]
 congr 2
 have h:=W (c+j);unfold ru;simp only[aj,bJ,b9] at h ⊢;have V:c+j<n.B.length:=by omega
 rw[aD V] at h ⊢;simp only[fc,fU] at h ⊢;omega
theorem ae4 (h:eK w b gp B ps)(aG:In64 (az B ps))(bv:b<w.heap.size/\gp<w.heap.size)(bI:ps.length<=600000){n:bT}(hB:n.B.length=13)(hN:lD n.B)(o:jz)(vp vq vd:Value){v:Value}(hv:v.oneCell'=true)(s:Nat)(hs:s<=832):
  Calls prog 120 #[cB b o vp vq vd,aM n v,(s:Int)] w λe w'=>e=aM (qH n (bL s)) v/\
   vR w w' b gp B (ps++(cm (az B ps) (ru n (bL s))++fu (qH n (bL s)).B (OV (iT (az (az B ps) (cm (az B ps) (ru n (bL s)))) (qH n (bL s))) s) 13)):=by
 obtain⟨R0,aJ⟩:∃R0,aM ck (.slice none 0 0)=R0:=⟨_,rfl⟩;obtain⟨W,hW⟩:∃W,((w.alloc (.cells (cB b o vp vq vd) 91)).alloc (.cells (aM n v) 75)).alloc (.cells R0 75)=W:=⟨_,rfl⟩;have cM:ay [] w W:=by rw[<-hW];exact(((ay.refl [] w).alloc _).alloc _).alloc _
 have jN:bh W w.heap.size (cB b o vp vq vd) 91 :=by rw[<-hW];exact((bh.new w _ _).alloc _).alloc _
 have IC:bh W (w.heap.size+1) (aM n v) 75 :=by rw[<-hW];exact(bh.new2 w _ _ _ _).alloc _
 have jL:bh W (w.heap.size+1+1) R0 75 :=by
  have :=bh.new2 (w.alloc (.cells (cB b o vp vq vd) 91)) (aM n v) 75 R0 75;rw[aX,hW] at this;exact this
 have bl:W.heap.size=w.heap.size+1+1+1:=by rw[<-hW];simp only[aX]
 have rH:=dA;rw[aJ] at rH;have hX:(az B ps).length=3128:=h.raw.lx;obtain⟨c,hc⟩:∃c,bL s=c:=⟨_,rfl⟩;have GG:c<=13:=by rw[<-hc];unfold bL;omega
 rw[hc];have Nl:Hid (∀wx,Calls prog 156 #[(s:Int)] wx λx w'=>x=(c:Int)/\wx=w'):=λwx=>by
  have :=EA s (by omega) wx;rwa[hc] at this
 obtain⟨off,bW,aa,bB⟩:=Pn (w.heap.size+1) c GG W;have QK:W.cell? w.heap.size=some (.pointer (some ⟨b,0,none⟩)):=by rw[jN.cell];rfl
 have bg:∀k,0<=n.B.getD k 0:=λk=>by
  by_cases mo:k<13
  ·exact(mQ hN mo).1
  ·rw[aj,aP (by omega)];decide
 have aD:=ar (Lv (h.keep cM (by simp) (by simp)) aG (by omega) (by omega) (Pp hB bg IC GG aa) (by unfold ru;simp;omega) (λ_=>⟨by omega,by omega⟩));have LA:=(iB (ru n c) (az B ps) aG hX).1;have bo:(cm (az B ps) (ru n c)).length<=13:=by
  refine cG (qA _ _) ?_;unfold ru;simp;omega
 obtain⟨G,bf⟩:∃G,cm (az B ps) (ru n c)=G:=⟨_,rfl⟩;rw[bf] at aD LA bo ⊢;rw[<-bz] at LA ⊢;have aN:lD (jh n.B c):=λk mo=>by
  have Ce:=qo hB GG;rw[Ce];split
  ·next hkc=>
   refine⟨mQ hN mo,λcf j hj=> ?_⟩;rw[Ce,aB];exact(hN k mo).2 cf j hj
  ·exact⟨by omega,λh=>absurd rfl h⟩
 have af:(qH n c).B.length=13:=nQ hB GG;have bk:=zw (kP (az B (ps++G)) (qH n c)) hs;have aU:=(kP (az B (ps++G)) (qH n c)).1;have bj:=(kP (az B (ps++G)) (qH n c)).2;have bX:Hid (∀z U,eK U b z B (ps++G)->b<U.heap.size/\z<U.heap.size->∀vv,Calls prog 116 #[cB b o vp vq vd,aM (qH n c) vv] U λe w'=>e=(kS (iT (az B (ps++G)) (qH n c))).toArray/\ay [] U w'):=λz U h1 h2 vv=>xa h1 h2 LA af aN o vp vq vd vv
 have b7:Hid (∀z U,eK U b z B (ps++G)->b<U.heap.size/\z<U.heap.size->∀vv,Calls prog 118 #[cB b o vp vq vd,aM (qH n c) vv,(kS (OV (iT (az B (ps++G)) (qH n c)) s)).toArray] U λe w'=>e= .returned (.tuple #[])/\vR U w' b z B ((ps++G)++fu (qH n c).B (OV (iT (az B (ps++G)) (qH n c)) s) 13)):=λz U h1 h2 vv=>Ac h1 h2 (by rw[aC];omega) af aN bk o vp vq vd vv
 have bS:=ar (λvv=>aaC (n:=n) (v:=vv) hB GG aa);rw[<-aV];generalize fu (qH n c).B (OV (iT (az B (ps++G)) (qH n c)) s) 13=bu at *;generalize iT (az B (ps++G)) (qH n c)=CL at *;obtain⟨bF,b9,EN,lU,fJ,Rv,HV⟩:=hh7 IC jN jL bl cM aJ hv;obtain⟨Fe,HB,ae,Il,bY,bO,bZ⟩:=hh7 bv hB af aU bj aa bB;have aY:Hid (∀wx,bh wx w.heap.size (cB b o vp vq vd) 91->(loadVar 91 w.heap.size).run prog wx= .ok (.agg (cB b o vp vq vd)) wx):=λwx hb=>jG hb
 obtain⟨Z8,aF⟩:∃Z8,(kS (List.replicate 832 0)).toArray=Z8:=⟨_,rfl⟩;have bM:=zx;rw[aF] at bM;have xE:Hid (Z8.size=832):=by rw[<-aF];unfold Hid;rw[bN,fH,bE]
 clear aF;have ax:=ar hs;clear h aG bv bI hB hN jN IC jL bl cM aJ hv hX hc bo LA aN bk bf bg af aU bj aa bB hs;generalize hJ:cB b o vp vq vd=J,bw:aM n v=N at *;have NW:=ar bw;clear hJ bw;go_in;go_wp2_with(first|(go_at_call 156;refine C' (Nl.out _) ?_));refine Rr aD.out ?_;rintro U ⟨z,r1,r2,r3⟩;have av:=Fe.out;have aZ:=lU.out;have cd:=r3.size;have ah:∀x,w.heap.size<=x->x∉[b,gp]:=λx hx=>by simp only[aL,aK,bC];omega
 have bp:(zeroValue 3).run prog U= .ok (.int .i64 0) U:=by kernel_rfl
 obtain⟨w3,bt,ag,ac⟩:=KC (off:=off) (n:=13-c) (cap:=13-c) underlying76 bp rfl rfl (bF.out.keep r3 (ah _ (by omega))) (by rw[<-NW.out];show off+(13-c)<=(mZ n v).length;rw[gM,HB.out];have :=bO.out;have :=bZ.out;omega);rw[<-NW.out,bS.out] at ag;have cr:=bt 0;have aH:=r2.keep ac (by simp;omega) (by simp;omega);have bV:=ac.size;have aA:=(b9.out.keep r3 (ah _ (by omega))).keep ac (by simp);have aW:=(EN.out.keep r3 (ah _ (by omega))).keep ac (by simp);obtain⟨lY,uT,Le⟩:=hh3 (aY.out _ aA) (cg ag ae.out) (bX.out z w3 aH (by omega) v);have br:Hid (eK w3 b z B (ps++G)/\bh w3 w.heap.size J 91/\bh w3 (w.heap.size+1) (aM (qH n c) v) 75/\bh w3 (w.heap.size+1+1) R0 75/\(b<w3.heap.size/\z<w3.heap.size)/\(z=gp\/(W.heap.size<=z/\z<w3.heap.size))/\ay [b,gp] w w3/\w.heap.size+1+1<w3.heap.size):=⟨aH,aA,ag,aW,by omega,by omega,((fJ.out.mono (l':=[b,gp]) (by simp)).trans' r3).trans ac (by intro x hx;rw[au] at hx;omega),by omega⟩;clear bt r1 r2 r3 ac ag aA aW aH bV cd aZ bp av ah aD bW QK;go_wp2_with(with_reducible first|refine gL 91 lY.out ?_|refine gL 75 uT.out ?_);refine Rr Le.out λw4 ak=> ?_;obtain⟨w5,q1,q2,q3⟩:=bG (P:= prog) (ty:= 166) (cs:=kS CL) (by rw[fH,Il.out];exact vP) (bh.new w4 Z8 166) (by rw[fH,Il.out,xE.out]) (wY _);obtain⟨bU,bH,cj,aT,bq⟩:=Po w4.heap.size s ax.out w5;have vZ:(zeroValue 5).run prog w5= .ok (.int .u8 0) w5:=by kernel_rfl
 obtain⟨w6,bn,tS,jv⟩:=KC (off:=bU) (n:=832-s) (cap:=bH) underlying29 vZ rfl rfl q2 (by rw[bN,fH,Il.out];exact bq);rw[aaD Il.out ax.out aT] at tS;obtain⟨p1,p2,p3,p4,p5,p6,p7,p8⟩:=br.out;have bQ:=ak.size;have V:∀x,x<w3.heap.size->x∉[w4.heap.size]:=λx hx=>by rw[au];omega
 have bR:w4.heap.size+1<=w5.heap.size:=by have :=q3.size;rwa[aX] at this
 have bJ:=jv.size;have ai:∀{g T:Nat} {C:Array Value},bh w3 g C T->bh w6 g C T:=λ{g T C} hb=>(((hb.keep ak (by simp)).alloc _).keep q3 (V _ hb.lt)).keep jv (V _ hb.lt)
 have ba:=ai p2;have aO:=ai p3;have aR:=ai p4;have DC:ay [b,gp] w w6:=(((p7.trans ak (by simp)).alloc (.cells Z8 166)).trans q3 (by intro x hx;rw[au] at hx;omega)).trans jv (by intro x hx;rw[au] at hx;omega);have aS:eK w6 b z B (ps++G):=by
  have :=((p1.keep ak (by simp) (by simp)).keep ((ay.refl [] _).alloc (.cells Z8 166)) (by simp) (by simp)).keep q3 (V _ p5.1) (V _ p5.2);exact this.keep jv (V _ p5.1) (V _ p5.2)
 have rA:=ar q1;have ct:=bn 0;obtain⟨DA,WC,bc,aQ⟩:=hh4 (aY.out _ ba) (cg aO ae.out) (zy tS (zw ⟨Il.out,λx hx=>bY.out x hx⟩ ax.out).1) (b7.out z w6 aS (by omega) v);have mn:Hid (∀w7,vR w6 w7 b z B (ps++G++bu)->bh w7 (w.heap.size+1) (aM (qH n c) v) 75/\bh w7 (w.heap.size+1+1) R0 75/\∀w8,ay [w.heap.size+1+1] w7 w8->vR w w8 b gp B (ps++G++bu)):=λw7 hp=>by
  obtain⟨g3,e1,e2,e3⟩:=hp;have cn:=e3.size;have av:=Fe.out;have aZ:=lU.out;have bb:∀x,w.heap.size<=x->x<W.heap.size->x∉[b,z]:=λx hx cp=>by simp only[aL,aK,bC];omega
  refine⟨aO.keep e3 (bb _ (by omega) (by omega)),aR.keep e3 (bb _ (by omega) (by omega)),λw8 uA=> ?_⟩;have Mg:=uA.size;refine⟨g3,by omega,e2.keep uA (by rw[au];omega) (by rw[au];omega),(DC.trans e3 λx hx=> ?_).trans uA λx hx=> ?_⟩
  ·simp only[aL,aK,bC] at hx ⊢
   omega
  ·rw[au] at hx
   omega
 clear p1 p2 p3 p4 p5 p6 p7 p8 q1 q2 q3 bn tS jv DC aS ba aO aR ai V bQ bR bJ aT bq vZ br lY uT Le;go_wp2_with(with_reducible first|refine gL 91 DA.out ?_|refine gL 75 WC.out ?_|refine gL 166 bc.out ?_|refine gS 166 rA.out ?_);refine Rr aQ.out λw7 bD=> ?_;obtain⟨g1,g2,g3⟩:=mn.out w7 bD;obtain⟨w8,q1,q2,q3⟩:=cz (n:=qH n c) (v:=v) g2 (by rw[<-Rv.out];rfl) ae.out HV.out;obtain⟨bK,bP,IY,b6⟩:=hh4 (cg g1 ae.out) q1 (cg q2 ae.out) (g3 w8 q3);clear g1 g2 g3 q1 q2 q3 bD mn aQ DA WC bc rA;go_wp2_with(with_reducible first|refine gL 75 bK.out ?_|refine gS 75 bP.out ?_);exact aI (bA results120 rfl IY.out) rfl ⟨rfl,b6.out⟩
theorem Im (h:bh w g (aM n v) T)(x:Int):bh (w.setCell ⟨g,3,none⟩ (.int .i64 x)) g (aM { n with S:=x } v) T:=h.set 3 (.int .i64 x)
theorem Io{w':World}{z:Nat}(J:∀h,ay [b,G] w h->kN h)(U:ay [b,G] w w')(hg:z=G\/w.heap.size<=z):∀h,ay [b,z] w' h->kN h:=λh W=>J h (U.trans W λy V=>by
 simp only[aL,aK,bC] at V ⊢;omega)
section
variable {w W:World} {b gp:Nat} {B:List Int} {T:List (bT×Value)} {own:Nat->List Nat} {M:Nat->Nd} {o:jz} {cur:Array Value}
theorem Pq (h:rC w b gp B [] T own [] M)(cM:ay [] w W)(jL:bh W (w.heap.size+1) cur 38)(hc:cur.size=7)(ag:W.heap.size=w.heap.size+2){w2 w4:World}{ps:List (Int×Int)}(J:ay [b,gp] W w2){G:Nat}(ai:G=gp\/(W.heap.size<=G/\G<w2.heap.size))(ae:eK w2 b G B ps)(aj:ps.length<=2000)(af:In64 (az B ps)){y:Nat}(hy:W.heap.size<=y)(av:y≠G)(z:ay [y] w2 w4){i:Nat}{n:bT}{v:Value}(hB:n.B.length=13)(hE:n.E=[])(hr:bD w4 v 0 n.E)
  (hR:∀r qs,nU (az B ps) (i:Int) n r qs->lv B M o { fy with E:=r } (ps++qs)):
  Calls prog 48 #[b,(i:Int),aM n v] w4 (yM w b gp B (lv B M o)):=by
 have U:=h.lt;have ah:=z.size;have ak:=J.size;have V:ay [b,gp] W w4:=J.trans z λx hx=>by rw[au] at hx;omega
 have ac:=ae.keep z (by rw[au];omega) (by rw[au];omega);have hT:∀wx,ay [b,G] w4 wx->kN wx:=Io h.tab ((cM.mono (by simp)).trans' V) (by omega);refine(sB ac af hT (by omega) (by omega) (i:Int) n v 0 hB hr (λk hk=>by rw[hE] at hk;simp at hk) (λh0=>by rw[hE] at h0;simp at h0)).mono ?_;rintro e w5 ⟨r,qs,aa,rfl,e1,e2,e3,e4,e5⟩;have ar:=e3.size;have lh:ay [b,gp] W w5:=V.trans e3 λx hx=>by
  simp only[aL,aK,bC] at hx ⊢;omega
 obtain⟨wy,s1,s2,s3,s4⟩:=lM jL hc lh (eD U (by omega)) r;refine⟨r,wy,rfl,s1,s2,fF.some U cM (by omega) (Rq:=λ_ q=>lv B M o { fy with E:=r } q) (m:=2700) ⟨r,ps++qs,aa,rfl,by omega,by rw[bQ];exact e2,lh,by rw[aC];omega,hR r qs e5⟩ (by omega) s4 s3 λ_ hq=>hq⟩
theorem mX (h:rC w b gp B [] T own [] M)(J:dw M)(he:(dc M o.P).2=0):(M (dc M o.P).1).K=1/\(nT T (dc M o.P).1).B.length=13/\lD (nT T (dc M o.P).1).B/\(nT T (dc M o.P).1).E=[]/\(dc M o.P).1=(cN M o.P).1/\0<=(nT T (dc M o.P).1).S/\(nT T (dc M o.P).1).S<=832:=by
 obtain⟨V,h2,h3⟩:=pX he;rw[h3];have U:=(nV J V).1;have z:(M (cN M o.P).1).K=1:=by
  rcases J.kind (cN M o.P).1 with G|G|G
  ·rw[G] at U;exact absurd rfl U
  ·exact G.1
  ·exact absurd G.1 h2
 obtain⟨f1,f2,f3,-,-,-,f7⟩:=h.nd.fileAt z;exact⟨z,f7,f3.2.2.2,bo f3.2.1,rfl,f3.1.1,f3.1.2⟩
theorem KD (V:o.K=4)(G:(dc M o.P).2=0){s:Nat}(U:o.N=(s:Int))(hs:s<=832){qs:List (Int×Int)}{m:Nat}(J:m<=400)(z:Goes B qs [] (nu M (dc M o.P).1 { M (dc M o.P).1 with D:=yA (M (dc M o.P).1).D s }) m):lv B M o { fy with E:=0 } qs:=by
 have h:=Du V G;rw[aA,aA,U,aG] at h;rw[(pX G).2.2] at z;exact .inr (.inr ⟨rfl,by rw[h];rfl,.inl (by rw[h];rfl),by rw[h];exact z.lands J⟩)
theorem size_grow(h:rC w b gp B [] T own [] M)(hT:dw M)(hK:o.K=4)(J:ay [] w W)(jL:bh W (w.heap.size+1) cur 38)(hc:cur.size=7)(z:W.heap.size=w.heap.size+2)(V:(dc M o.P).2=0){s:Nat}(hN:o.N=(s:Int))(U:s<=832)(G:(nT T (dc M o.P).1).S<=(s:Int)){w4:World}(hk:ay [] W w4){v:Value}{g:Nat}(hr:bD w4 v g (nT T (dc M o.P).1).E):
  Calls prog 48 #[b,((dc M o.P).1:Int),.agg (aM { nT T (dc M o.P).1 with S:=(s:Int) } v)] w4 (yM w b gp B (lv B M o)):=by
 obtain⟨f1,f2,f3,f4,f5,-⟩:=mX h hT V;have aa:=h.lt;refine Pq h J jL hc z (ay.refl _ W) (.inl rfl) (h.sh.keep J (by simp) (by simp)) (by simp) h.nd.st.w64 (y:=W.heap.size) (aH _) (by omega) (hk.mono (by simp)) (n:={ nT T (dc M o.P).1 with S:=(s:Int) }) f2 f4 (hr.anyG (by rw[f4];rfl) 0) λr qs hp=> ?_
 obtain⟨rfl,hg⟩:=h.nd.grow f1 U G hp;exact KD hK V hN U (by omega) hg
theorem aaG (h:rC w b gp B [] T own [] M)(hT:dw M)(hK:o.K=4)(vp vq vd:Value)(cM:ay [] w W)(jL:bh W (w.heap.size+1) cur 38)(hc:cur.size=7)(aa:W.heap.size=w.heap.size+2)(he:(dc M o.P).2=0){s:Nat}(hN:o.N=(s:Int))(hs:s<=832)(af:(s:Int)<(nT T (dc M o.P).1).S){G:World}(U:ay [] W G){v:Value}(hv:v.oneCell'=true):
  Calls prog 120 #[cB b o vp vq vd,aM (nT T (dc M o.P).1) v,(s:Int)] G λe J=>∃m:bT,e=aM m v/\m.B.length=13/\ay [b,gp] G J/\∀y w4,W.heap.size<=y->y<G.heap.size->ay [y] J w4->bD w4 v 0 []->
   Calls prog 48 #[b,((dc M o.P).1:Int),.agg (aM { m with S:=(s:Int) } v)] w4 (yM w b gp B (lv B M o)):=by
 obtain⟨f1,f2,f3,f4,f5,f6,f7⟩:=mX h hT he;have ag:=h.lt;have Ul:=U.size;refine(ae4 (h.sh.keep (cM.trans' U) (by simp) (by simp)) h.nd.st.w64 (by omega) (by simp) f2 f3 o vp vq vd hv s hs).mono ?_;rintro e J ⟨rfl,Rl,p1,p2,p3⟩;have z:(qH (nT T (dc M o.P).1) (bL s)).B.length=13:=nQ f2 (by unfold bL;omega);have kg:ay [b,gp] W J:=(U.mono (by simp)).trans' p3;refine⟨_,rfl,z,p3,λy w4 ac ah ae hr=> ?_⟩;rw[bQ] at p2;have LA:=(iB (ru (nT T (dc M o.P).1) (bL s)) (az B []) h.nd.st.w64 h.nd.st.len).1;have V:=kP (az (az B []) (cm (az B []) (ru (nT T (dc M o.P).1) (bL s)))) (qH (nT T (dc M o.P).1) (bL s));refine Pq h cM jL hc aa kg (by omega) p2 ?_ ?_ (y:=y) ac (by omega) ae (n:={ qH (nT T (dc M o.P).1) (bL s) with S:=(s:Int) }) z f4 (by show bD w4 v 0 (nT T (dc M o.P).1).E;rw[f4];exact hr) λr qs hp=> ?_
 ·rw[aC]
  have h1:=qA (ru (nT T (dc M o.P).1) (bL s)) (az B []);have h2:=tM (qH (nT T (dc M o.P).1) (bL s)).B (OV (iT (az (az B []) (cm (az B []) (ru (nT T (dc M o.P).1) (bL s)))) (qH (nT T (dc M o.P).1) (bL s))) s) 13;have h3:(ru (nT T (dc M o.P).1) (bL s)).length<=13:=by unfold ru;simp;omega
  omega
 ·rw[bz]
  exact zi (n:=qH (nT T (dc M o.P).1) (bL s)) LA (zw V hs)
 ·rw[bz] at hp
  obtain⟨rfl,hg⟩:=h.nd.cut f1 af hp;rw[aV];exact KD hK he hN hs (by omega) hg
end
end Go.Proofs.YtimcfdnbpkiniaaGreatDoor
