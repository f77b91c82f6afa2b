/- Lemmas. -/
import Derived.Test.YtimcfdnbpkiniaaGreatDoorM29
import Derived.Deep.WholeRow
set_option maxHeartbeats 4000000
set_option maxRecDepth 100000
namespace Go.Proofs.YtimcfdnbpkiniaaGreatDoor
open Go.Proofs.Tryz
open Go.RowKit
variable{w:World}{G T b g gp k:Nat}{B X c l:List Int}{n:bS}{ps:List (Int×Int)}{v z:Value}
theorem vM:(prog.info? 166).map (·.size)=some 832:=by kernel_rfl
theorem zk (w:World):(zeroValue 166).run prog w= .ok (.agg (ky (List.replicate 832 0)).toArray) w:=by kernel_rfl
theorem wV (l:List Int):∀u∈ky l,u.oneCell'=true:=by
 intro u h;simp only[ky,bH] at h;obtain⟨x,-,rfl⟩:=h;rfl
theorem zm (h:bc w g (ky l).toArray T)(z:l.length=832):(loadVar 166 g).run prog w= .ok (.agg (ky l).toArray) w:=
 bX g 0 (ky l) underlying166 rfl (by rw[fq,z];exact vM) λj _=>by rw[h.cell,bp,aG]
def kC (X:List Int) (n:bS) (m:Nat):List Int:=(List.range 832).map λj=>if j<m then ma X n j else 0
theorem wW (X:List Int)(n:bS)(m:Nat):(kC X n m).length=832:=by simp[kC]
theorem O6 (X:List Int)(n:bS):kC X n 0=List.replicate 832 0:=by
 apply cG;intro j;simp only[kC,bO,bB];by_cases h:j<832
 ·rw[cU h,aB h];rfl
 ·rw[aZ (by simpa using h),aA h];rfl
theorem RR (X:List Int)(n:bS):kC X n 832=iL X n:=by
 unfold kC iL;refine dL λj h=> ?_
 rw[aB (cu.1 h)]
theorem O7 (h:n.B.getD k 0=0):kC X n (64*k)=kC X n (64*(k+1)):=by
 unfold kC;refine dL λj G=> ?_
 by_cases z:j<64*k
 ·rw[aB z,aB]
 ·rw[aA z]
  split
  ·unfold ma
   rw[show j/64=k by omega,aB h]
  ·rfl
def yE (W:Nat):List Int:=(lO W).map λc:Nat=>(c:Int)
theorem vN (W:Nat):(yE W).length=8:=by simp[yE,mr]
theorem O8 (W:Nat):pQ (lO W)=ky (yE W):=by simp[pQ,ky,yE]
theorem Wx (W:Nat){j:Nat}(h:j<8):(yE W)[j]? =some ((rG W j:Nat):Int):=by
 have z:=uH W j h;have G:j<(lO W).length:=by rw[mr];exact h
 rw[aj,aD G] at z;unfold yE;rw[bO,aD G];exact cP (λc:Nat=>some (c:Int)) z
theorem O9{i:Nat}(V:k<13)(hi:i<8)(U:n.B.getD k 0≠0):
  (kC X n (64*k+8*i)).take (64*k+8*i)++(yE (X.getD (1080+8*(n.B.getD k 0).toNat+i) 0).toNat).take (832-(64*k+8*i))++(kC X n (64*k+8*i)).drop (64*k+8*i+min 8 (832-(64*k+8*i)))=kC X n (64*k+8*(i+1)):=by
 rw[show min 8 (832-(64*k+8*i))=8 by omega,aW (i:=832-(64*k+8*i)) (by rw[vN];omega)];apply cG;intro j;have G:((kC X n (64*k+8*i)).take (64*k+8*i)).length=64*k+8*i:=by rw[aJ,wW];omega
 have z:∀m j,j<832->(kC X n m)[j]? =some (if j<m then ma X n j else 0):=λm j h=>by simp[kC,h]
 by_cases J:j<64*k+8*i
 ·rw[aV,bh (by omega),bU,aB J,z _ _ (by omega),z _ _ (by omega),aB J,aB]
 ·by_cases h2:j<64*k+8*i+8
  ·rw[bh (by rw[aC,G,vN];omega),aT (by omega),G,Wx _ (by omega),z _ _ (by omega),aB]
   unfold ma;rw[show j/64=k by omega,aA U,show j%64/8=i by omega,show j%8=j-(64*k+8*i) by omega]
  ·rw[aT (by rw[aC,G,vN];omega),aC,G,vN,cj]
   by_cases W:j<832
   ·rw[z _ _ (by omega),z _ _ (by omega),aA,aA]
   ·rw[aZ (by rw[wW];omega),aZ (by rw[wW];omega)]
theorem uG (b m:Nat)(J:m<832)(w:World):(Instr.sliceAt 166 (.pointer (some ⟨b,0,none⟩)) (some (.int .i64 (m:Int))) none none).run prog w= .ok (.slice (some ⟨b,m,none⟩) (832-m) (832-m)) w:=by
 have G:∀w,(sizeOf (prog.elem 166)).run prog w= .ok 1 w:=λw=>by show Sem.run _ _ _=_;kernel_rfl
 have z: prog.arrayLen 166 =832:=by kernel_rfl
 have h:=run_sliceAt_array_l (P:= prog) w 166 ⟨b,0,none⟩ (by kernel_rfl) .i64 (m:Int) (by omega) (by rw[z];omega);rw[G,z,aF] at h;rw[h];show _=Result.ok (Value.slice (some ⟨b,m,none⟩) (832-m) (832-m)) w;simp only[Result.andThen,slicedAt,aA (show ¬832=m by omega),iE,add_plain,bp]
theorem Pb (b:Nat)(w:World):(Instr.sliceAt 205 (.pointer (some ⟨b,0,none⟩)) none none none).run prog w= .ok (.slice b 8 8) w:=by
 show Sem.run _ _ _=_;kernel_rfl
theorem Kt{b:Int}(z:0<=b)(h:b<256):iG b=1080+8*b:=by unfold iG;rw[aA];omega
def Ep (z h:World) (c:Nat) (l:List Int):Prop:=bc h c (ky l).toArray 166/\ay [c] z h
theorem LU{Z:Array Value}(h:bc w g Z 205)(z:Z.size=8)(G:l.length=8):
  ∃w',(storeCells ⟨g,0,none⟩ (ky l).toArray.toList).run prog w= .ok () w'/\bc w' g (ky l).toArray 205/\ay [g] w w':=by
 refine⟨_,run_storeCells_at (P:= prog) g 0 205 (ky l) 0 Z w h (by rw[fq,G,z];omega) (wV _),?_,(ay.refl _ _).setRow (by simp) _⟩;have e:(Z.toList.take (0+0)++ky l++Z.toList.drop (0+0+(ky l).length)).toArray=(ky l).toArray:=by
  rw[dV (by rw[fq,G,dK,z];omega)];simp
 rw[e];exact j4 h
def Z8b:Array Value:= #[.int .u8 0,.int .u8 0,.int .u8 0,.int .u8 0,.int .u8 0,.int .u8 0,.int .u8 0,.int .u8 0]
theorem wX (h:eN w b gp B ps)(aP:b<w.heap.size/\gp<w.heap.size)(aD:In64 (az B ps)){n:bS}(hB:n.B.length=13)(hN:lh n.B)(o:iP)(vp vq vd v:Value):
  Calls prog 116 #[cC b o vp vq vd,aL n v] w λe w'=>e=(ky (iL (az B ps) n)).toArray/\ay [] w w':=by
 obtain⟨Z,hZ⟩:∃Z,(ky (List.replicate 832 0)).toArray=Z:=⟨_,rfl⟩;obtain⟨W,hW⟩:∃W,(((w.alloc (.cells (cC b o vp vq vd) 91)).alloc (.cells (aL n v) 75)).alloc (.cells Z 166)).alloc (.cells Z 166)=W:=⟨_,rfl⟩;have cM:ay [] w W:=by rw[<-hW];exact((((ay.refl [] w).alloc _).alloc _).alloc _).alloc _
 have jK:bc W w.heap.size (cC b o vp vq vd) 91 :=by rw[<-hW];exact(((bc.new w _ _).alloc _).alloc _).alloc _
 have Im:bc W (w.heap.size+1) (aL n v) 75 :=by rw[<-hW];exact((bc.new2 w _ _ _ _).alloc _).alloc _
 have jI:bc W (w.heap.size+1+1) Z 166 :=by
  have :=(bc.new2 (w.alloc (.cells (cC b o vp vq vd) 91)) (aL n v) 75 Z 166).alloc (.cells Z 166);rw[aU,hW] at this;exact this
 have L9:bc W (w.heap.size+1+1+1) Z 166 :=by
  have :=bc.new2 ((w.alloc (.cells (cC b o vp vq vd) 91)).alloc (.cells (aL n v) 75)) Z 166 Z 166;rw[aU,aU,hW] at this;exact this
 have ak:W.heap.size=w.heap.size+1+1+1+1:=by rw[<-hW];simp only[aU]
 have rW:Hid ((loadVar 73 ⟨w.heap.size+1,4,none⟩).run prog W= .ok (.agg (zs n.B).toArray) W):=fy Im hB λk G=>(fT v hB).f4 k G
 have av:=h.keep cM;have bf:b<w.heap.size:=h.raw.lt;have EA:Hid (∀(i:Int) (x:Nat) z,ay [w.heap.size+1+1+1] W z->(x:Int)=AV B ps i->Calls prog 57 #[b,(i:Int)] z λe w'=>e= .returned (.int .u64 (x:Int))/\z=w'):=λi x z G hx=>by
  rw[hx];refine nW (av.keep G ?_ ?_) i
  ·rw[au];omega
  ·rw[au];omega
 have pX:Hid (∀z,ay [w.heap.size+1+1+1] W z->z.cell? w.heap.size=some (.pointer (some ⟨b,0,none⟩))):=λz G=>by
  rw[(jK.keep G (by rw[au];omega)).cell];rfl
 have aC:Hid (∀k:Nat,k<13->(zs n.B).toArray[k]? =some (.int .i64 (n.B.getD k 0))):=λk G=>by rw[aG,gI (by omega)]
 have pO:Hid (Ep W W (w.heap.size+1+1+1) (kC (az B ps) n (64*0))):=⟨by rw[O6,hZ];exact L9,ay.refl _ _⟩;have NP:Hid (∀k:Nat,k<13->0<=n.B.getD k 0/\n.B.getD k 0<256):=λk G=>mG hN G
 have aM:Hid (∀k:Nat,n.B.getD k 0=0->kC (az B ps) n (64*k)=kC (az B ps) n (64*(k+1))):=λk G=>O7 G
 have ax:Hid (∀k i:Nat,k<13->i<8->n.B.getD k 0≠0->∃x:Nat,(x:Int)=AV B ps (1080+8*n.B.getD k 0+(i:Int))/\(kC (az B ps) n (64*k+8*i)).take (64*k+8*i)++(yE x).take (832-(64*k+8*i))++(kC (az B ps) n (64*k+8*i)).drop (64*k+8*i+min 8 (832-(64*k+8*i)))=kC (az B ps) n (64*k+8*(i+1))):=λk i G hi hb=>by
  have h1:=mG hN G;refine⟨_,?_,O9 G hi hb⟩;unfold AV;rw[aB,show(1080+8*n.B.getD k 0+(i:Int)).toNat=1080+8*(n.B.getD k 0).toNat+i by omega];have :=aD (1080+8*(n.B.getD k 0).toNat+i);omega
 have Me:Hid (∀m,(kC (az B ps) n m).length=832):=λm=>wW _ _ m
 have EI:Hid (∀z,Ep W z (w.heap.size+1+1+1) (kC (az B ps) n (64*13))->∃U,(loadVar 166 (w.heap.size+1+1+1:Nat)).run prog z= .ok (.agg (ky (iL (az B ps) n)).toArray) z/\(storeVar 166 (w.heap.size+1+1:Nat) (.agg (ky (iL (az B ps) n)).toArray)).run prog z= .ok () U/\(loadVar 166 (w.heap.size+1+1:Nat)).run prog U= .ok (.agg (ky (iL (az B ps) n)).toArray) U/\ay [] w U):=λz hc=>by
  obtain⟨h1,h2⟩:=hc;rw[show 64*13=832 from rfl,RR] at h1;have hl:(iL (az B ps) n).length=832:=(kH _ _).1;obtain⟨U,q1,q2,q3⟩:=bE (P:= prog) (ty:= 166) (cs:=ky (iL (az B ps) n)) (by rw[fq,hl];exact vM) (jI.keep h2 (by rw[au];omega)) (by rw[<-hZ];simp[fq,hl]) (wV _);refine⟨U,zm h1 hl,q1,zm q2 hl,(cM.trans h2 ?_).trans q3 ?_⟩<;>(intro x hx;rw[au] at hx;omega)
 have aF:=zk;have lJ:=ar ak;rw[hZ] at aF;clear cM jK Im jI L9 ak h aP aD hB hN av bf;generalize kC (az B ps) n=CT,iL (az B ps) n=CL,AV B ps=GN at *;generalize hq:(ky CL).toArray=CC at *;clear hq hZ;generalize zs n.B=NB,cC b o vp vq vd=J,aL n v=N,n.B.getD=bn at *;go_in;go_wp2_with(with_reducible refine gL 73 rW.out ?_);clear hW aF rW;go_loopg [6,7,8,9,12] 13 (λgh s6 s7 s8 s9 s12 z=>∃k:Nat,k+gh=13/\s12= .int .i64 (k:Int)/\Hid (Ep W z (w.heap.size+1+1+1) (CT (64*k))))
 case atStart=>exact⟨0,by omega,rfl,pO⟩
 case round=>
  clear pO;obtain⟨k,G,rfl,V⟩:=hrel;cases gk with
  |zero=>
   obtain rfl:k=13:=by omega
   obtain⟨U,q1,q2,q3,q4⟩:=EI.out _ V.out;obtain⟨HL,HS,rJ,jD⟩:=hh4 q1 q2 q3 q4;clear q1 q2 q3 q4 V EI G;go_wp2_with(with_reducible first|refine gL 166 HL.out ?_|refine gS 166 HS.out ?_);exact aH (bu results116 rfl rJ.out) rfl ⟨rfl,jD.out⟩
  |succ gg=>
   have lZ:k<13:=by omega
   have aP:(k:Int)<13:=by omega
   have cM:(0:Int)<=(k:Int):=by omega
   have Ib:=yL lZ (aC.out k lZ);have DL:=NP.out k lZ;have ah:=aM.out k;have HW:=ar (ax.out k);clear ax aM aC NP;generalize bn k 0=bb at *;by_cases af:bb=0
   ·subst af
    have mP:=V;rw[ah rfl] at mP;clear V DL ah HW;go_wp2;go_roundg gg;case measure=>omega
    case rel=>exact⟨k+1,by omega,by go_num,mP⟩
   ·have bk:(bb==0)=false:=by simpa using af
    obtain⟨pb,ae⟩:∃pb,1080+8*bb=pb:=⟨_,rfl⟩;have nP:Hid (∀z,Calls prog 155 #[bb] z λe w'=>e=(pb:Int)/\z=w'):=λz=>by
     have :=j6 bb z;rwa[Kt DL.1 DL.2,ae] at this
    rw[ae] at HW;have bj:0<=pb/\pb<3121:=by omega
    clear ah ae DL;go_wp2_with fail;go_loopg [8,9,18] 8 (λgh s8 s9 s18 z=>∃i:Nat,i+gh=8/\s18= .int .i64 (i:Int)/\Hid (Ep W z (w.heap.size+1+1+1) (CT (64*k+8*i))))
    case atStart=>exact⟨0,by omega,rfl,V⟩
    case round=>
     clear V;obtain⟨i,hi,rfl,V⟩:=hrel;cases gk with
     |zero=>
      obtain rfl:i=8:=by omega
      have mP:=V;rw[show 64*k+8*8=64*(k+1) by omega] at mP;clear V hi;go_wp2;go_roundg gg;case measure=>omega
      case rel=>exact⟨k+1,by omega,by go_num,mP⟩
     |succ g2=>
      have Mg:i<8:=by omega
      have uR:(i:Int)<8:=by omega
      have bq:(0:Int)<=(i:Int):=by omega
      obtain⟨x,hx,aS⟩:=HW.out i lZ Mg af;have aI:=ar aS;have bt:IntKind.i64.wrap (pb+(i:Int))=pb+(i:Int):=by rw[cB];omega
      have HG:Hid (∀z,ay [w.heap.size+1+1+1] W z->Calls prog 57 #[b,.int .i64 (pb+(i:Int))] z λe w'=>e= .returned (.int .u64 (x:Int))/\z=w'):=λz G=>EA.out _ x z G hx
      have aA:Hid (∀z,Calls prog 154 #[.int .u64 (x:Int)] z λe w'=>e=(ky (yE x)).toArray/\ay [] z w'):=λz=>by
       have :=A8 x z;rwa[O8] at this
      have D5:Hid ((yE x).length=8):=vN x;have QI:=pX.out _ V.out.2;have aZ:w.heap.size<wr.heap.size:=by have :=V.out.2.size;have :=lJ.out;omega
      clear aS hx HW;generalize yE x=bs at *;generalize aa:(ky bs).toArray=DB at *;have aJ:=ar aa;have aK:Hid (∀z g,bc z g Z8b 205->∃w',(storeCells ⟨g,0,none⟩ DB.toList).run prog z= .ok () w'/\bc w' g DB 205/\ay [g] z w'):=λz g hb=>by
       have :=LU (l:=bs) hb rfl D5.out;rwa[aa] at this
      have aX:DB.size=8:=by rw[<-aa,bP,fq,D5.out]
      have aT:∀z:World,(storeCells ⟨z.heap.size,0,none⟩ DB.toList).run prog (z.alloc (.cells #[.int .u8 0,.int .u8 0,.int .u8 0,.int .u8 0,.int .u8 0,.int .u8 0,.int .u8 0,.int .u8 0] 205))= .ok () (z.alloc (.cells DB 205)):=λz=>by
       have :=run_storeCells_new (P:= prog) z 205 Z8b (ky bs).toArray (by rw[bP,fq,D5.out];exact Tryz.info_bytes) (by show(8:Nat)=_;rw[bP,fq,D5.out]) (by rw[Array.all_eq_true'];intro u hu;exact wV bs u (by simpa using hu));rwa[aa] at this
      clear aa;have aY:w.heap.size+1+1+1<wr.heap.size:=by have :=V.out.2.size;have :=lJ.out;omega
      have HA:Hid (∀U,ay [] wr.drew U->bc (U.alloc (.cells DB 205)) U.heap.size DB 205/\Ep W (U.alloc (.cells DB 205)) (w.heap.size+1+1+1) (CT (64*k+8*i))/\U.heap.size≠w.heap.size+1+1+1):=λU G=>by
       have h1:wr.heap.size<=U.heap.size:=G.size;exact⟨bc.new _ _ _,⟨((V.out.1.drew).keep G).alloc _,((V.out.2.drew).trans G).alloc _⟩,by omega⟩
      have aQ:Hid (∀U w9,ay [] (wr.alloc (.cells Z8b 205)).drew U->bc w9 wr.heap.size DB 205->ay [wr.heap.size] U w9->bc w9 wr.heap.size DB 205/\Ep W w9 (w.heap.size+1+1+1) (CT (64*k+8*i))/\wr.heap.size≠w.heap.size+1+1+1):=λU w9 G EB IK=>by
       have h0:=V.out.2.size;refine⟨EB,⟨(((V.out.1.alloc _).drew).keep G).keep IK (by rw[au];omega),((((V.out.2.alloc _).drew).trans G)).trans IK λx hx=> ?_⟩,by omega⟩;rw[au] at hx;exact .inr (by omega)
      have Y2:Hid (64*k+8*i<832):=by unfold Hid;omega
      obtain⟨off,cap,aN,ac⟩:∃off cap,(∀z,(Instr.sliceAt 166 (.pointer (some ⟨w.heap.size+1+1+1,0,none⟩)) (some (.int .i64 ((k:Int)*64+(i:Int)*8))) none none).run prog z= .ok (.slice (some ⟨w.heap.size+1+1+1,off,none⟩) (832-(64*k+8*i)) cap) z)/\off=64*k+8*i:=by
       refine⟨64*k+8*i,832-(64*k+8*i),λz=> ?_,rfl⟩;have :=uG (w.heap.size+1+1+1) (64*k+8*i) (by omega) z;rwa[show((64*k+8*i:Nat):Int)=(k:Int)*64+(i:Int)*8 by omega] at this
      have aR:=ar aN;clear aN
      go_upto_region 9 with fail
      go_cut [9] (λs9 z=>∃a:Nat,s9= .pointer (some ⟨a,0,none⟩)/\Hid (bc z a DB 205/\Ep W z (w.heap.size+1+1+1) (CT (64*k+8*i))/\a≠w.heap.size+1+1+1))
      case first=>
       go_region_with (first|(go_at_call 155;refine C' (nP.out _) ?_)|(go_at_call 57;refine(HG.out _ (by first|exact V.out.2|exact V.out.2.drew|exact(V.out.2.drew).alloc _)).mono ?_;rintro e w1 ⟨rfl,rfl⟩)|(go_at_call 154;refine Rr (aA.out _) λU ai=> ?_;(try (obtain⟨w9,q1,q2,q3⟩:=aK.out U _ ((bc.new wr Z8b 205).drew.keep ai);(have bg:(storeCells ⟨wr.heap.size,0,none⟩ DB.toList).run prog U= .ok () w9:=q1);(have Q2:=ar q2);(have Q3:=ar q3);clear q1 q2 q3));(have fC:=ar ai);clear ai))
       all_goals go_wp2_with fail
       all_goals go_meet
       all_goals first|exact⟨_,rfl,aQ.out _ _ fC.out Q2.out Q3.out⟩|exact⟨_,rfl,HA.out _ fC.out⟩
      case rest=>
       clear HA aQ aK aT aX nP HG aA QI V aY aZ;obtain⟨a,rfl,aO⟩:=hcut;obtain⟨EB,aj,ba⟩:=aO.out;rw[<-aJ.out] at EB;have BV:Reads wc (.slice a 8 8) a (ky bs):=by
        refine⟨some ⟨a,0,none⟩,8,by rw[fq,D5.out],by rw[fq,D5.out];omega,by unfold maxLen;omega,λ_=>⟨EB.lt,0,rfl,λj hj=> ?_⟩⟩;rw[EB.cell,bp,aG]
       obtain⟨r,w4,zH,ag,aV⟩:=TA (w:=wc.drew) (o:=off) (n:=832-(64*k+8*i)) (cap:=cap) aj.1.drew BV (by rw[Me.out,D5.out,ac];have :=Y2.out;omega);rw[D5.out,ac,aI.out] at ag;have aW:Hid (Ep W w4 (w.heap.size+1+1+1) (CT (64*k+8*(i+1)))):=⟨ag,aj.2.drew.trans' aV⟩;have br:=aR.out;have bl:∀z,(Instr.sliceAt 205 (.pointer (some ⟨a,0,none⟩)) none none none).run prog z= .ok (.slice a 8 8) z:=λz=>Pb a z
       have M9:=zH 3;have SN:IntKind.i64.wrap ((k:Int)*64)=(k:Int)*64:=by rw[cB];omega
       have bo:IntKind.i64.wrap ((i:Int)*8)=(i:Int)*8:=by rw[cB];omega
       have bh:IntKind.i64.wrap ((k:Int)*64+(i:Int)*8)=(k:Int)*64+(i:Int)*8:=by rw[cB];omega
       clear zH ag aV BV EB aj ba aO aJ aR aI ac;go_wp2_with fail;go_region_with (fail)
       go_wp2;go_roundg g2;case measure=>omega
       case rel=>exact⟨i+1,by omega,by go_num,aW⟩
theorem LV (b m:Nat)(J:m+8<=832)(w:World):(Instr.sliceAt 166 (.pointer (some ⟨b,0,none⟩)) (some (.int .i64 (m:Int))) (some (.int .i64 ((m:Int)+8))) none).run prog w= .ok (.slice (some ⟨b,m,none⟩) 8 (832-m)) w:=by
 have G:∀w,(sizeOf (prog.elem 166)).run prog w= .ok 1 w:=λw=>by show Sem.run _ _ _=_;kernel_rfl
 have z: prog.arrayLen 166 =832:=by kernel_rfl
 have h:=run_sliceAt_array_lh (P:= prog) w 166 ⟨b,0,none⟩ (by kernel_rfl) .i64 .i64 (m:Int) ((m:Int)+8) (by omega) (by omega) (by rw[z];omega);rw[G,z,aF,show((m:Int)+8).toNat=m+8 by omega] at h;rw[h];show _=Result.ok (Value.slice (some ⟨b,m,none⟩) 8 (832-m)) w;simp only[Result.andThen,slicedAt,aA (show ¬832=m by omega),iE,add_plain,bp,dS]
theorem RS (b m cap:Nat)(w:World):(Instr.arrayAt 205 (.slice (some ⟨b,m,none⟩) 8 cap)).run prog w= .ok (.pointer (some ⟨b,m,none⟩)) w:=by
 show Sem.run _ _ _=_;kernel_rfl
theorem Wy{m:Nat}(G:bc w g (ky l).toArray T)(J:m+8<=l.length):(loadVar 205 ⟨g,m,none⟩).run prog w= .ok (.agg (ky ((l.drop m).take 8)).toArray) w:=by
 have z:((l.drop m).take 8).length=8:=by rw[aJ,bV];omega
 refine bX g m (ky ((l.drop m).take 8)) underlying205 rfl (by rw[fq,z];exact Tryz.info_bytes) λj h=> ?_
 rw[fq,z] at h;rw[G.cell,aG];simp only[ky,bO,bU,cj];rw[aB h]
theorem aaH (G:Az c)(m:Nat)(V:m+8<=832)(w:World):
  Calls prog 158 #[(ky ((c.drop m).take 8)).toArray] w λe w'=>e= .returned (.int .u64 (rL c m))/\ay [] w w':=by
 have U:((c.drop m).take 8).length=8:=by have :=G.1;rw[aJ,bV];omega
 have h:∀x∈(c.drop m).take 8,0<=x/\x<256:=λx z=>G.2 x (gj (bL z))
 have :=Sl (((c.drop m).take 8).map Int.toNat) (by rw[b7,U]) (λx z=>by
  obtain⟨y,J,rfl⟩:=bH.1 z;have :=h y J;omega) w
 have e:pQ (((c.drop m).take 8).map Int.toNat)=ky ((c.drop m).take 8):=by
  simp only[pQ,ky,List.map_map];refine dL λx z=> ?_
  have :=h x z;show Value.int .u8 ((x.toNat:Nat):Int)=Value.int .u8 x;rw[show((x.toNat:Nat):Int)=x by omega]
 rw[e] at this;exact this
def qz (c:List Int) (h:Int) (k i:Nat):List (Int×Int):=(List.range i).map λw:Nat=>(iG h+(w:Int),rL c (64*k+8*w))
theorem Pd (c:List Int)(h:Int)(k i:Nat):qz c h k (i+1)=qz c h k i++[(iG h+(i:Int),rL c (64*k+8*i))]:=by
 unfold qz;rw[dQ,ez];rfl
theorem RT (c:List Int)(h:Int)(k i:Nat):(qz c h k i).length=i:=by simp[qz]
theorem Pe (h:B.getD k 0=0):ft B c (k+1)=ft B c k:=by
 show ft B c k++_=_;rw[aB h,bz]
theorem RU (h:B.getD k 0≠0):ft B c (k+1)=ft B c k++qz c (B.getD k 0) k 8:=by
 show ft B c k++_=_;rw[aA h];rfl
def vO (W z:World) (b G:Nat) (B:List Int) (ps:List (Int×Int)):Prop:=∃h,(h=G\/(W.heap.size<=h/\h<z.heap.size))/\eN z b h B ps/\ay [b,G] W z
theorem vO.put{W wr wx:World}{V:Nat}(h:vO W wr b V B ps)(ac:b<W.heap.size/\V<W.heap.size)(hn:ps.length<=1000000)(U:ay [] wr wx){i:Int}(h0:0<=i)(h1:i<3128)(x:Int):
  Calls prog 47 #[b,i,.int .u64 x] wx λe w'=>e= .returned (.tuple #[])/\vO W w' b V B (ps++[(i,x)]):=by
 obtain⟨gG,hg,hs,tV⟩:=h;have aa:=tV.size;have :=o7 (hs.keep U) hn i x;rw[show z6 ps i x=ps++[(i,x)] by rw[z6,aB (by rw[ub];omega)]] at this;refine Rr this ?_;rintro w' ⟨lH,G,J,z⟩;have h2:=U.size;have h3:=z.size;refine⟨rfl,lH,?_,J,(tV.trans U).trans z λy hy=> ?_⟩
 ·rcases hg with h|h<;>rcases G with h'|h'<;>omega
 ·simp only[aM,aK,bC] at hy ⊢
  rcases hg with h|h<;>omega
theorem zS{U:Nat}(h:eN w b U B ps)(aJ:b<w.heap.size/\U<w.heap.size)(av:ps.length<=900000){n:bS}(hB:n.B.length=13)(hN:lh n.B){c:List Int}(hc:Az c)(o:iP)(vp vq vd v:Value):
  Calls prog 118 #[cC b o vp vq vd,aL n v,(ky c).toArray] w λe w'=>e= .returned (.tuple #[])/\vO w w' b U B (ps++ft n.B c 13):=by
 obtain⟨Z,hZ⟩:∃Z,(ky c).toArray=Z:=⟨_,rfl⟩;obtain⟨W,hW⟩:∃W,((w.alloc (.cells (cC b o vp vq vd) 91)).alloc (.cells (aL n v) 75)).alloc (.cells Z 166)=W:=⟨_,rfl⟩;have cM:ay [] w W:=by rw[<-hW];exact(((ay.refl [] w).alloc _).alloc _).alloc _
 have jK:bc W w.heap.size (cC b o vp vq vd) 91 :=by rw[<-hW];exact((bc.new w _ _).alloc _).alloc _
 have Im:bc W (w.heap.size+1) (aL n v) 75 :=by rw[<-hW];exact(bc.new2 w _ _ _ _).alloc _
 have L9:bc W (w.heap.size+1+1) (ky c).toArray 166 :=by
  have :=bc.new2 (w.alloc (.cells (cC b o vp vq vd) 91)) (aL n v) 75 Z 166;rw[aU,hW] at this;rw[hZ];exact this
 have aT:W.heap.size=w.heap.size+1+1+1:=by rw[<-hW];simp only[aU]
 have rW:Hid ((loadVar 73 ⟨w.heap.size+1,4,none⟩).run prog W= .ok (.agg (zs n.B).toArray) W):=fy Im hB λk G=>(fT v hB).f4 k G
 have aA:b<W.heap.size/\U<W.heap.size:=⟨by omega,by omega⟩;have ax:Hid (vO W W b U B (ps++ft n.B c 0)):=⟨U,.inl rfl,by rw[show ft n.B c 0=[] from rfl,bz];exact h.keep cM,ay.refl _ _⟩;have EI:Hid (∀z qs,vO W z b U B qs->vO w z b U B qs):=λz qs hp=>by
  obtain⟨g,h1,h2,h3⟩:=hp;refine⟨g,by rcases h1 with h1|h1<;>omega,h2,(cM.mono (l':=[b,U]) (by simp)).trans' h3⟩
 have pX:Hid (∀z qs,vO W z b U B qs->z.cell? w.heap.size=some (.pointer (some ⟨b,0,none⟩))):=λz qs hp=>by
  obtain⟨g,h1,h2,h3⟩:=hp;rw[(jK.keep h3 (by simp only[aM,aK,bC];omega)).cell];rfl
 have ba:Hid (∀wr qs z m,vO W wr b U B qs->ay [] wr z->m+8<=832->(loadVar 205 ⟨w.heap.size+1+1,m,none⟩).run prog z= .ok (.agg (ky ((c.drop m).take 8)).toArray) z):=λwr qs z m hp G hm=>by
  obtain⟨g,h1,h2,h3⟩:=hp;exact Wy ((L9.keep h3 (by simp only[aM,aK,bC];omega)).keep G) (by rw[hc.1];exact hm)
 have aB:Hid (∀k:Nat,k<13->(zs n.B).toArray[k]? =some (.int .i64 (n.B.getD k 0))):=λk G=>by rw[aG,gI (by omega)]
 have NP:Hid (∀k:Nat,k<13->0<=n.B.getD k 0/\n.B.getD k 0<256):=λk G=>mG hN G
 have aR:Hid (∀m,m+8<=832->∀z,Calls prog 158 #[(ky ((c.drop m).take 8)).toArray] z λe w'=>e= .returned (.int .u64 (rL c m))/\ay [] z w'):=λm hm z=>aaH hc m hm z
 have az:Hid (∀k,n.B.getD k 0=0->ft n.B c (k+1)=ft n.B c k):=λk G=>Pe G
 have WW:Hid (∀k,n.B.getD k 0≠0->ft n.B c (k+1)=ft n.B c k++qz c (n.B.getD k 0) k 8):=λk G=>RU G
 have Me:Hid (∀k,(ft n.B c k).length<=8*k):=λk=>tK _ _ k
 obtain⟨aW,zB⟩:=hh2 aA av;rw[hZ];clear cM jK Im L9 aT h aJ hB hN aA av hZ;generalize cC b o vp vq vd=J,aL n v=N,ft n.B c=CP,zs n.B=NB,n.B.getD=bn at *;go_in;go_wp2_with(with_reducible refine gL 73 rW.out ?_);clear hW rW;go_loopg [6,7,8,9,12] 13 (λgh s6 s7 s8 s9 s12 z=>∃k:Nat,k+gh=13/\s12= .int .i64 (k:Int)/\Hid (vO W z b U B (ps++CP k)))
 case atStart=>exact⟨0,by omega,rfl,ax⟩
 case round=>
  clear ax;obtain⟨k,G,rfl,V⟩:=hrel;cases gk with
  |zero=>
   obtain rfl:k=13:=by omega
   have HE:=ar (EI.out _ _ V.out);clear V EI G;go_wp2;go_end0;exact⟨rfl,HE.out⟩
  |succ gg=>
   have lZ:k<13:=by omega
   have aJ:(k:Int)<13:=by omega
   have cM:(0:Int)<=(k:Int):=by omega
   have Ib:=yL lZ (aB.out k lZ);have DL:=NP.out k lZ;have aj:=az.out k;have af:=WW.out k;have aF:=Me.out k;clear az WW aB NP Me;generalize bn k 0=bb at *;by_cases ac:bb=0
   ·subst ac
    have mP:=V;rw[<-aj rfl] at mP;clear V DL aj af;go_wp2;go_roundg gg;case measure=>omega
    case rel=>exact⟨k+1,by omega,by go_num,mP⟩
   ·have bp:(bb==0)=false:=by simpa using ac
    have aP:=af ac;obtain⟨pb,aa⟩:∃pb,1080+8*bb=pb:=⟨_,rfl⟩;have ae:=Kt DL.1 DL.2;have nP:Hid (∀z,Calls prog 155 #[bb] z λe w'=>e=(pb:Int)/\z=w'):=λz=>by
     have :=j6 bb z;rwa[ae,aa] at this
    have aI:Hid (∀i,qz c bb k (i+1)=qz c bb k i++[(pb+(i:Int),rL c (64*k+8*i))]):=λi=>by rw[Pd,ae,aa]
    have aX:Hid (∀i,(qz c bb k i).length=i):=λi=>RT _ _ _ _
    have bo:1080<=pb/\pb<3121:=by omega
    obtain⟨aZ,aY⟩:=hh2 aP aF;have Sv:Hid (vO W wr b U B (ps++(CP k++qz c bb k 0))):=by rw[show qz c bb k 0=[] from rfl,bz];exact V.out
    clear aj af aP aa DL ae V aF;generalize qz c bb k=WP at *;go_wp2_with fail;go_loopg [8,9,18] 8 (λgh s8 s9 s18 z=>∃i:Nat,i+gh=8/\s18= .int .i64 (i:Int)/\Hid (vO W z b U B (ps++(CP k++WP i))))
    case atStart=>exact⟨0,by omega,rfl,Sv⟩
    case round=>
     clear Sv;obtain⟨i,hi,rfl,V⟩:=hrel;cases gk with
     |zero=>
      obtain rfl:i=8:=by omega
      have mP:Hid (vO W wr b U B (ps++CP (k+1))):=by rw[aZ.out];exact V.out
      clear V hi;go_wp2;go_roundg gg;case measure=>omega
      case rel=>exact⟨k+1,by omega,by go_num,mP⟩
     |succ g2=>
      have Mg:i<8:=by omega
      have uR:(i:Int)<8:=by omega
      have bt:(0:Int)<=(i:Int):=by omega
      obtain⟨m,hm⟩:∃m,64*k+8*i=m:=⟨_,rfl⟩;have bk:(k:Int)*64+(i:Int)*8=(m:Int):=by omega
      have ak:m+8<=832:=by omega
      have br:(m:Int)<832:=by omega
      have au:=aI.out i;rw[hm] at au;have HJ:=ar (aR.out m ak);have mO:Hid (∀z,ay [] wr z->(loadVar 205 ⟨w.heap.size+1+1,m,none⟩).run prog z= .ok (.agg (ky ((c.drop m).take 8)).toArray) z):=λz G=>ba.out _ _ z m V.out G ak
      have aQ:Hid (∀z,ay [] wr z->Calls prog 47 #[b,.int .i64 (pb+(i:Int)),.int .u64 (rL c m)] z λe w'=>e= .returned (.tuple #[])/\vO W w' b U B (ps++(CP k++WP (i+1)))):=λz G=>by
       have :=V.out.put aW.out (by
        have :=zB.out;have :=aY.out;have :=aX.out i;rw[aC,aC];omega) G (i:=pb+(i:Int)) (by omega) (by omega) (rL c m)
       rwa[aV,aV,<-au] at this
      have QI:∀z,ay [] wr z->z.cell? w.heap.size=some (.pointer (some ⟨b,0,none⟩)):=λz G=>by
       obtain⟨g,h1,h2,h3⟩:=V.out;exact pX.out z (ps++(CP k++WP i)) ⟨g,by have :=G.size;omega,h2.keep G,h3.trans G⟩
      have aN:=ar QI;have bu:IntKind.i64.wrap (pb+(i:Int))=pb+(i:Int):=by rw[cB];omega
      have bg:IntKind.i64.wrap ((k:Int)*64)=(k:Int)*64:=by rw[cB];omega
      have bl:IntKind.i64.wrap ((i:Int)*8)=(i:Int)*8:=by rw[cB];omega
      have bf:IntKind.i64.wrap ((m:Int)+8)=(m:Int)+8:=by rw[cB];omega
      have bj:IntKind.i64.wrap (m:Int)=(m:Int):=by rw[cB];omega
      obtain⟨aO,aD⟩:=hh2 (LV (w.heap.size+1+1) m ak) (RS (w.heap.size+1+1) m (832-m));clear QI au aI hm;generalize rL c m=jx,(ky ((c.drop m).take 8)).toArray=DB at *;go_wp2_with fail;refine jR (l:=[_,_,_,_,_,_,_,_,_,_,_,_,_]) (S:=λz=>ay [] wr z) rfl ((ay.refl _ _).drew) ?_;repeat (
       (first
       |(refine aS.cons (.agg DB) (bG.load rfl 205 (.tmp 36) rfl _ rfl λz hx=>mO.out z hx) ?_)
       |(refine aS.cons (.int .i64 pb) (bG.call rfl 155 #[bb] ?he ?h) ?_;(case he=>(intro wz;go_simp));(case h=>exact λz hx=>(nP.out z).mono λe w' he=>⟨he.1,he.2▸hx⟩))
       |(refine aS.cons (.int .u64 jx) (bG.call rfl 158 #[DB] ?he ?h) ?_;(case he=>(intro wz;go_simp));(case h=>exact λz hx=>(HJ.out z).mono λe w' he=>⟨he.1,hx.trans' he.2⟩))
       |(refine aS.cons ?_ (bG.val rfl ?h) ?_;(case h=>(intro z hx;(have bq:=aN.out z hx);(have bh:=aO.out z);(have SJ:=aD.out z);clear hx;go_simp;rfl))));simp only[Act.put,ag,ah,ai])
      refine aS.done λz hx=> ?_
      have tT:=ar hx;clear hx;go_wp2_with fail;refine Rr (aQ.out _ tT.out) λw2 aH=> ?_;have mP:=ar aH;clear aH aQ tT V HJ mO aN aO aD nP;go_wp2;go_roundg g2;case measure=>omega
      case rel=>exact⟨i+1,by omega,by go_num,mP⟩
theorem Er (s:Nat)(G:s<=100000)(w:World):Calls prog 156 #[(s:Int)] w λe w'=>e=((bF s:Nat):Int)/\w=w':=by
 have h:IntKind.i64.wrap ((s:Int)+64)=(s:Int)+64:=by rw[cB];omega
 have U:IntKind.i64.wrap ((s:Int)+64-1)=(s:Int)+64-1:=by rw[cB];omega
 have J:((s:Int)+64-1).tdiv 64=((bF s:Nat):Int):=by
  rw[Int.tdiv_eq_ediv_of_nonneg (by omega)];unfold bF;omega
 have z:IntKind.i64.wrap ((bF s:Nat):Int)=((bF s:Nat):Int):=by rw[cB];unfold bF;omega
 go_in;go_wp2;go_ret;exact⟨rfl,rfl⟩
theorem Wz (z:n.B.length=13){k:Nat}(J:k<13)(x:Int):(aL n v).setIfInBounds (4+k) (.int .i64 x)=aL { n with B:=n.B.set k x } v:=by
 have h:mQ n v=[.int .i64 n.F,.int .i64 n.K,.int .i64 n.L,.int .i64 n.S]++(zs n.B++[v]):=rfl;have G:mQ { n with B:=n.B.set k x } v=[.int .i64 n.F,.int .i64 n.K,.int .i64 n.L,.int .i64 n.S]++(zs (n.B.set k x)++[v]):=rfl;unfold aL;rw[ag,h,G,dU _ _ (by simp),List.set_append_left _ _ (by rw[eT,z];simp;omega)];simp[zs,List.map_set]
def Pf (w:World) (b z:Nat) (B:List Int) (ps:List (Int×Int)) (n:bS) (v:Value) (h:List Nat) (e:Ending) (w':World):Prop:=
 ((aY (az B ps)).length<h.length/\e= .returned (.tuple #[aL bY (.slice none 0 0),(7:Int)])/\ay [] w w')\/
 (h.length<=(aY (az B ps)).length/\e= .returned (.tuple #[.agg (aL { n with B:=jB n.B h ((aY (az B ps)).take h.length) h.length } v),(0:Int)])/\vO w w' b z B (ps++dt (az B ps) ((aY (az B ps)).take h.length)))
theorem LW (G:n.B.length=13){w:World}{g T:Nat}(h:bc w g (aL n v) T){k:Nat}(z:k<13):w.cell? ⟨g,4+k,none⟩=some (.int .i64 (n.B.getD k 0)):=by
 rw[h.cell];exact(fT v G).f4 k z
theorem WA (h:eN w b gp B ps)(aS:In64 (az B ps))(hT:∀G,ay [b,gp] w G->ku G)(ah:b<w.heap.size/\gp<w.heap.size)(aP:ps.length<=600000){n:bS}(hB:n.B.length=13)(o:iP)(vp vq vd:Value){v:Value}(hv:v.oneCell'=true)(f t:Nat)(bg:f<=t)(ht:t<=832):
  Calls prog 117 #[cC b o vp vq vd,aL n v,(f:Int),(t:Int)] w (Pf w b gp B ps n v (fJ n.B (f/64) (bF t))):=by
 obtain⟨i0,hi,bk,bG,bw⟩:=df Tryz.info_int;obtain⟨R0,ax⟩:∃R0,aL bY (.slice none 0 0)=R0:=⟨_,rfl⟩;obtain⟨W,hW⟩:∃W,((w.alloc (.cells (cC b o vp vq vd) 91)).alloc (.cells (aL n v) 75)).alloc (.cells R0 75)=W:=⟨_,rfl⟩;have cM:ay [] w W:=by rw[<-hW];exact(((ay.refl [] w).alloc _).alloc _).alloc _
 have jK:bc W w.heap.size (cC b o vp vq vd) 91 :=by rw[<-hW];exact((bc.new w _ _).alloc _).alloc _
 have Im:bc W (w.heap.size+1) (aL n v) 75 :=by rw[<-hW];exact(bc.new2 w _ _ _ _).alloc _
 have jI:bc W (w.heap.size+1+1) R0 75 :=by
  have :=bc.new2 (w.alloc (.cells (cC b o vp vq vd) 91)) (aL n v) 75 R0 75;rw[aU,hW] at this;exact this
 have aN:W.heap.size=w.heap.size+1+1+1:=by rw[<-hW];simp only[aU]
 have rq:=dC;rw[ax] at rq;obtain⟨a,ha⟩:∃a,f/64=a:=⟨_,rfl⟩;obtain⟨e,he⟩:∃e,bF t=e:=⟨_,rfl⟩;have cj:a<=e/\e<=13:=by rw[<-ha,<-he];unfold bF;omega
 have hq:((f:Int)).tdiv 64=(a:Int):=by
  rw[Int.tdiv_eq_ediv_of_nonneg (by omega)];omega
 have bJ:IntKind.i64.wrap (a:Int)=(a:Int):=by rw[cB];omega
 have K5:Hid (∀G,Calls prog 156 #[(t:Int)] G λx w'=>x=(e:Int)/\G=w'):=λG=>by
  have :=Er t (by omega) G;rwa[he] at this
 rw[ha,he];have UR:Hid (∀G,ay [] W G->∀k,k<13->G.cell? ⟨w.heap.size+1,4+k,none⟩=some (.int .i64 (n.B.getD k 0))):=λG hk k lZ=>LW hB (Im.keep hk) lZ
 have pX:Hid (∀G,ay [] W G->G.cell? w.heap.size=some (.pointer (some ⟨b,0,none⟩))):=λG hk=>by
  rw[(jK.keep hk).cell];rfl
 have bK:Hid (∀k,fJ n.B a (k+1)=fJ n.B a k++(if a<=k/\n.B.getD k 0=0 then [k] else [])):=λk=>Rn _ _ _
 have MZ:Hid (∀k,(fJ n.B a k).length<=k):=λk=>vH _ _ _
 have aV:Hid (fJ n.B a a=[]):=by
  refine List.eq_nil_iff_forall_not_mem.2 λx hx=> ?_
  have :=zb.1 hx;omega
 obtain⟨HB,vP,uM,HT,DI,zB,bN⟩:=hh7 hB h aS hT ah aP Im;obtain⟨JK,lJ,fG,Ru,HV⟩:=hh5 jI aN cM ax hv;have bO:=hW;clear h aS hT ah aP hB jK Im jI aN cM ha he bg ht ax hv;generalize hJ:cC b o vp vq vd=J,hN:aL n v=N at *;have HN:=ar hN;clear hJ hN bO;go_in;go_wp2_with fail;clear hW hq bJ;go_loopg [10,11] (e-a) (λgh XA Qh G=>∃k:Nat,a<=k/\k+gh=e/\Qh= .int .i64 (k:Int)/\Hid (G.ownsRow W.heap.size 3 1 XA (fJ n.B a k).length (dJ (fJ n.B a k))/\ay [] W G))
 case atStart=>exact⟨a,aI _,by omega,rfl,by rw[aV.out];exact⟨⟨rfl,.inl ⟨rfl,rfl⟩⟩,ay.refl _ _⟩⟩
 case round=>
  clear aV;obtain⟨k,bt,hk,rfl,V⟩:=hrel;cases gk with
  |zero=>
   obtain rfl:k=e:=by omega
   have jY:=V.out.2;obtain⟨g,ae,hg⟩:=lQ.of_row V.out.1;have BV:=ae.reads;have ag:=vP.out.keep (fG.out.trans' jY);have QI:=pX.out wr jY;have aG:=MZ.out k;have bD:=jY.size;have bn:=lJ.out;have br:Hid (∀q∈fJ n.B a k,q<13):=λq hq=>by have :=zb.1 hq;omega
   generalize fJ n.B a k=z at *;obtain⟨ad,cap,rfl,bB,bU,U⟩:=BV;rw[fo] at bB U;rw[fo] at *;have ah:¬(k:Int)<(k:Int):=by omega
   by_cases oZ:(aY (az B ps)).length<z.length
   ·have JN:=ar (xV ag uM.out z.length oZ)
    obtain⟨w2,q1,q2,q3⟩:=cr (n:=bY) (v:= .slice none 0 0) (JK.out.keep jY) (by rw[<-Ru.out];rfl) rfl rfl;have HL:=ar (bZ q2 rfl);rw[Ru.out] at q1 HL;have HS:=ar q1;have HF:Hid (Pf w b gp B ps n v z (.returned (.tuple #[.agg R0,(7:Int)])) w2):= .inl ⟨oZ,by rw[Ru.out],((fG.out.trans' jY).trans q3 (by intro x hx;rw[au] at hx;omega))⟩;clear q1 q2 q3 ag ae U V jY;generalize z.length=q at *;go_wp2_with(first|(with_reducible refine gS 75 HS.out ?_)|(go_at_call 156;refine C' (K5.out _) ?_)|(go_at_call 157;refine C' JN.out ?_));exact aH (eI results117 rfl HL.out rfl) rfl HF.out
   ·have ai:z.length<=(aY (az B ps)).length:=by omega
    have bb:((aY (az B ps)).take z.length).length=z.length:=by rw[aJ];omega
    have JN:=ar (CF ag uM.out (HT.out wr ((fG.out.trans' jY).mono)) (by have :=DI.out;omega) (by have :=zB.out;omega) z.length ai);have qN:Hid (∀G w2:World,∀gG:Nat,(gG=gp\/(wr.heap.size<=gG/\gG<G.heap.size))->eN G b gG B (ps++dt (az B ps) ((aY (az B ps)).take z.length))->ay [b,gp] wr G->ay [w.heap.size+1,w.heap.size+1+1] G w2->Pf w b gp B ps n v z (.returned (.tuple #[.agg (aL { n with B:=jB n.B z ((aY (az B ps)).take z.length) z.length } v),(0:Int)])) w2):=λG w2 gG h1 h2 h3 h4=>by
     have :=h3.size;have :=h4.size;have :=DI.out;refine .inr ⟨ai,rfl,gG,by omega,h2.keep h4 (by simp only[aM,aK,bC];omega) (by simp only[aM,aK,bC];omega),((((fG.out.trans' jY).mono (l':=[b,gp]) (by simp)).trans' h3).trans h4 λx hx=> ?_)⟩;simp only[aM,aK,bC] at hx;omega
    generalize (aY (az B ps)).take z.length=l at *;clear ag ae V oZ ai;obtain⟨Mc,bH,Cx,UL,mK⟩:=hh5 U aG bb hg jY;clear U aG bb hg jY;generalize av:z.length=q at *;go_wp2_with(first|(go_at_call 156;refine C' (K5.out _) ?_));refine JN.out.mono ?_;rintro e w2 ⟨v2,g2,rfl,r1,r2,r3,lH,r4,r5,r6,r7⟩;obtain⟨bl,bR,rfl,aX,b7,RV⟩:=r1;rw[fo,Cx.out] at aX RV;rw[fo,Cx.out];have bA:=r7.size;have aQ:Hid (bc w2 (w.heap.size+1) (aL { n with B:=jB n.B z l 0 } v) 75):=by
     have :=(bN.out.keep mK.out).keep r7 (by simp only[aM,aK,bC];have :=DI.out;omega);rw[<-HN.out] at this;exact this
    have bo:Hid (bc w2 (w.heap.size+1+1) R0 75):=(JK.out.keep mK.out).keep r7 (by simp only[aM,aK,bC];have :=DI.out;omega);have Ow:Hid (∀w4,ay [w.heap.size+1,w.heap.size+1+1] w2 w4->Pf w b gp B ps n v z (.returned (.tuple #[.agg (aL { n with B:=jB n.B z l q } v),(0:Int)])) w4):=λw4 bP=>by
     exact qN.out w2 w4 lH r4 r6 r7 bP
    have bv:w.heap.size+1<g:=by have :=UL.out;omega
    have bq:w.heap.size+1<g2:=by omega
    have aR:∀j,j<q->g<w2.heap.size/\∃off,ad=some ⟨g,off,none⟩/\∀G,ay [w.heap.size+1] w2 G->G.cell? ⟨g,off+j,none⟩=some (.int .i64 ((z.getD j 0:Nat):Int)):=λj hj=>by
     obtain⟨p1,off,p2,p3⟩:=Mc.out (λe=>by have :=cP List.length e;rw[fo,cD,av] at this;omega);have bI:ay [b,gp] wr w2:=r7;refine⟨by omega,off,p2,λG hk=> ?_⟩;rw[aO (w:=wr) (a:=⟨g,off+j,none⟩) ((hk.block g (by omega) (by rw[au];omega)).trans (bI.block g p1 (by simp only[aM,aK,bC];have :=DI.out;omega))),p3 j (by omega),nr (by omega)]
    have aZ:∀j,j<q->∃off,bl=some ⟨g2,off,none⟩/\∀G,ay [w.heap.size+1] w2 G->G.cell? ⟨g2,off+j,none⟩=some (.int .i64 ((l.getD j 0:Nat):Int)):=λj hj=>by
     obtain⟨p1,off,p2,p3⟩:=RV (λe=>by have :=cP List.length e;rw[fo,cD] at this;have :=Cx.out;omega);refine⟨off,p2,λG hk=> ?_⟩;rw[aO (w:=w2) (a:=⟨g2,off+j,none⟩) (hk.block g2 (by omega) (by rw[au];omega)),p3 j hj,nr (by rw[Cx.out];exact hj)]
    obtain⟨WW,bp⟩:=hh2 aR aZ;have bE:Hid (∀j,j<q->z.getD j 0<13):=λj hj=>by
     rw[aj,aD (by omega)];exact br.out _ (bM _)
    have Ik:=ar av;have bW:q<=13:=by have :=bH.out;omega
    clear aR aZ RV av r2 r3 r4 r5 r6 r7 qN QI JN bA Mc bD bn aX bv bq;go_wp2_with fail;go_loopg [14,15,47] q (λgh s14 s15 s47 G=>∃j:Nat,j+gh=q/\s47= .int .i64 (j:Int)/\Hid (bc G (w.heap.size+1) (aL { n with B:=jB n.B z l j } v) 75/\ay [w.heap.size+1] w2 G))
    case atStart=>exact⟨0,by omega,rfl,aQ.out,ay.refl _ _⟩
    case round=>
     clear aQ;obtain⟨j,hj,rfl,V⟩:=hrel;cases gk with
     |zero=>
      obtain rfl:j=q:=by omega
      have aT:=bZ V.out.1 (by show(jB n.B z l j).length=13;rw[nZ];exact HB.out);obtain⟨w4,q1,q2,q3⟩:=cr (n:={ n with B:=jB n.B z l j }) (v:=v) (bo.out.keep V.out.2) (by rw[<-Ru.out];rfl) (by show(jB n.B z l j).length=13;rw[nZ];exact HB.out) HV.out;obtain⟨HL,HS,rJ,HF⟩:=hh4 aT q1 (bZ q2 (by show(jB n.B z l j).length=13;rw[nZ];exact HB.out)) (Ow.out w4 ((V.out.2.mono).trans q3));clear q1 q2 q3 aT Ow V;generalize aL { n with B:=jB n.B z l j } v=NN at *;go_wp2_with(with_reducible first|refine gS 75 HS.out ?_|refine gL 75 HL.out ?_);exact aH (eI results117 rfl rJ.out rfl) rfl HF.out
     |succ gg=>
      have ak:j<q:=by omega
      have cg:(j:Int)<(q:Int):=by omega
      have Co:(0:Int)<=(j:Int):=by omega
      obtain⟨-,off,rfl,bh⟩:=WW.out j ak;obtain⟨b9,rfl,bu⟩:=bp.out j ak;have bV:=bh _ V.out.2;have bT:=bu _ V.out.2;have aW:=bE.out j ak;have bj:Hid (jB n.B z l (j+1)=(jB n.B z l j).set (z.getD j 0) ((l.getD j 0:Nat):Int)):=rfl;have aF:(jB n.B z l j).length=13:=by rw[nZ];exact HB.out
      have ck:=LW (n:={ n with B:=jB n.B z l j }) (v:=v) aF V.out.1 aW;have bX:=V.out.1.frozen (4+z.getD j 0);have rZ:=V.out.1.set (4+z.getD j 0) (.int .i64 ((l.getD j 0:Nat):Int));rw[Wz (n:={ n with B:=jB n.B z l j }) aF aW] at rZ;have mP:Hid (bc (wr.setCell ⟨w.heap.size+1,4+z.getD j 0,none⟩ (.int .i64 ((l.getD j 0:Nat):Int))) (w.heap.size+1) (aL { n with B:=jB n.B z l (j+1) } v) 75/\ay [w.heap.size+1] w2 (wr.setCell ⟨w.heap.size+1,4+z.getD j 0,none⟩ (.int .i64 ((l.getD j 0:Nat):Int)))):=⟨rZ,V.out.2.setCell (by simp) _⟩;have b6:(0:Int)<=((z.getD j 0:Nat):Int):=by omega
      have cf:((z.getD j 0:Nat):Int)<13:=by omega
      clear rZ aF V bj;generalize z.getD j 0=xx,((l.getD j 0:Nat):Int)=yy at *;go_wp2;go_roundg gg;case measure=>omega
      case rel=>exact⟨j+1,by omega,by go_num,mP.out⟩
  |succ gg=>
   have lZ:k<13:=by omega
   have ah:(k:Int)<(e:Int):=by omega
   have Ql:(k:Int)<13:=by omega
   have cM:(0:Int)<=(k:Int):=by omega
   have tV:IntKind.i64.wrap ((k:Int)+1)=(k:Int)+1:=by rw[cB];omega
   have bQ:=UR.out wr V.out.2 k lZ;have Ro:=bK.out k;have aG:=MZ.out k;generalize n.B.getD k 0=x at *;by_cases hx:x=0
   ·have e0:(x==0)=true:=by rw[hx];rfl
    obtain⟨af,jD⟩:=hh2 V.out.1 V.out.2;rw[aB ⟨bt,hx⟩] at Ro;have ba:=ar Ro;have cd:=V.out.2.size;clear V Ro hx;generalize bL:fJ n.B a k=L at *;generalize hq:L.length=q at *;have HQ:=ar hq;clear bL hq;go_wp2_with(first|(go_at_call 156;refine C' (K5.out _) ?_)|(at_builtin;refine eO _ rfl _ _ 76 rfl W.heap.size 3 i0 (.int .i64 0) 1 8 underlying76 hi bk bG bw rfl (by decide) u10 q _ rfl (af.out.alloc _) ⟨wr.heap.size,0,none⟩ 1 1 [.int .i64 (k:Int)] rfl rfl ?c1 ?c2 (by unfold maxLen;omega) (by omega) (by simp;omega) ?_));case c1=>exact lu _ [_] _ _ rfl
    case c2=>simp[Value.oneCell']
    intro v' w1 aa ac bf;have Nf:Hid (w1.ownsRow W.heap.size 3 1 v' (fJ n.B a (k+1)).length (dJ (fJ n.B a (k+1)))/\ay [] W w1):=by
     show _/\_;rw[ba.out,aC,HQ.out,uh];exact⟨aa,(jD.out.alloc _).grown ac (dO af.out)⟩
    clear aa ac bf af jD ba HQ;go_wp2;go_roundg gg;case measure=>omega
    case rel=>exact⟨k+1,by omega,by omega,by go_num,Nf⟩
   ·have e0:(x==0)=false:=by simpa using hx
    have Nf:Hid (wr.ownsRow W.heap.size 3 1 u10 (fJ n.B a (k+1)).length (dJ (fJ n.B a (k+1)))/\ay [] W wr):=by
     show _/\_;rw[Ro,aA (λh=>hx h.2),bz];exact V.out
    clear V Ro hx;go_wp2_with(go_at_call 156;refine C' (K5.out _) ?_);go_roundg gg;case measure=>omega
    case rel=>exact⟨k+1,by omega,by omega,by go_num,Nf⟩
theorem Jg (h:z.cells= #[z])(n:Nat):(Builtin.zeroCells z.cells n).toList=List.replicate n z:=by
 rw[h];apply cX
 ·simp[Builtin.zeroCells]
 ·intro j G J
  simp[Builtin.zeroCells,Nat.mod_one]
theorem Ku{t off n cap:Nat}{h:Array Value}(V: prog.underlying t=some (.slice G))(hz:(zeroValue G).run prog w= .ok z w)(YG:z.cells= #[z])(U:z.oneCell'=true)(J:bc w b h T)(aa:off+n<=h.size):
  ∃w',(∀ty,(Builtin.clear_ #[t] ty #[.slice (some ⟨b,off,none⟩) n cap]).run prog w= .ok (.tuple #[]) w')/\bc w' b (h.toList.take off++List.replicate n z++h.toList.drop (off+n)).toArray T/\ay [b] w w':=by
 cases n with
 |zero=>
  refine⟨w,λty=> ?_,?_,ay.refl _ _⟩
  ·unfold Builtin.clear_
   simp[dD V]
  ·rw[List.replicate_zero,bz,dE,dx]
   exact J
 |succ m=>
  have W:=run_storeCells_at prog b off T (List.replicate (m+1) z) 0 h w J (by rw[bJ];omega) (λv hv=>by rw[ib hv];exact U);refine⟨_,λty=> ?_,?_,(ay.refl _ _).setRow (g:=b) (by simp) (h.toList.take off++List.replicate (m+1) z++h.toList.drop (off+(List.replicate (m+1) z).length)).toArray⟩
  ·unfold Builtin.clear_
   simp only[ck,dD V,cN,aG,ju,hz,Jg YG];simp only[dE] at W;rw[W];simp
  ·rw[bJ]
   exact j4 J
theorem Pg (b c:Nat)(V:c<=13)(w:World):∃off,(Instr.sliceAt 73 (.pointer (some ⟨b,4,none⟩)) (some (.int .i64 (c:Int))) none none).run prog w= .ok (.slice (some ⟨b,off,none⟩) (13-c) (13-c)) w/\(c<13->off=4+c)/\off<=17:=by
 have U:∀w,(sizeOf (prog.elem 73)).run prog w= .ok 1 w:=λw=>by show Sem.run _ _ _=_;kernel_rfl
 have G: prog.arrayLen 73 =13:=by kernel_rfl
 have z:=run_sliceAt_array_l (P:= prog) w 73 ⟨b,4,none⟩ (by kernel_rfl) .i64 (c:Int) (by omega) (by rw[G];omega);rw[U,G,aF] at z;rw[z];by_cases J:c<13
 ·refine⟨4+c,?_,λ_=>rfl,by omega⟩
  simp only[Result.andThen,slicedAt,aA (show ¬13=c by omega),iE,add_plain]
 ·obtain rfl:c=13:=by omega
  exact⟨4,rfl,λh=>absurd h J,by omega⟩
theorem aaI (hB:n.B.length=13){c off:Nat}(hc:c<=13)(ho:c<13->off=4+c):((aL n v).toList.take off++List.replicate (13-c) (Value.int .i64 0)++(aL n v).toList.drop (off+(13-c))).toArray=aL (qy n c) v:=by
 by_cases h:c<13
 ·obtain rfl:=ho h
  have V:(aL n v).toList=([.int .i64 n.F,.int .i64 n.K,.int .i64 n.L,.int .i64 n.S]:List Value)++(zs n.B++[v]):=rfl;have G:aL (qy n c) v=(([.int .i64 n.F,.int .i64 n.K,.int .i64 n.L,.int .i64 n.S]:List Value)++(zs (jn n.B c)++[v])).toArray:=rfl;rw[V,G]
  congr 1
  have W:∀(a:List Value) (r:List Value) (j:Nat),a.length=4->(a++r).take (4+j)=a++r.take j:=λa r j z=>by rw[<-z,List.take_length_add_append]
  have J:∀(a:List Value) (r:List Value) (j:Nat),a.length=4->(a++r).drop (4+j)=r.drop j:=λa r j z=>by rw[<-z,List.drop_length_add_append]
  rw[W _ _ _ rfl,show 4+c+(13-c)=4+13 by omega,J _ _ _ rfl,fI (by rw[eT];omega),List.drop_left' (by rw[eT,hB]),aV,aV]
  congr 1
  unfold jn;rw[Cq,aV];simp[zs]
 ·obtain rfl:c=13:=by omega
  have U:jn n.B 13=n.B:=by unfold jn;rw[aW (by omega)];simp
  have G:aL (qy n 13) v=aL n v:=by unfold qy;rw[U]
  rw[G,ja,List.replicate_zero,bz,dE,dx]
theorem aaJ (J:c.length=832){s off:Nat}(U:s<=832)(G:s<832->off=s):((ky c).toArray.toList.take off++List.replicate (832-s) (Value.int .u8 0)++(ky c).toArray.toList.drop (off+(832-s))).toArray=(ky (OQ c s)).toArray:=by
 by_cases h:s<832
 ·obtain rfl:=G h
  congr 1
  rw[dV (by show(ky c).length<=_;rw[fq];omega),bz];unfold OQ ky;rw[ez,jP,j0]
 ·obtain rfl:s=832:=by omega
  have z:OQ c 832=c:=by unfold OQ;rw[aW (by omega)];simp
  rw[z,ja,List.replicate_zero,bz,dE,dx]
theorem Ph (b m:Nat)(h:m<=832)(w:World):∃off cap,(Instr.sliceAt 166 (.pointer (some ⟨b,0,none⟩)) (some (.int .i64 (m:Int))) none none).run prog w= .ok (.slice (some ⟨b,off,none⟩) (832-m) cap) w/\(m<832->off=m)/\off+(832-m)<=832:=by
 by_cases z:m<832
 ·exact⟨m,832-m,uG b m z w,λ_=>rfl,by omega⟩
 ·obtain rfl:m=832:=by omega
  have U:∀w,(sizeOf (prog.elem 166)).run prog w= .ok 1 w:=λw=>by show Sem.run _ _ _=_;kernel_rfl
  have J: prog.arrayLen 166 =832:=by kernel_rfl
  have G:=run_sliceAt_array_l (P:= prog) w 166 ⟨b,0,none⟩ (by kernel_rfl) .i64 (832:Nat) (by omega) (by rw[J];omega);rw[U,J,aF] at G;refine⟨0,0,?_,λh=>absurd h z,by omega⟩;rw[G];rfl
def ra (n:bS) (c:Nat):List Nat:=(n.B.drop c).map Int.toNat
theorem Pj (U:n.B.length=13)(V:∀k,0<=n.B.getD k 0)(J:bc w g (aL n v) T){c off:Nat}(hc:c<=13)(ho:c<13->off=4+c):Reads w (.slice (some ⟨g,off,none⟩) (13-c) (13-c)) g (dJ (ra n c)):=by
 have z:(dJ (ra n c)).length=13-c:=by rw[fo];unfold ra;simp[U]
 refine⟨_,13-c,by rw[z],by omega,by unfold maxLen;omega,λW=>⟨J.lt,off,rfl,λj G=> ?_⟩⟩;rw[z] at G;obtain rfl:=ho (by omega);rw[show 4+c+j=4+(c+j) by omega,LW U J (by omega),nr (by rw[<-fo,z];exact G)]
 congr 2
 have h:=V (c+j);unfold ra;simp only[aj,bO,cj] at h ⊢;have Sq:c+j<n.B.length:=by omega
 rw[aD Sq] at h ⊢;simp only[eZ,iB] at h ⊢;omega
theorem afk (h:eN w b gp B ps)(aG:In64 (az B ps))(bv:b<w.heap.size/\gp<w.heap.size)(bI:ps.length<=600000){n:bS}(hB:n.B.length=13)(hN:lh n.B)(o:iP)(vp vq vd:Value){v:Value}(hv:v.oneCell'=true)(s:Nat)(hs:s<=832):
  Calls prog 120 #[cC b o vp vq vd,aL n v,(s:Int)] w λe w'=>e=aL (qy n (bF s)) v/\
   vO w w' b gp B (ps++(ct (az B ps) (ra n (bF s))++ft (qy n (bF s)).B (OQ (iL (az (az B ps) (ct (az B ps) (ra n (bF s)))) (qy n (bF s))) s) 13)):=by
 obtain⟨R0,aN⟩:∃R0,aL bY (.slice none 0 0)=R0:=⟨_,rfl⟩;obtain⟨W,hW⟩:∃W,((w.alloc (.cells (cC b o vp vq vd) 91)).alloc (.cells (aL n v) 75)).alloc (.cells R0 75)=W:=⟨_,rfl⟩;have cM:ay [] w W:=by rw[<-hW];exact(((ay.refl [] w).alloc _).alloc _).alloc _
 have jK:bc W w.heap.size (cC b o vp vq vd) 91 :=by rw[<-hW];exact((bc.new w _ _).alloc _).alloc _
 have Im:bc W (w.heap.size+1) (aL n v) 75 :=by rw[<-hW];exact(bc.new2 w _ _ _ _).alloc _
 have jI:bc W (w.heap.size+1+1) R0 75 :=by
  have :=bc.new2 (w.alloc (.cells (cC b o vp vq vd) 91)) (aL n v) 75 R0 75;rw[aU,hW] at this;exact this
 have aQ:W.heap.size=w.heap.size+1+1+1:=by rw[<-hW];simp only[aU]
 have rq:=dC;rw[aN] at rq;have hX:(az B ps).length=3128:=h.raw.lx;obtain⟨c,hc⟩:∃c,bF s=c:=⟨_,rfl⟩;have Gq:c<=13:=by rw[<-hc];unfold bF;omega
 rw[hc];have K5:Hid (∀wx,Calls prog 156 #[(s:Int)] wx λx w'=>x=(c:Int)/\wx=w'):=λwx=>by
  have :=Er s (by omega) wx;rwa[hc] at this
 obtain⟨off,b9,aa,bn⟩:=Pg (w.heap.size+1) c Gq W;have QI:W.cell? w.heap.size=some (.pointer (some ⟨b,0,none⟩)):=by rw[jK.cell];rfl
 have bp:∀k,0<=n.B.getD k 0:=λk=>by
  by_cases lZ:k<13
  ·exact(mG hN lZ).1
  ·rw[aj,aZ (by omega)];decide
 have ax:=ar (Li (h.keep cM) aG (by omega) (by omega) (Pj hB bp Im Gq aa) (by unfold ra;simp;omega) (λ_=>⟨by omega,by omega⟩));have Lm:=(iq (ra n c) (az B ps) aG hX).1;have aR:(ct (az B ps) (ra n c)).length<=13:=by
  refine cL (qp _ _) ?_;unfold ra;simp;omega
 obtain⟨G,bj⟩:∃G,ct (az B ps) (ra n c)=G:=⟨_,rfl⟩;rw[bj] at ax Lm aR ⊢;rw[<-br] at Lm ⊢;have aI:lh (jn n.B c):=λk lZ=>by
  have BN:=qf hB Gq;rw[BN];split
  ·next hkc=>
   refine⟨mG hN lZ,λcg j hj=> ?_⟩;rw[BN,aB];exact(hN k lZ).2 cg j hj
  ·exact⟨by omega,λh=>absurd rfl h⟩
 have ai:(qy n c).B.length=13:=nI hB Gq;have aS:=zj (kH (az B (ps++G)) (qy n c)) hs;have aT:=(kH (az B (ps++G)) (qy n c)).1;have aY:=(kH (az B (ps++G)) (qy n c)).2;have bL:Hid (∀z U,eN U b z B (ps++G)->b<U.heap.size/\z<U.heap.size->∀vv,Calls prog 116 #[cC b o vp vq vd,aL (qy n c) vv] U λe w'=>e=(ky (iL (az B (ps++G)) (qy n c))).toArray/\ay [] U w'):=λz U h1 h2 vv=>wX h1 h2 Lm ai aI o vp vq vd vv
 have bO:Hid (∀z U,eN U b z B (ps++G)->b<U.heap.size/\z<U.heap.size->∀vv,Calls prog 118 #[cC b o vp vq vd,aL (qy n c) vv,(ky (OQ (iL (az B (ps++G)) (qy n c)) s)).toArray] U λe w'=>e= .returned (.tuple #[])/\vO U w' b z B ((ps++G)++ft (qy n c).B (OQ (iL (az B (ps++G)) (qy n c)) s) 13)):=λz U h1 h2 vv=>zS h1 h2 (by rw[aC];omega) ai aI aS o vp vq vd vv
 have bH:=ar (λvv=>aaI (n:=n) (v:=vv) hB Gq aa);rw[<-aV];generalize ft (qy n c).B (OQ (iL (az B (ps++G)) (qy n c)) s) 13=ba at *;generalize iL (az B (ps++G)) (qy n c)=CL at *;obtain⟨cj,cf,JK,lJ,fG,Ru,HV⟩:=hh7 Im jK jI aQ cM aN hv;obtain⟨DI,HB,ae,Hz,bU,bX,bV⟩:=hh7 bv hB ai aT aY aa bn;have bD:Hid (∀wx,bc wx w.heap.size (cC b o vp vq vd) 91->(loadVar 91 w.heap.size).run prog wx= .ok (.agg (cC b o vp vq vd)) wx):=λwx hb=>jC hb
 obtain⟨Z8,aJ⟩:∃Z8,(ky (List.replicate 832 0)).toArray=Z8:=⟨_,rfl⟩;have bT:=zk;rw[aJ] at bT;have xz:Hid (Z8.size=832):=by rw[<-aJ];unfold Hid;rw[bP,fq,bJ]
 clear aJ;have aA:=ar hs;clear h aG bv bI hB hN jK Im jI aQ cM aN hv hX hc aR Lm aI aS bj bp ai aT aY aa bn hs;generalize hJ:cC b o vp vq vd=J,bl:aL n v=N at *;have NP:=ar bl;clear hJ bl;go_in;go_wp2_with(first|(go_at_call 156;refine C' (K5.out _) ?_));refine Rr ax.out ?_;rintro U ⟨z,r1,r2,r3⟩;have av:=DI.out;have bw:=lJ.out;have b6:=r3.size;have ah:∀x,w.heap.size<=x->x∉[b,gp]:=λx hx=>by simp only[aM,aK,bC];omega
 have aW:(zeroValue 3).run prog U= .ok (.int .i64 0) U:=by kernel_rfl
 obtain⟨w3,bg,ag,ac⟩:=Ku (off:=off) (n:=13-c) (cap:=13-c) underlying76 aW rfl rfl (cj.out.keep r3 (ah _ (by omega))) (by rw[<-NP.out];show off+(13-c)<=(mQ n v).length;rw[gJ,HB.out];have :=bX.out;have :=bV.out;omega);rw[<-NP.out,bH.out] at ag;have cu:=bg 0;have aO:=r2.keep ac (by simp;omega) (by simp;omega);have bQ:=ac.size;have aD:=(cf.out.keep r3 (ah _ (by omega))).keep ac;have bz:=(JK.out.keep r3 (ah _ (by omega))).keep ac;obtain⟨lN,uP,K7⟩:=hh3 (bD.out _ aD) (bZ ag ae.out) (bL.out z w3 aO (by omega) v);have bb:Hid (eN w3 b z B (ps++G)/\bc w3 w.heap.size J 91/\bc w3 (w.heap.size+1) (aL (qy n c) v) 75/\bc w3 (w.heap.size+1+1) R0 75/\(b<w3.heap.size/\z<w3.heap.size)/\(z=gp\/(W.heap.size<=z/\z<w3.heap.size))/\ay [b,gp] w w3/\w.heap.size+1+1<w3.heap.size):=⟨aO,aD,ag,bz,by omega,by omega,((fG.out.mono (l':=[b,gp]) (by simp)).trans' r3).trans ac (by intro x hx;rw[au] at hx;omega),by omega⟩;clear bg r1 r2 r3 ac ag aD bz aO bQ b6 bw aW av ah ax b9 QI;go_wp2_with(with_reducible first|refine gL 91 lN.out ?_|refine gL 75 uP.out ?_);refine Rr K7.out λw4 ak=> ?_;obtain⟨w5,q1,q2,q3⟩:=bE (P:= prog) (ty:= 166) (cs:=ky CL) (by rw[fq,Hz.out];exact vM) (bc.new w4 Z8 166) (by rw[fq,Hz.out,xz.out]) (wV _);obtain⟨bM,cd,cp,bh,aX⟩:=Ph w4.heap.size s aA.out w5;have vW:(zeroValue 5).run prog w5= .ok (.int .u8 0) w5:=by kernel_rfl
 obtain⟨w6,bA,tX,jE⟩:=Ku (off:=bM) (n:=832-s) (cap:=cd) underlying29 vW rfl rfl q2 (by rw[bP,fq,Hz.out];exact aX);rw[aaJ Hz.out aA.out bh] at tX;obtain⟨p1,p2,p3,p4,p5,p6,p7,p8⟩:=bb.out;have bR:=ak.size;have V:∀x,x<w3.heap.size->x∉[w4.heap.size]:=λx hx=>by rw[au];omega
 have bW:w4.heap.size+1<=w5.heap.size:=by have :=q3.size;rwa[aU] at this
 have bG:=jE.size;have af:∀{g T:Nat} {C:Array Value},bc w3 g C T->bc w6 g C T:=λ{g T C} hb=>(((hb.keep ak).alloc _).keep q3 (V _ hb.lt)).keep jE (V _ hb.lt)
 have bf:=af p2;have aF:=af p3;have bB:=af p4;have Dq:ay [b,gp] w w6:=(((p7.trans ak).alloc (.cells Z8 166)).trans q3 (by intro x hx;rw[au] at hx;omega)).trans jE (by intro x hx;rw[au] at hx;omega);have aP:eN w6 b z B (ps++G):=by
  have :=((p1.keep ak).keep ((ay.refl [] _).alloc (.cells Z8 166))).keep q3 (V _ p5.1) (V _ p5.2);exact this.keep jE (V _ p5.1) (V _ p5.2)
 have rp:=ar q1;have ck:=bA 0;obtain⟨Dp,WB,bo,bq⟩:=hh4 (bD.out _ bf) (bZ aF ae.out) (zm tX (zj ⟨Hz.out,λx hx=>bU.out x hx⟩ aA.out).1) (bO.out z w6 aP (by omega) v);have mi:Hid (∀w7,vO w6 w7 b z B (ps++G++ba)->bc w7 (w.heap.size+1) (aL (qy n c) v) 75/\bc w7 (w.heap.size+1+1) R0 75/\∀w8,ay [w.heap.size+1+1] w7 w8->vO w w8 b gp B (ps++G++ba)):=λw7 hp=>by
  obtain⟨g3,e1,e2,e3⟩:=hp;have cn:=e3.size;have av:=DI.out;have bw:=lJ.out;have bt:∀x,w.heap.size<=x->x<W.heap.size->x∉[b,z]:=λx hx cm=>by simp only[aM,aK,bC];omega
  refine⟨aF.keep e3 (bt _ (by omega) (by omega)),bB.keep e3 (bt _ (by omega) (by omega)),λw8 rM=> ?_⟩;have Py:=rM.size;refine⟨g3,by omega,e2.keep rM (by rw[au];omega) (by rw[au];omega),(Dq.trans e3 λx hx=> ?_).trans rM λx hx=> ?_⟩
  ·simp only[aM,aK,bC] at hx ⊢
   omega
  ·rw[au] at hx
   omega
 clear p1 p2 p3 p4 p5 p6 p7 p8 q1 q2 q3 bA tX jE Dq aP bf aF bB af V bR bW bG bh aX vW bb lN uP K7;go_wp2_with(with_reducible first|refine gL 91 Dp.out ?_|refine gL 75 WB.out ?_|refine gL 166 bo.out ?_|refine gS 166 rp.out ?_);refine Rr bq.out λw7 bk=> ?_;obtain⟨g1,g2,g3⟩:=mi.out w7 bk;obtain⟨w8,q1,q2,q3⟩:=cr (n:=qy n c) (v:=v) g2 (by rw[<-Ru.out];rfl) ae.out HV.out;obtain⟨b7,bN,D5,bK⟩:=hh4 (bZ g1 ae.out) q1 (bZ q2 ae.out) (g3 w8 q3);clear g1 g2 g3 q1 q2 q3 bk mi bq Dp WB bo rp;go_wp2_with(with_reducible first|refine gL 75 b7.out ?_|refine gS 75 bN.out ?_);exact aH (bu results120 rfl D5.out) rfl ⟨rfl,bK.out⟩
theorem H4 (h:bc w g (aL n v) T)(x:Int):bc (w.setCell ⟨g,3,none⟩ (.int .i64 x)) g (aL { n with S:=x } v) T:=h.set 3 (.int .i64 x)
theorem H5{w':World}{z:Nat}(V:∀h,ay [b,G] w h->ku h)(U:ay [b,G] w w')(hg:z=G\/w.heap.size<=z):∀h,ay [b,z] w' h->ku h:=λh J=>V h (U.trans J λy W=>by
 simp only[aM,aK,bC] at W ⊢;omega)
section
variable {w W:World} {b gp:Nat} {B:List Int} {T:List (bS×Value)} {own:Nat->List Nat} {M:Nat->Nd} {o:iP} {cur:Array Value}
theorem Pk (h:rz w b gp B [] T own [] M)(cM:ay [] w W)(jI:bc W (w.heap.size+1) cur 38)(hc:cur.size=7)(ag:W.heap.size=w.heap.size+2){w2 w4:World}{ps:List (Int×Int)}(U:ay [b,gp] W w2){G:Nat}(ah:G=gp\/(W.heap.size<=G/\G<w2.heap.size))(ae:eN w2 b G B ps)(ar:ps.length<=2000)(aa:In64 (az B ps)){y:Nat}(hy:W.heap.size<=y)(aj:y≠G)(z:ay [y] w2 w4){i:Nat}{n:bS}{v:Value}(hB:n.B.length=13)(hE:n.E=[])(hr:bD w4 v 0 n.E)
  (hR:∀r qs,nK (az B ps) (i:Int) n r qs->kY B M o { fh with E:=r } (ps++qs)):
  Calls prog 48 #[b,(i:Int),aL n v] w4 (yD w b gp B (kY B M o)):=by
 have J:=h.lt;have ai:=z.size;have av:=U.size;have V:ay [b,gp] W w4:=U.trans z λx hx=>by rw[au] at hx;omega
 have ac:=ae.keep z (by rw[au];omega) (by rw[au];omega);have hT:∀wx,ay [b,G] w4 wx->ku wx:=H5 h.tab ((cM.mono).trans' V) (by omega);refine(sy ac aa hT (by omega) (by omega) (i:Int) n v 0 hB hr (λk hk=>by rw[hE] at hk;simp at hk) (λh0=>by rw[hE] at h0;simp at h0)).mono ?_;rintro e w5 ⟨r,qs,af,rfl,e1,e2,e3,e4,e5⟩;have ak:=e3.size;have kr:ay [b,gp] W w5:=V.trans e3 λx hx=>by
  simp only[aM,aK,bC] at hx ⊢;omega
 obtain⟨wy,s1,s2,s3,s4⟩:=lG jI hc kr (eF J (by omega)) r;refine⟨r,wy,rfl,s1,s2,fH.some J cM (by omega) (Rq:=λ_ q=>kY B M o { fh with E:=r } q) (m:=2700) ⟨r,ps++qs,af,rfl,by omega,by rw[bN];exact e2,kr,by rw[aC];omega,hR r qs e5⟩ (by omega) s4 s3 λ_ hq=>hq⟩
theorem mN (h:rz w b gp B [] T own [] M)(U:dB M)(he:(dc M o.P).2=0):(M (dc M o.P).1).K=1/\(nT T (dc M o.P).1).B.length=13/\lh (nT T (dc M o.P).1).B/\(nT T (dc M o.P).1).E=[]/\(dc M o.P).1=(cO M o.P).1/\0<=(nT T (dc M o.P).1).S/\(nT T (dc M o.P).1).S<=832:=by
 obtain⟨V,h2,h3⟩:=pK he;rw[h3];have J:=(nL U V).1;have G:(M (cO M o.P).1).K=1:=by
  rcases U.kind (cO M o.P).1 with z|z|z
  ·rw[z] at J;exact absurd rfl J
  ·exact z.1
  ·exact absurd z.1 h2
 obtain⟨f1,f2,f3,-,-,-,f7⟩:=h.nd.fileAt G;exact⟨G,f7,f3.2.2.2,bg f3.2.1,rfl,f3.1.1,f3.1.2⟩
theorem Kv (J:o.K=4)(z:(dc M o.P).2=0){s:Nat}(U:o.N=(s:Int))(hs:s<=832){qs:List (Int×Int)}{m:Nat}(V:m<=400)(G:Goes B qs [] (na M (dc M o.P).1 { M (dc M o.P).1 with D:=ym (M (dc M o.P).1).D s }) m):kY B M o { fh with E:=0 } qs:=by
 have h:=Dh J z;rw[aA,aA,U,aF] at h;rw[(pK z).2.2] at G;exact .inr (.inr ⟨rfl,by rw[h];rfl,.inl (by rw[h];rfl),by rw[h];exact G.lands V⟩)
theorem size_grow(h:rz w b gp B [] T own [] M)(hT:dB M)(hK:o.K=4)(V:ay [] w W)(jI:bc W (w.heap.size+1) cur 38)(hc:cur.size=7)(G:W.heap.size=w.heap.size+2)(U:(dc M o.P).2=0){s:Nat}(hN:o.N=(s:Int))(J:s<=832)(z:(nT T (dc M o.P).1).S<=(s:Int)){w4:World}(hk:ay [] W w4){v:Value}{g:Nat}(hr:bD w4 v g (nT T (dc M o.P).1).E):
  Calls prog 48 #[b,((dc M o.P).1:Int),.agg (aL { nT T (dc M o.P).1 with S:=(s:Int) } v)] w4 (yD w b gp B (kY B M o)):=by
 obtain⟨f1,f2,f3,f4,f5,-⟩:=mN h hT U;have aa:=h.lt;refine Pk h V jI hc G (ay.refl _ W) (.inl rfl) (h.sh.keep V) (by simp) h.nd.st.w64 (y:=W.heap.size) (aI _) (by omega) (hk.mono) (n:={ nT T (dc M o.P).1 with S:=(s:Int) }) f2 f4 (hr.anyG (by rw[f4];rfl) 0) λr qs hp=> ?_
 obtain⟨rfl,hg⟩:=h.nd.grow f1 J z hp;exact Kv hK U hN J (by omega) hg
theorem aaM (h:rz w b gp B [] T own [] M)(hT:dB M)(hK:o.K=4)(vp vq vd:Value)(cM:ay [] w W)(jI:bc W (w.heap.size+1) cur 38)(hc:cur.size=7)(V:W.heap.size=w.heap.size+2)(he:(dc M o.P).2=0){s:Nat}(hN:o.N=(s:Int))(hs:s<=832)(U:(s:Int)<(nT T (dc M o.P).1).S){J:World}(hk:ay [] W J){v:Value}(hv:v.oneCell'=true):
  Calls prog 120 #[cC b o vp vq vd,aL (nT T (dc M o.P).1) v,(s:Int)] J λe G=>∃m:bS,e=aL m v/\m.B.length=13/\ay [b,gp] J G/\∀y w4,W.heap.size<=y->y<J.heap.size->ay [y] G w4->bD w4 v 0 []->
   Calls prog 48 #[b,((dc M o.P).1:Int),.agg (aL { m with S:=(s:Int) } v)] w4 (yD w b gp B (kY B M o)):=by
 obtain⟨f1,f2,f3,f4,f5,f6,f7⟩:=mN h hT he;have ag:=h.lt;have Uj:=hk.size;refine(afk (h.sh.keep (cM.trans' hk)) h.nd.st.w64 (by omega) (by simp) f2 f3 o vp vq vd hv s hs).mono ?_;rintro e G ⟨rfl,Rk,p1,p2,p3⟩;have z:(qy (nT T (dc M o.P).1) (bF s)).B.length=13:=nI f2 (by unfold bF;omega);have jY:ay [b,gp] W G:=(hk.mono).trans' p3;refine⟨_,rfl,z,p3,λy w4 aa af ae hr=> ?_⟩;rw[bN] at p2;have Lm:=(iq (ra (nT T (dc M o.P).1) (bF s)) (az B []) h.nd.st.w64 h.nd.st.len).1;have ac:=kH (az (az B []) (ct (az B []) (ra (nT T (dc M o.P).1) (bF s)))) (qy (nT T (dc M o.P).1) (bF s));refine Pk h cM jI hc V jY (by omega) p2 ?_ ?_ (y:=y) aa (by omega) ae (n:={ qy (nT T (dc M o.P).1) (bF s) with S:=(s:Int) }) z f4 (by show bD w4 v 0 (nT T (dc M o.P).1).E;rw[f4];exact hr) λr qs hp=> ?_
 ·rw[aC]
  have h1:=qp (ra (nT T (dc M o.P).1) (bF s)) (az B []);have h2:=tK (qy (nT T (dc M o.P).1) (bF s)).B (OQ (iL (az (az B []) (ct (az B []) (ra (nT T (dc M o.P).1) (bF s)))) (qy (nT T (dc M o.P).1) (bF s))) s) 13;have h3:(ra (nT T (dc M o.P).1) (bF s)).length<=13:=by unfold ra;simp;omega
  omega
 ·rw[br]
  exact y9 (n:=qy (nT T (dc M o.P).1) (bF s)) Lm (zj ac hs)
 ·rw[br] at hp
  obtain⟨rfl,hg⟩:=h.nd.cut f1 U hp;rw[aV];exact Kv hK he hN hs (by omega) hg
end
end Go.Proofs.YtimcfdnbpkiniaaGreatDoor
