/- Lemmas. -/
import Derived.Test.YtepbpdipenedhaaGreatDoorR33
import Derived.Deep.WholeRow
set_option maxHeartbeats 4000000
set_option maxRecDepth 100000
namespace Go.Proofs.YtepbpdipenedhaaGreatDoor
open Go.Proofs.Tryz
open Go.RowKit
variable{w:World}{T b g gp k:Nat}{B X c l:List Int}{n:bP}{ps:List (Int×Int)}{v:Value}
end Go.Proofs.YtepbpdipenedhaaGreatDoor
namespace Go.Proofs.YtepbpdipenedhaaGreatDoor
open Go.Proofs.Tryz
open Go.RowKit
variable{w:World}{T b g gp k:Nat}{B X c l:List Int}{n:bP}{ps:List (Int×Int)}{v:Value}
theorem yo:(prog.info? 157).map (·.size)=some 832:=by kernel_rfl
theorem CH (w:World):(zeroValue 157).run prog w= .ok (.agg (jL (List.replicate 832 0)).toArray) w:=by kernel_rfl
theorem yq (l:List Int):∀u∈jL l,u.oneCell'=true:=by
 intro u h;simp only[jL,bH] at h;obtain⟨x,-,rfl⟩:=h;rfl
theorem CI (h:bh w g (jL l).toArray T)(z:l.length=832):(loadVar 157 ⟨g,0,none⟩).run prog w= .ok (.agg (jL l).toArray) w:=
 bW g 0 (jL l) underlying157 rfl (by rw[fF,z];exact yo) λj _=>by rw[h.cell,aX,aF]
def kb (X:List Int) (n:bP) (m:Nat):List Int:=(List.range 832).map λj=>if j<m then oY X n j else 0
theorem vV (X:List Int)(n:bP)(m:Nat):(kb X n m).length=832:=by simp[kb]
theorem NI (X:List Int)(n:bP):kb X n 0=List.replicate 832 0:=by
 apply ck;intro j;simp only[kb,bF,bo];by_cases h:j<832
 ·rw[cA h,aC h];rfl
 ·rw[aT (by simpa using h),aB h];rfl
theorem Qw (X:List Int)(n:bP):kb X n 832=kA X n:=by
 unfold kb kA;refine dD λj h=> ?_
 rw[aC (bX.1 h)]
theorem NJ (h:n.B.getD k 0=0):kb X n (64*k)=kb X n (64*(k+1)):=by
 unfold kb;refine dD λj G=> ?_
 by_cases z:j<64*k
 ·rw[aC z,aC (by omega)]
 ·rw[aB z]
  split
  ·unfold oY
   rw[show j/64=k by omega,aC h]
  ·rfl
def xN (W:Nat):List Int:=(kS W).map λc:Nat=>(c:Int)
theorem uK (W:Nat):(xN W).length=8:=by simp[xN,lj]
theorem NK (W:Nat):od (kS W)=jL (xN W):=by simp[od,jL,xN]
theorem Vh (W:Nat){j:Nat}(h:j<8):(xN W)[j]? =some ((qR W j:Nat):Int):=by
 have z:=tB W j h;have G:j<(kS W).length:=by rw[lj];exact h
 rw[aj,aG G] at z;unfold xN;rw[bF,aG G];exact cB (λc:Nat=>some (c:Int)) z
theorem NL{i:Nat}(V:k<13)(W:i<8)(U:n.B.getD k 0≠0):
  (kb X n (64*k+8*i)).take (64*k+8*i)++(xN (X.getD (1080+8*(n.B.getD k 0).toNat+i) 0).toNat).take (832-(64*k+8*i))++(kb X n (64*k+8*i)).drop (64*k+8*i+min 8 (832-(64*k+8*i)))=kb X n (64*k+8*(i+1)):=by
 rw[show min 8 (832-(64*k+8*i))=8 by omega,aV (i:=832-(64*k+8*i)) (by rw[uK];omega)];apply ck;intro j;have G:((kb X n (64*k+8*i)).take (64*k+8*i)).length=64*k+8*i:=by rw[aJ,vV];omega
 have z:∀m j,j<832->(kb X n m)[j]? =some (if j<m then oY X n j else 0):=λm j h=>by simp[kb,h]
 by_cases J:j<64*k+8*i
 ·rw[ba,aY (by omega),bO,aC J,z _ _ (by omega),z _ _ (by omega),aC J,aC (by omega)]
 ·by_cases h2:j<64*k+8*i+8
  ·rw[aY (by rw[aD,G,uK];omega),aQ (by omega),G,Vh _ (by omega),z _ _ (by omega),aC (by omega)]
   unfold oY;rw[show j/64=k by omega,aB U,show j%64/8=i by omega,show j%8=j-(64*k+8*i) by omega]
  ·rw[aQ (by rw[aD,G,uK];omega),aD,G,uK,bT]
   by_cases h3:j<832
   ·rw[z _ _ (by omega),z _ _ (by omega),aB (by omega),aB (by omega)]
   ·rw[aT (by rw[vV];omega),aT (by rw[vV];omega)]
theorem y9 (b m:Nat)(J:m<832)(w:World):(Instr.sliceAt 157 (.pointer (some ⟨b,0,none⟩)) (some (.int .i64 (m:Int))) none none).run prog w= .ok (.slice (some ⟨b,m,none⟩) (832-m) (832-m)) w:=by
 have G:∀w,(sizeOf (prog.elem 157)).run prog w= .ok 1 w:=λw=>by show Sem.run _ _ _=_;kernel_rfl
 have z: prog.arrayLen 157 =832:=by kernel_rfl
 have h:=run_sliceAt_array_l (P:= prog) w 157 ⟨b,0,none⟩ (by kernel_rfl) .i64 (m:Int) (by omega) (by rw[z];omega);rw[G,z,aH] at h;rw[h];show _=Result.ok (Value.slice (some ⟨b,m,none⟩) (832-m) (832-m)) w;simp only[Result.andThen,slicedAt,aB (show ¬832=m by omega),iq,add_plain,aX]
theorem NM (b:Nat)(w:World):(Instr.sliceAt 203 (.pointer (some ⟨b,0,none⟩)) none none none).run prog w= .ok (.slice (some ⟨b,0,none⟩) 8 8) w:=by
 show Sem.run _ _ _=_;kernel_rfl
theorem Jr{b:Int}(z:0<=b)(h:b<256):iL b=1080+8*b:=by unfold iL;rw[aB (by omega)];omega
def Dt (z h:World) (c:Nat) (l:List Int):Prop:=bh h c (jL l).toArray 157/\az [c] z h
theorem KL{Z:Array Value}(z:bh w g Z 203)(h:Z.size=8)(G:l.length=8):
  ∃w',(storeCells ⟨g,0,none⟩ (jL l).toArray.toList).run prog w= .ok () w'/\bh w' g (jL l).toArray 203/\az [g] w w':=by
 refine⟨_,run_storeCells_at (P:= prog) g 0 203 (jL l) 0 Z w z (by rw[fF,G,h];omega) (yq _),?_,(az.refl _ _).setRow (by simp) _⟩;have e:(Z.toList.take (0+0)++jL l++Z.toList.drop (0+0+(jL l).length)).toArray=(jL l).toArray:=by
  rw[dF (by rw[fF,G,dm,h];omega)];simp
 rw[e];exact kr z
def Z8b:Array Value:= #[.int .u8 0,.int .u8 0,.int .u8 0,.int .u8 0,.int .u8 0,.int .u8 0,.int .u8 0,.int .u8 0]
theorem Bn (h:eO w b gp B ps)(aI:b<w.heap.size/\gp<w.heap.size)(ax:In64 (aA B ps)){n:bP}(hB:n.B.length=13)(hN:lA n.B)(o:kM)(vp vq vd v:Value):
  Calls prog 106 #[.agg (dZ b o vp vq vd),.agg (aR n v)] w λe w'=>e= .returned (.agg (jL (kA (aA B ps) n)).toArray)/\az [] w w':=by
 obtain⟨Z,hZ⟩:∃Z,(jL (List.replicate 832 0)).toArray=Z:=⟨_,rfl⟩;obtain⟨W,hW⟩:∃W,(((w.alloc (.cells (dZ b o vp vq vd) 79)).alloc (.cells (aR n v) 111)).alloc (.cells Z 157)).alloc (.cells Z 157)=W:=⟨_,rfl⟩;have dt:az [] w W:=by rw[<-hW];exact((((az.refl [] w).alloc _).alloc _).alloc _).alloc _
 have oZ:bh W w.heap.size (dZ b o vp vq vd) 79 :=by rw[<-hW];exact(((bh.new w _ _).alloc _).alloc _).alloc _
 have Qi:bh W (w.heap.size+1) (aR n v) 111 :=by rw[<-hW];exact((bh.new2 w _ _ _ _).alloc _).alloc _
 have mq:bh W (w.heap.size+1+1) Z 157 :=by
  have :=(bh.new2 (w.alloc (.cells (dZ b o vp vq vd) 79)) (aR n v) 111 Z 157).alloc (.cells Z 157);rw[br,hW] at this;exact this
 have KX:bh W (w.heap.size+1+1+1) Z 157 :=by
  have :=bh.new2 ((w.alloc (.cells (dZ b o vp vq vd) 79)).alloc (.cells (aR n v) 111)) Z 157 Z 157;rw[br,br,hW] at this;exact this
 have aG:W.heap.size=w.heap.size+1+1+1+1:=by rw[<-hW];simp only[br]
 have pX:Hid ((loadVar 109 ⟨w.heap.size+1,4,none⟩).run prog W= .ok (.agg (zs n.B).toArray) W):=fc Qi hB λk G=>(iX v hB).f4 k G
 have aS:=h.keep dt (by simp) (by simp);have ba:b<w.heap.size:=h.raw.lt;have DC:Hid (∀(i:Int) (x:Nat) z,az [w.heap.size+1+1+1] W z->(x:Int)=Ae B ps i->Calls prog 127 #[.pointer (some ⟨b,0,none⟩),.int .i64 i] z λe w'=>e= .returned (.int .u64 (x:Int))/\z=w'):=λi x z G hx=>by
  rw[hx];refine oC (aS.keep G ?_ ?_) i
  ·rw[ay];omega
  ·rw[ay];omega
 have CE:Hid (∀z,az [w.heap.size+1+1+1] W z->z.cell? ⟨w.heap.size,0,none⟩=some (.pointer (some ⟨b,0,none⟩))):=λz G=>by
  rw[(oZ.keep G (by rw[ay];omega)).cell];rfl
 have aH:Hid (∀k:Nat,k<13->(zs n.B).toArray[k]? =some (.int .i64 (n.B.getD k 0))):=λk G=>by rw[aF,fR (by omega)]
 have oK:Hid (Dt W W (w.heap.size+1+1+1) (kb (aA B ps) n (64*0))):=⟨by rw[NI,hZ];exact KX,az.refl _ _⟩;have Rm:Hid (∀k:Nat,k<13->0<=n.B.getD k 0/\n.B.getD k 0<256):=λk G=>qy hN G
 have aD:Hid (∀k:Nat,n.B.getD k 0=0->kb (aA B ps) n (64*k)=kb (aA B ps) n (64*(k+1))):=λk G=>NJ G
 have av:Hid (∀k i:Nat,k<13->i<8->n.B.getD k 0≠0->∃x:Nat,(x:Int)=Ae B ps (1080+8*n.B.getD k 0+(i:Int))/\(kb (aA B ps) n (64*k+8*i)).take (64*k+8*i)++(xN x).take (832-(64*k+8*i))++(kb (aA B ps) n (64*k+8*i)).drop (64*k+8*i+min 8 (832-(64*k+8*i)))=kb (aA B ps) n (64*k+8*(i+1))):=λk i G hi hb=>by
  have h1:=qy hN G;refine⟨_,?_,NL G hi hb⟩;unfold Ae;rw[aC (by omega),show(1080+8*n.B.getD k 0+(i:Int)).toNat=1080+8*(n.B.getD k 0).toNat+i by omega];have :=ax (1080+8*(n.B.getD k 0).toNat+i);omega
 have DU:Hid (∀m,(kb (aA B ps) n m).length=832):=λm=>vV _ _ m
 have DL:Hid (∀z,Dt W z (w.heap.size+1+1+1) (kb (aA B ps) n (64*13))->∃U,(loadVar 157 ⟨w.heap.size+1+1+1,0,none⟩).run prog z= .ok (.agg (jL (kA (aA B ps) n)).toArray) z/\(storeVar 157 ⟨w.heap.size+1+1,0,none⟩ (.agg (jL (kA (aA B ps) n)).toArray)).run prog z= .ok () U/\(loadVar 157 ⟨w.heap.size+1+1,0,none⟩).run prog U= .ok (.agg (jL (kA (aA B ps) n)).toArray) U/\az [] w U):=λz hc=>by
  obtain⟨h1,h2⟩:=hc;rw[show 64*13=832 from rfl,Qw] at h1;have hl:(kA (aA B ps) n).length=832:=(qz _ _).1;obtain⟨U,q1,q2,q3⟩:=bB (P:= prog) (ty:= 157) (cs:=jL (kA (aA B ps) n)) (by rw[fF,hl];exact yo) (mq.keep h2 (by rw[ay];omega)) (by rw[<-hZ];simp[fF,hl]) (yq _);refine⟨U,CI h1 hl,q1,CI q2 hl,(dt.trans h2 ?_).trans q3 ?_⟩<;>(intro x hx;rw[ay] at hx;omega)
 have aU:=CH;have ot:=au aG;rw[hZ] at aU;clear dt oZ Qi mq KX aG h aI ax hB hN aS ba;generalize kb (aA B ps) n=CT at *;generalize kA (aA B ps) n=CL at *;generalize Ae B ps=GN at *;generalize hq:(jL CL).toArray=CC at *;clear hq hZ;generalize zs n.B=NB at *;generalize dZ b o vp vq vd=J at *;generalize aR n v=N at *;generalize n.B.getD=bn at *;go_enter func106,ntmps106;go_wp2_with(with_reducible refine gL 109 pX.out ?_);clear hW aU pX;go_loopg [6,7,8,9,12] 13 (λgh s6 s7 s8 s9 s12 z=>∃k:Nat,k+gh=13/\s12= .int .i64 (k:Int)/\Hid (Dt W z (w.heap.size+1+1+1) (CT (64*k))))
 case atStart=>exact⟨0,by omega,rfl,oK⟩
 case round=>
  clear oK;obtain⟨k,G,rfl,V⟩:=hrel;cases gk with
  |zero=>
   obtain rfl:k=13:=by omega
   obtain⟨U,q1,q2,q3,q4⟩:=DL.out _ V.out;have HL:=au q1;have HS:=au q2;have qN:=au q3;have iZ:=au q4;clear q1 q2 q3 q4 V DL G;go_wp2_with(first|(with_reducible refine gL 157 HL.out ?_)|(with_reducible refine gS 157 HS.out ?_));exact aL (b9 results106 rfl qN.out) rfl ⟨rfl,iZ.out⟩
  |succ gg=>
   have mC:k<13:=by omega
   have aI:(k:Int)<13:=by omega
   have dt:(0:Int)<=(k:Int):=by omega
   have Bx:=xO mC (aH.out k mC);have CX:=Rm.out k mC;have ai:=aD.out k;have HW:=au (av.out k);clear av aD aH Rm;generalize bn k 0=bb at *;by_cases ah:bb=0
   ·subst ah
    have mU:=V;rw[ai rfl] at mU;clear V CX ai HW;go_wp2_with fail;go_roundg gg;case measure=>omega
    case rel=>exact⟨k+1,by omega,by go_num,mU⟩
   ·have bq:(bb==0)=false:=by simpa using ah
    obtain⟨pb,ae⟩:∃pb,1080+8*bb=pb:=⟨_,rfl⟩;have uL:Hid (∀z,Calls prog 149 #[.int .i64 bb] z λe w'=>e= .returned (.int .i64 pb)/\z=w'):=λz=>by
     have :=jU bb z;rwa[Jr CX.1 CX.2,ae] at this
    rw[ae] at HW;have bk:0<=pb/\pb<3121:=by omega
    clear ai ae CX;go_wp2_with fail;go_loopg [8,9,18] 8 (λgh s8 s9 s18 z=>∃i:Nat,i+gh=8/\s18= .int .i64 (i:Int)/\Hid (Dt W z (w.heap.size+1+1+1) (CT (64*k+8*i))))
    case atStart=>exact⟨0,by omega,rfl,V⟩
    case round=>
     clear V;obtain⟨i,hi,rfl,V⟩:=hrel;cases gk with
     |zero=>
      obtain rfl:i=8:=by omega
      have mU:=V;rw[show 64*k+8*8=64*(k+1) by omega] at mU;clear V hi;go_wp2_with fail;go_roundg gg;case measure=>omega
      case rel=>exact⟨k+1,by omega,by go_num,mU⟩
     |succ g2=>
      have K3:i<8:=by omega
      have tO:(i:Int)<8:=by omega
      have bl:(0:Int)<=(i:Int):=by omega
      obtain⟨x,hx,aN⟩:=HW.out i mC K3 ah;have aT:=au aN;have bj:IntKind.i64.wrap (pb+(i:Int))=pb+(i:Int):=by rw[cy];omega
      have HG:Hid (∀z,az [w.heap.size+1+1+1] W z->Calls prog 127 #[.pointer (some ⟨b,0,none⟩),.int .i64 (pb+(i:Int))] z λe w'=>e= .returned (.int .u64 (x:Int))/\z=w'):=λz G=>DC.out _ x z G hx
      have aB:Hid (∀z,Calls prog 148 #[.int .u64 (x:Int)] z λe w'=>e= .returned (.agg (jL (xN x)).toArray)/\az [] z w'):=λz=>by
       have :=Am x z;rwa[NK] at this
      have Hc:Hid ((xN x).length=8):=uK x;have aW:=CE.out _ V.out.2;have aZ:w.heap.size<wr.heap.size:=by have :=V.out.2.size;have :=ot.out;omega
      clear aN hx HW;generalize xN x=bs at *;generalize aa:(jL bs).toArray=DB at *;have ar:=au aa;have ak:Hid (∀z g,bh z g Z8b 203->∃w',(storeCells ⟨g,0,none⟩ DB.toList).run prog z= .ok () w'/\bh w' g DB 203/\az [g] z w'):=λz g hb=>by
       have :=KL (l:=bs) hb rfl Hc.out;rwa[aa] at this
      have aV:DB.size=8:=by rw[<-aa,bN,fF,Hc.out]
      have aO:∀z:World,(storeCells ⟨z.heap.size,0,none⟩ DB.toList).run prog (z.alloc (.cells #[.int .u8 0,.int .u8 0,.int .u8 0,.int .u8 0,.int .u8 0,.int .u8 0,.int .u8 0,.int .u8 0] 203))= .ok () (z.alloc (.cells DB 203)):=λz=>by
       have :=run_storeCells_new (P:= prog) z 203 Z8b (jL bs).toArray (by rw[bN,fF,Hc.out];exact Tryz.info_bytes) (by show(8:Nat)=_;rw[bN,fF,Hc.out]) (by rw[Array.all_eq_true'];intro u hu;exact yq bs u (by simpa using hu));rwa[aa] at this
      clear aa;have aY:w.heap.size+1+1+1<wr.heap.size:=by have :=V.out.2.size;have :=ot.out;omega
      have HA:Hid (∀U,az [] wr.drew U->bh (U.alloc (.cells DB 203)) U.heap.size DB 203/\Dt W (U.alloc (.cells DB 203)) (w.heap.size+1+1+1) (CT (64*k+8*i))/\U.heap.size≠w.heap.size+1+1+1):=λU G=>by
       have h1:wr.heap.size<=U.heap.size:=G.size;exact⟨bh.new _ _ _,⟨((V.out.1.drew).keep G (by simp)).alloc _,((V.out.2.drew).trans G (by simp)).alloc _⟩,by omega⟩
      have aQ:Hid (∀U w9,az [] (wr.alloc (.cells Z8b 203)).drew U->bh w9 wr.heap.size DB 203->az [wr.heap.size] U w9->bh w9 wr.heap.size DB 203/\Dt W w9 (w.heap.size+1+1+1) (CT (64*k+8*i))/\wr.heap.size≠w.heap.size+1+1+1):=λU w9 G DD DJ=>by
       have h0:=V.out.2.size;refine⟨DD,⟨(((V.out.1.alloc _).drew).keep G (by simp)).keep DJ (by rw[ay];omega),((((V.out.2.alloc _).drew).trans G (by simp))).trans DJ λx hx=> ?_⟩,by omega⟩;rw[ay] at hx;exact .inr (by omega)
      have XI:Hid (64*k+8*i<832):=by unfold Hid;omega
      obtain⟨off,cap,aP,ac⟩:∃off cap,(∀z,(Instr.sliceAt 157 (.pointer (some ⟨w.heap.size+1+1+1,0,none⟩)) (some (.int .i64 ((k:Int)*64+(i:Int)*8))) none none).run prog z= .ok (.slice (some ⟨w.heap.size+1+1+1,off,none⟩) (832-(64*k+8*i)) cap) z)/\off=64*k+8*i:=by
       refine⟨64*k+8*i,832-(64*k+8*i),λz=> ?_,rfl⟩;have :=y9 (w.heap.size+1+1+1) (64*k+8*i) (by omega) z;rwa[show((64*k+8*i:Nat):Int)=(k:Int)*64+(i:Int)*8 by omega] at this
      have aK:=au aP;clear aP
      go_upto_region 9 with fail
      go_cut [9] (λs9 z=>∃a:Nat,s9= .pointer (some ⟨a,0,none⟩)/\Hid (bh z a DB 203/\Dt W z (w.heap.size+1+1+1) (CT (64*k+8*i))/\a≠w.heap.size+1+1+1))
      case first=>
       go_region_with (first|(go_at_call 149;refine(uL.out _).mono ?_;rintro e w1 ⟨rfl,rfl⟩)|(go_at_call 127;refine(HG.out _ (by first|exact V.out.2|exact V.out.2.drew|exact(V.out.2.drew).alloc _)).mono ?_;rintro e w1 ⟨rfl,rfl⟩)|(go_at_call 148;refine(aB.out _).mono ?_;rintro e U ⟨rfl,ag⟩;(try (obtain⟨w9,q1,q2,q3⟩:=ak.out U _ ((bh.new wr Z8b 203).drew.keep ag (by simp));(have bu:(storeCells ⟨wr.heap.size,0,none⟩ DB.toList).run prog U= .ok () w9:=q1);(have Q2:=au q2);(have Q3:=au q3);clear q1 q2 q3));(have fL:=au ag);clear ag))
       all_goals go_wp2_with fail
       all_goals go_meet
       all_goals first|exact⟨_,rfl,aQ.out _ _ fL.out Q2.out Q3.out⟩|exact⟨_,rfl,HA.out _ fL.out⟩
      case rest=>
       clear HA aQ ak aO aV uL HG aB aW V aY aZ;obtain⟨a,rfl,aM⟩:=hcut;obtain⟨DD,aj,bf⟩:=aM.out;rw[<-ar.out] at DD;have wP:Reads wc (.slice (some ⟨a,0,none⟩) 8 8) a (jL bs):=by
        refine⟨some ⟨a,0,none⟩,8,by rw[fF,Hc.out],by rw[fF,Hc.out];omega,by unfold maxLen;omega,λ_=>⟨DD.lt,0,rfl,λj hj=> ?_⟩⟩;rw[DD.cell,aX,aF]
       obtain⟨r,w4,yO,af,aJ⟩:=KC (w:=wc.drew) (o:=off) (n:=832-(64*k+8*i)) (cap:=cap) aj.1.drew wP (by rw[DU.out,Hc.out,ac];have :=XI.out;omega);rw[Hc.out,ac,aT.out] at af;have bc:Hid (Dt W w4 (w.heap.size+1+1+1) (CT (64*k+8*(i+1)))):=⟨af,aj.2.drew.trans' aJ⟩;have bp:=aK.out;have bo:∀z,(Instr.sliceAt 203 (.pointer (some ⟨a,0,none⟩)) none none none).run prog z= .ok (.slice (some ⟨a,0,none⟩) 8 8) z:=λz=>NM a z
       have JV:=yO 3;have VC:IntKind.i64.wrap ((k:Int)*64)=(k:Int)*64:=by rw[cy];omega
       have bg:IntKind.i64.wrap ((i:Int)*8)=(i:Int)*8:=by rw[cy];omega
       have bt:IntKind.i64.wrap ((k:Int)*64+(i:Int)*8)=(k:Int)*64+(i:Int)*8:=by rw[cy];omega
       clear yO af aJ wP DD aj bf aM ar aK aT ac;go_wp2_with fail;go_region_with (fail)
       go_wp2_with fail;go_roundg g2;case measure=>omega
       case rel=>exact⟨i+1,by omega,by go_num,bc⟩
theorem KM (b m:Nat)(J:m+8<=832)(w:World):(Instr.sliceAt 157 (.pointer (some ⟨b,0,none⟩)) (some (.int .i64 (m:Int))) (some (.int .i64 ((m:Int)+8))) none).run prog w= .ok (.slice (some ⟨b,m,none⟩) 8 (832-m)) w:=by
 have G:∀w,(sizeOf (prog.elem 157)).run prog w= .ok 1 w:=λw=>by show Sem.run _ _ _=_;kernel_rfl
 have z: prog.arrayLen 157 =832:=by kernel_rfl
 have h:=run_sliceAt_array_lh (P:= prog) w 157 ⟨b,0,none⟩ (by kernel_rfl) .i64 .i64 (m:Int) ((m:Int)+8) (by omega) (by omega) (by rw[z];omega);rw[G,z,aH,show((m:Int)+8).toNat=m+8 by omega] at h;rw[h];show _=Result.ok (Value.slice (some ⟨b,m,none⟩) 8 (832-m)) w;simp only[Result.andThen,slicedAt,aB (show ¬832=m by omega),iq,add_plain,aX,cY]
theorem Qx (b m cap:Nat)(w:World):(Instr.arrayAt 203 (.slice (some ⟨b,m,none⟩) 8 cap)).run prog w= .ok (.pointer (some ⟨b,m,none⟩)) w:=by
 show Sem.run _ _ _=_;kernel_rfl
theorem Vi{m:Nat}(G:bh w g (jL l).toArray T)(J:m+8<=l.length):(loadVar 203 ⟨g,m,none⟩).run prog w= .ok (.agg (jL ((l.drop m).take 8)).toArray) w:=by
 have z:((l.drop m).take 8).length=8:=by rw[aJ,bE];omega
 refine bW g m (jL ((l.drop m).take 8)) underlying203 rfl (by rw[fF,z];exact Tryz.info_bytes) λj h=> ?_
 rw[fF,z] at h;rw[G.cell,aF];simp only[jL,bF,bO,bT];rw[aC h]
theorem YU (G:Cw c)(m:Nat)(V:m+8<=832)(w:World):
  Calls prog 152 #[.agg (jL ((c.drop m).take 8)).toArray] w λe w'=>e= .returned (.int .u64 (qQ c m))/\az [] w w':=by
 have U:((c.drop m).take 8).length=8:=by have :=G.1;rw[aJ,bE];omega
 have h:∀x∈(c.drop m).take 8,0<=x/\x<256:=λx z=>G.2 x (iA (bM z))
 have :=QS (((c.drop m).take 8).map Int.toNat) (by rw[bS,U]) (λx z=>by
  obtain⟨y,J,rfl⟩:=bH.1 z;have :=h y J;omega) w
 have e:od (((c.drop m).take 8).map Int.toNat)=jL ((c.drop m).take 8):=by
  simp only[od,jL,List.map_map];refine dD λx z=> ?_
  have :=h x z;show Value.int .u8 ((x.toNat:Nat):Int)=Value.int .u8 x;rw[show((x.toNat:Nat):Int)=x by omega]
 rw[e] at this;exact this
def pU (c:List Int) (h:Int) (k i:Nat):List (Int×Int):=(List.range i).map λw:Nat=>(iL h+(w:Int),qQ c (64*k+8*w))
theorem NP (c:List Int)(h:Int)(k i:Nat):pU c h k (i+1)=pU c h k i++[(iL h+(i:Int),qQ c (64*k+8*i))]:=by
 unfold pU;rw[dS,eX];rfl
theorem Qy (c:List Int)(h:Int)(k i:Nat):(pU c h k i).length=i:=by simp[pU]
theorem NQ (h:B.getD k 0=0):gX B c (k+1)=gX B c k:=by
 show gX B c k++_=_;rw[aC h,bu]
theorem Qz (h:B.getD k 0≠0):gX B c (k+1)=gX B c k++pU c (B.getD k 0) k 8:=by
 show gX B c k++_=_;rw[aB h];rfl
def yF (W z:World) (b G:Nat) (B:List Int) (ps:List (Int×Int)):Prop:=∃h,(h=G\/(W.heap.size<=h/\h<z.heap.size))/\eO z b h B ps/\az [b,G] W z
theorem yF.put{W wr wx:World}{G:Nat}(h:yF W wr b G B ps)(ac:b<W.heap.size/\G<W.heap.size)(hn:ps.length<=1000000)(J:az [] wr wx){i:Int}(h0:0<=i)(h1:i<3128)(x:Int):
  Calls prog 48 #[.pointer (some ⟨b,0,none⟩),.int .i64 i,.int .u64 x] wx λe w'=>e= .returned (.tuple #[])/\yF W w' b G B (ps++[(i,x)]):=by
 obtain⟨gG,hg,hs,wM⟩:=h;have aa:=wM.size;have :=oD (hs.keep J (by simp) (by simp)) hn i x;rw[show zj ps i x=ps++[(i,x)] by rw[zj,aC (by rw[sB];omega)]] at this;refine this.mono ?_;rintro e w' ⟨rfl,pq,U,V,z⟩;have h2:=J.size;have h3:=z.size;refine⟨rfl,pq,?_,V,(wM.trans J (by simp)).trans z λy hy=> ?_⟩
 ·rcases hg with h|h<;>rcases U with h'|h'<;>omega
 ·simp only[aP,aM,bz] at hy ⊢
  rcases hg with h|h<;>omega
theorem H4{U:Nat}(h:eO w b U B ps)(aC:b<w.heap.size/\U<w.heap.size)(aL:ps.length<=900000){n:bP}(hB:n.B.length=13)(hN:lA n.B){c:List Int}(hc:Cw c)(o:kM)(vp vq vd v:Value):
  Calls prog 108 #[.agg (dZ b o vp vq vd),.agg (aR n v),.agg (jL c).toArray] w λe w'=>e= .returned (.tuple #[])/\yF w w' b U B (ps++gX n.B c 13):=by
 obtain⟨Z,hZ⟩:∃Z,(jL c).toArray=Z:=⟨_,rfl⟩;obtain⟨W,hW⟩:∃W,((w.alloc (.cells (dZ b o vp vq vd) 79)).alloc (.cells (aR n v) 111)).alloc (.cells Z 157)=W:=⟨_,rfl⟩;have dt:az [] w W:=by rw[<-hW];exact(((az.refl [] w).alloc _).alloc _).alloc _
 have oZ:bh W w.heap.size (dZ b o vp vq vd) 79 :=by rw[<-hW];exact((bh.new w _ _).alloc _).alloc _
 have Qi:bh W (w.heap.size+1) (aR n v) 111 :=by rw[<-hW];exact(bh.new2 w _ _ _ _).alloc _
 have KX:bh W (w.heap.size+1+1) (jL c).toArray 157 :=by
  have :=bh.new2 (w.alloc (.cells (dZ b o vp vq vd) 79)) (aR n v) 111 Z 157;rw[br,hW] at this;rw[hZ];exact this
 have aT:W.heap.size=w.heap.size+1+1+1:=by rw[<-hW];simp only[br]
 have pX:Hid ((loadVar 109 ⟨w.heap.size+1,4,none⟩).run prog W= .ok (.agg (zs n.B).toArray) W):=fc Qi hB λk G=>(iX v hB).f4 k G
 have av:b<W.heap.size/\U<W.heap.size:=⟨by omega,by omega⟩;have aO:Hid (yF W W b U B (ps++gX n.B c 0)):=⟨U,.inl rfl,by rw[show gX n.B c 0=[] from rfl,bu];exact h.keep dt (by simp) (by simp),az.refl _ _⟩;have DL:Hid (∀z qs,yF W z b U B qs->yF w z b U B qs):=λz qs hp=>by
  obtain⟨g,h1,h2,h3⟩:=hp;refine⟨g,by rcases h1 with h1|h1<;>omega,h2,(dt.mono (l':=[b,U]) (by simp)).trans' h3⟩
 have CE:Hid (∀z qs,yF W z b U B qs->z.cell? ⟨w.heap.size,0,none⟩=some (.pointer (some ⟨b,0,none⟩))):=λz qs hp=>by
  obtain⟨g,h1,h2,h3⟩:=hp;rw[(oZ.keep h3 (by simp only[aP,aM,bz];omega)).cell];rfl
 have aV:Hid (∀wr qs z m,yF W wr b U B qs->az [] wr z->m+8<=832->(loadVar 203 ⟨w.heap.size+1+1,m,none⟩).run prog z= .ok (.agg (jL ((c.drop m).take 8)).toArray) z):=λwr qs z m hp G hm=>by
  obtain⟨g,h1,h2,h3⟩:=hp;exact Vi ((KX.keep h3 (by simp only[aP,aM,bz];omega)).keep G (by simp)) (by rw[hc.1];exact hm)
 have aB:Hid (∀k:Nat,k<13->(zs n.B).toArray[k]? =some (.int .i64 (n.B.getD k 0))):=λk G=>by rw[aF,fR (by omega)]
 have Rm:Hid (∀k:Nat,k<13->0<=n.B.getD k 0/\n.B.getD k 0<256):=λk G=>qy hN G
 have aU:Hid (∀m,m+8<=832->∀z,Calls prog 152 #[.agg (jL ((c.drop m).take 8)).toArray] z λe w'=>e= .returned (.int .u64 (qQ c m))/\az [] z w'):=λm hm z=>YU hc m hm z
 have KO:Hid (∀k,n.B.getD k 0=0->gX n.B c (k+1)=gX n.B c k):=λk G=>NQ G
 have Oa:Hid (∀k,n.B.getD k 0≠0->gX n.B c (k+1)=gX n.B c k++pU c (n.B.getD k 0) k 8):=λk G=>Qz G
 have DU:Hid (∀k,(gX n.B c k).length<=8*k):=λk=>vQ _ _ k
 have aS:=au av;have yI:=au aL;rw[hZ];clear dt oZ Qi KX aT h aC hB hN av aL hZ;generalize dZ b o vp vq vd=J at *;generalize aR n v=N at *;generalize gX n.B c=CP at *;generalize zs n.B=NB at *;generalize n.B.getD=bn at *;go_enter func108,ntmps108;go_wp2_with(with_reducible refine gL 109 pX.out ?_);clear hW pX;go_loopg [6,7,8,9,12] 13 (λgh s6 s7 s8 s9 s12 z=>∃k:Nat,k+gh=13/\s12= .int .i64 (k:Int)/\Hid (yF W z b U B (ps++CP k)))
 case atStart=>exact⟨0,by omega,rfl,aO⟩
 case round=>
  clear aO;obtain⟨k,G,rfl,V⟩:=hrel;cases gk with
  |zero=>
   obtain rfl:k=13:=by omega
   have HE:=au (DL.out _ _ V.out);clear V DL G;go_wp2_with fail;go_end0;exact⟨rfl,HE.out⟩
  |succ gg=>
   have mC:k<13:=by omega
   have aC:(k:Int)<13:=by omega
   have dt:(0:Int)<=(k:Int):=by omega
   have Bx:=xO mC (aB.out k mC);have CX:=Rm.out k mC;have ak:=KO.out k;have ac:=Oa.out k;have ay:=DU.out k;clear KO Oa aB Rm DU;generalize bn k 0=bb at *;by_cases af:bb=0
   ·subst af
    have mU:=V;rw[<-ak rfl] at mU;clear V CX ak ac;go_wp2_with fail;go_roundg gg;case measure=>omega
    case rel=>exact⟨k+1,by omega,by go_num,mU⟩
   ·have bq:(bb==0)=false:=by simpa using af
    have aI:=ac af;obtain⟨pb,ae⟩:∃pb,1080+8*bb=pb:=⟨_,rfl⟩;have ar:=Jr CX.1 CX.2;have uL:Hid (∀z,Calls prog 149 #[.int .i64 bb] z λe w'=>e= .returned (.int .i64 pb)/\z=w'):=λz=>by
     have :=jU bb z;rwa[ar,ae] at this
    have aJ:Hid (∀i,pU c bb k (i+1)=pU c bb k i++[(pb+(i:Int),qQ c (64*k+8*i))]):=λi=>by rw[NP,ar,ae]
    have Zi:Hid (∀i,(pU c bb k i).length=i):=λi=>Qy _ _ _ _
    have bg:1080<=pb/\pb<3121:=by omega
    have Qp:=au aI;have aW:=au ay;have Wm:Hid (yF W wr b U B (ps++(CP k++pU c bb k 0))):=by rw[show pU c bb k 0=[] from rfl,bu];exact V.out
    clear ak ac aI ae CX ar V ay;generalize pU c bb k=WP at *;go_wp2_with fail;go_loopg [8,9,18] 8 (λgh s8 s9 s18 z=>∃i:Nat,i+gh=8/\s18= .int .i64 (i:Int)/\Hid (yF W z b U B (ps++(CP k++WP i))))
    case atStart=>exact⟨0,by omega,rfl,Wm⟩
    case round=>
     clear Wm;obtain⟨i,hi,rfl,V⟩:=hrel;cases gk with
     |zero=>
      obtain rfl:i=8:=by omega
      have mU:Hid (yF W wr b U B (ps++CP (k+1))):=by rw[Qp.out];exact V.out
      clear V hi;go_wp2_with fail;go_roundg gg;case measure=>omega
      case rel=>exact⟨k+1,by omega,by go_num,mU⟩
     |succ g2=>
      have K3:i<8:=by omega
      have tO:(i:Int)<8:=by omega
      have bj:(0:Int)<=(i:Int):=by omega
      obtain⟨m,hm⟩:∃m,64*k+8*i=m:=⟨_,rfl⟩;have bl:(k:Int)*64+(i:Int)*8=(m:Int):=by omega
      have aj:m+8<=832:=by omega
      have bo:(m:Int)<832:=by omega
      have aa:=aJ.out i;rw[hm] at aa;have HJ:=au (aU.out m aj);have p9:Hid (∀z,az [] wr z->(loadVar 203 ⟨w.heap.size+1+1,m,none⟩).run prog z= .ok (.agg (jL ((c.drop m).take 8)).toArray) z):=λz G=>aV.out _ _ z m V.out G aj
      have aN:Hid (∀z,az [] wr z->Calls prog 48 #[.pointer (some ⟨b,0,none⟩),.int .i64 (pb+(i:Int)),.int .u64 (qQ c m)] z λe w'=>e= .returned (.tuple #[])/\yF W w' b U B (ps++(CP k++WP (i+1)))):=λz G=>by
       have :=V.out.put aS.out (by
        have :=yI.out;have :=aW.out;have :=Zi.out i;rw[aD,aD];omega) G (i:=pb+(i:Int)) (by omega) (by omega) (qQ c m)
       rwa[ba,ba,<-aa] at this
      have ax:∀z,az [] wr z->z.cell? ⟨w.heap.size,0,none⟩=some (.pointer (some ⟨b,0,none⟩)):=λz G=>by
       obtain⟨g,h1,h2,h3⟩:=V.out;exact CE.out z (ps++(CP k++WP i)) ⟨g,by have :=G.size;omega,h2.keep G (by simp) (by simp),h3.trans G (by simp)⟩
      have aG:=au ax;have aY:IntKind.i64.wrap (pb+(i:Int))=pb+(i:Int):=by rw[cy];omega
      have bf:IntKind.i64.wrap ((k:Int)*64)=(k:Int)*64:=by rw[cy];omega
      have aZ:IntKind.i64.wrap ((i:Int)*8)=(i:Int)*8:=by rw[cy];omega
      have bp:IntKind.i64.wrap ((m:Int)+8)=(m:Int)+8:=by rw[cy];omega
      have bt:IntKind.i64.wrap (m:Int)=(m:Int):=by rw[cy];omega
      have aH:=au (KM (w.heap.size+1+1) m aj);have aA:=au (Qx (w.heap.size+1+1) m (832-m));clear ax aa aJ hm;generalize qQ c m=jx at *;generalize (jL ((c.drop m).take 8)).toArray=DB at *;go_wp2_with fail;refine fw (l:=[_,_,_,_,_,_,_,_,_,_,_,_,_]) (o:=_) (S:=λz=>az [] wr z) (by kernel_rfl) rfl (by kernel_rfl) (λd _ _ _ _ h=>by cases d<;>exact h) ((az.refl _ _).drew) (by kernel_rfl) (by kernel_rfl) ?_;repeat (first
       |(refine aK.cons (.agg DB) (bc.load rfl 203 (.tmp 36) rfl _ rfl λz hx=>p9.out z hx) ?_;simp only[Act.put,ag,ah,ai])
       |(refine aK.cons (.int .i64 pb) (bc.call rfl 149 #[.int .i64 bb] ?he ?h) ?_;(case he=>(intro wz;go_simp));(case h=>exact λz hx=>(uL.out z).mono λe w' he=>⟨he.1,he.2▸hx⟩);simp only[Act.put,ag,ah,ai])
       |(refine aK.cons (.int .u64 jx) (bc.call rfl 152 #[.agg DB] ?he ?h) ?_;(case he=>(intro wz;go_simp));(case h=>exact λz hx=>(HJ.out z).mono λe w' he=>⟨he.1,hx.trans' he.2⟩);simp only[Act.put,ag,ah,ai])
       |(refine aK.cons ?_ (bc.val rfl ?h) ?_;(case h=>(intro z hx;(have bk:=aG.out z hx);(have aX:=aH.out z);(have Rc:=aA.out z);clear hx;go_simp;rfl));simp only[Act.put,ag,ah,ai]))
      refine aK.done λz hx=> ?_
      have qB:=au hx;clear hx;go_wp2_with fail;refine(aN.out _ qB.out).mono ?_;rintro e w2 ⟨rfl,aQ⟩;have mU:=au aQ;clear aQ aN qB V HJ p9 aG aH aA uL;go_wp2_with fail;go_roundg g2;case measure=>omega
      case rel=>exact⟨i+1,by omega,by go_num,mU⟩
theorem NR (s:Nat)(J:s<=100000)(w:World):Calls prog 150 #[.int .i64 (s:Int)] w λe w'=>e= .returned (.int .i64 ((dM s:Nat):Int))/\w=w':=by
 have h:IntKind.i64.wrap ((s:Int)+64)=(s:Int)+64:=by rw[cy];omega
 have z:IntKind.i64.wrap ((s:Int)+64-1)=(s:Int)+64-1:=by rw[cy];omega
 have U:((s:Int)+64-1).tdiv 64=((dM s:Nat):Int):=by
  rw[Int.tdiv_eq_ediv_of_nonneg (by omega)];unfold dM;omega
 have G:IntKind.i64.wrap ((dM s:Nat):Int)=((dM s:Nat):Int):=by rw[cy];unfold dM;omega
 go_enter func150,ntmps150;go_wp2_with fail;go_ret;exact⟨rfl,rfl⟩
theorem Vj (G:n.B.length=13){k:Nat}(J:k<13)(x:Int):(aR n v).setIfInBounds (4+k) (.int .i64 x)=aR { n with B:=n.B.set k x } v:=by
 have z:mo n v=[.int .i64 n.F,.int .i64 n.K,.int .i64 n.L,.int .i64 n.S]++(zs n.B++[v]):=rfl;have h:mo { n with B:=n.B.set k x } v=[.int .i64 n.F,.int .i64 n.K,.int .i64 n.L,.int .i64 n.S]++(zs (n.B.set k x)++[v]):=rfl;unfold aR;rw[ag,z,h,dx _ _ (by simp),List.set_append_left _ _ (by rw[eF,G];simp;omega)];simp[zs,List.map_set]
def NS (w:World) (b z:Nat) (B:List Int) (ps:List (Int×Int)) (n:bP) (v:Value) (h:List Nat) (e:Ending) (w':World):Prop:=
 ((aZ (aA B ps)).length<h.length/\e= .returned (.tuple #[.agg (aR cr (.slice none 0 0)),.int .i64 7])/\az [] w w')\/
 (h.length<=(aZ (aA B ps)).length/\e= .returned (.tuple #[.agg (aR { n with B:=ju n.B h ((aZ (aA B ps)).take h.length) h.length } v),.int .i64 0])/\yF w w' b z B (ps++cW (aA B ps) ((aZ (aA B ps)).take h.length)))
theorem RZ (G:n.B.length=13){w:World}{g T:Nat}(z:bh w g (aR n v) T){k:Nat}(h:k<13):w.cell? ⟨g,4+k,none⟩=some (.int .i64 (n.B.getD k 0)):=by
 rw[z.cell];exact(iX v G).f4 k h
theorem Vk (h:eO w b gp B ps)(aN:In64 (aA B ps))(hT:∀G,az [b,gp] w G->kg G)(ag:b<w.heap.size/\gp<w.heap.size)(ba:ps.length<=600000){n:bP}(hB:n.B.length=13)(o:kM)(vp vq vd:Value){v:Value}(hv:v.oneCell'=true)(f t:Nat)(bI:f<=t)(ht:t<=832):
  Calls prog 107 #[.agg (dZ b o vp vq vd),.agg (aR n v),.int .i64 (f:Int),.int .i64 (t:Int)] w (NS w b gp B ps n v (fM n.B (f/64) (dM t))):=by
 obtain⟨i0,hi,bH,bo,bv⟩:=cP Tryz.info_int;obtain⟨R0,ak⟩:∃R0,aR cr (.slice none 0 0)=R0:=⟨_,rfl⟩;obtain⟨W,hW⟩:∃W,((w.alloc (.cells (dZ b o vp vq vd) 79)).alloc (.cells (aR n v) 111)).alloc (.cells R0 111)=W:=⟨_,rfl⟩;have dt:az [] w W:=by rw[<-hW];exact(((az.refl [] w).alloc _).alloc _).alloc _
 have oZ:bh W w.heap.size (dZ b o vp vq vd) 79 :=by rw[<-hW];exact((bh.new w _ _).alloc _).alloc _
 have Qi:bh W (w.heap.size+1) (aR n v) 111 :=by rw[<-hW];exact(bh.new2 w _ _ _ _).alloc _
 have mq:bh W (w.heap.size+1+1) R0 111 :=by
  have :=bh.new2 (w.alloc (.cells (dZ b o vp vq vd) 79)) (aR n v) 111 R0 111;rw[br,hW] at this;exact this
 have aQ:W.heap.size=w.heap.size+1+1+1:=by rw[<-hW];simp only[br]
 have ub:=eA;rw[ak] at ub;obtain⟨a,ha⟩:∃a,f/64=a:=⟨_,rfl⟩;obtain⟨e,he⟩:∃e,dM t=e:=⟨_,rfl⟩;have b7:a<=e/\e<=13:=by rw[<-ha,<-he];unfold dM;omega
 have hq:((f:Int)).tdiv 64=(a:Int):=by
  rw[Int.tdiv_eq_ediv_of_nonneg (by omega)];omega
 have bE:IntKind.i64.wrap (a:Int)=(a:Int):=by rw[cy];omega
 have L6:Hid (∀G,Calls prog 150 #[.int .i64 (t:Int)] G λx w'=>x= .returned (.int .i64 (e:Int))/\G=w'):=λG=>by
  have :=NR t (by omega) G;rwa[he] at this
 rw[ha,he];have Tu:Hid (∀G,az [] W G->∀k,k<13->G.cell? ⟨w.heap.size+1,4+k,none⟩=some (.int .i64 (n.B.getD k 0))):=λG hk k mC=>RZ hB (Qi.keep hk (by simp)) mC
 have CE:Hid (∀G,az [] W G->G.cell? ⟨w.heap.size,0,none⟩=some (.pointer (some ⟨b,0,none⟩))):=λG hk=>by
  rw[(oZ.keep hk (by simp)).cell];rfl
 have bw:Hid (∀k,fM n.B a (k+1)=fM n.B a k++(if a<=k/\n.B.getD k 0=0 then [k] else [])):=λk=>P9 _ _ _
 have LR:Hid (∀k,(fM n.B a k).length<=k):=λk=>uE _ _ _
 have aK:Hid (fM n.B a a=[]):=by
  refine List.eq_nil_iff_forall_not_mem.2 λx hx=> ?_
  have :=yh.1 hx;omega
 have HB:=au hB;have wC:=au h;have tu:=au aN;have HT:=au hT;have EI:=au ag;have yI:=au ba;have bB:=au Qi;have KW:=au mq;have ot:=au aQ;have fW:=au dt;have UM:=au ak;have HV:=au hv;have bK:=hW;clear h aN hT ag ba hB oZ Qi mq aQ dt ha he bI ht ak hv;generalize hJ:dZ b o vp vq vd=J at *;generalize hN:aR n v=N at *;have HN:=au hN;clear hJ hN bK;go_enter func107,ntmps107;go_wp2_with fail;clear hW hq bE;go_loopg [10,11] (e-a) (λgh Sq KR G=>∃k:Nat,a<=k/\k+gh=e/\KR= .int .i64 (k:Int)/\Hid (G.ownsRow W.heap.size 3 1 Sq (fM n.B a k).length (dE (fM n.B a k))/\az [] W G))
 case atStart=>exact⟨a,aI _,by omega,rfl,by rw[aK.out];exact⟨⟨rfl,.inl ⟨rfl,rfl⟩⟩,az.refl _ _⟩⟩
 case round=>
  clear aK;obtain⟨k,bJ,hk,rfl,V⟩:=hrel;cases gk with
  |zero=>
   obtain rfl:k=e:=by omega
   have ou:=V.out.2;obtain⟨g,ac,hg⟩:=lq.of_row V.out.1;have wP:=ac.reads;have ah:=wC.out.keep (fW.out.trans' ou) (by simp) (by simp);have bj:=CE.out wr ou;have ax:=LR.out k;have bR:=ou.size;have bC:=ot.out;have bM:Hid (∀q∈fM n.B a k,q<13):=λq hq=>by have :=yh.1 hq;omega
   generalize fM n.B a k=z at *;obtain⟨ad,cap,rfl,bn,bU,U⟩:=wP;rw[fI] at bn U;rw[fI] at *;have ag:¬(k:Int)<(k:Int):=by omega
   by_cases o9:(aZ (aA B ps)).length<z.length
   ·have IK:=au (xt ah tu.out z.length o9)
    obtain⟨w2,q1,q2,q3⟩:=dc (n:=cr) (v:= .slice none 0 0) (KW.out.keep ou (by simp)) (by rw[<-UM.out];rfl) rfl rfl;have HL:=au (ct q2 rfl);rw[UM.out] at q1 HL;have HS:=au q1;have HF:Hid (NS w b gp B ps n v z (.returned (.tuple #[.agg R0,.int .i64 7])) w2):= .inl ⟨o9,by rw[UM.out],((fW.out.trans' ou).trans q3 (by intro x hx;rw[ay] at hx;omega))⟩;clear q1 q2 q3 ah ac U V ou;generalize z.length=q at *;go_wp2_with(first|(with_reducible refine gS 111 HS.out ?_)|(go_at_call 150;refine(L6.out _).mono ?_;rintro e w1 ⟨rfl,rfl⟩)|(go_at_call 151;refine IK.out.mono ?_;rintro e w1 ⟨rfl,rfl⟩));exact aL (dH results107 rfl HL.out rfl) rfl HF.out
   ·have av:z.length<=(aZ (aA B ps)).length:=by omega
    have aU:((aZ (aA B ps)).take z.length).length=z.length:=by rw[aJ];omega
    have IK:=au (BZ ah tu.out (HT.out wr ((fW.out.trans' ou).mono (by simp))) (by have :=EI.out;omega) (by have :=yI.out;omega) z.length av);have uN:Hid (∀G w2:World,∀gG:Nat,(gG=gp\/(wr.heap.size<=gG/\gG<G.heap.size))->eO G b gG B (ps++cW (aA B ps) ((aZ (aA B ps)).take z.length))->az [b,gp] wr G->az [w.heap.size+1,w.heap.size+1+1] G w2->NS w b gp B ps n v z (.returned (.tuple #[.agg (aR { n with B:=ju n.B z ((aZ (aA B ps)).take z.length) z.length } v),.int .i64 0])) w2):=λG w2 gG h1 h2 h3 h4=>by
     have :=h3.size;have :=h4.size;have :=EI.out;refine .inr ⟨av,rfl,gG,by omega,h2.keep h4 (by simp only[aP,aM,bz];omega) (by simp only[aP,aM,bz];omega),((((fW.out.trans' ou).mono (l':=[b,gp]) (by simp)).trans' h3).trans h4 λx hx=> ?_)⟩;simp only[aP,aM,bz] at hx;omega
    generalize (aZ (aA B ps)).take z.length=l at *;clear ah ac V o9 av;have PC:=au U;have bp:=au ax;have BP:=au aU;have Tn:=au hg;have nD:=au ou;clear U ax aU hg ou;generalize ar:z.length=q at *;go_wp2_with(first|(go_at_call 150;refine(L6.out _).mono ?_;rintro e w1 ⟨rfl,rfl⟩));refine IK.out.mono ?_;rintro e w2 ⟨v2,g2,rfl,r1,r2,r3,pq,r4,r5,r6,r7⟩;obtain⟨bl,bS,rfl,aX,cd,QA⟩:=r1;rw[fI,BP.out] at aX QA;rw[fI,BP.out];have bG:=r7.size;have aW:Hid (bh w2 (w.heap.size+1) (aR { n with B:=ju n.B z l 0 } v) 111):=by
     have :=(bB.out.keep nD.out (by simp)).keep r7 (by simp only[aP,aM,bz];have :=EI.out;omega);rw[<-HN.out] at this;exact this
    have bq:Hid (bh w2 (w.heap.size+1+1) R0 111):=(KW.out.keep nD.out (by simp)).keep r7 (by simp only[aP,aM,bz];have :=EI.out;omega);have aH:Hid (∀w4,az [w.heap.size+1,w.heap.size+1+1] w2 w4->NS w b gp B ps n v z (.returned (.tuple #[.agg (aR { n with B:=ju n.B z l q } v),.int .i64 0])) w4):=λw4 bF=>by
     exact uN.out w2 w4 pq r4 r6 r7 bF
    have bO:w.heap.size+1<g:=by have :=Tn.out;omega
    have bf:w.heap.size+1<g2:=by omega
    have aS:∀j,j<q->g<w2.heap.size/\∃off,ad=some ⟨g,off,none⟩/\∀G,az [w.heap.size+1] w2 G->G.cell? ⟨g,off+j,none⟩=some (.int .i64 ((z.getD j 0:Nat):Int)):=λj hj=>by
     obtain⟨p1,off,p2,p3⟩:=PC.out (λe=>by have :=cB List.length e;rw[fI,b8,ar] at this;omega);have bt:az [b,gp] wr w2:=r7;refine⟨by omega,off,p2,λG hk=> ?_⟩;rw[aO (w:=wr) (a:=⟨g,off+j,none⟩) ((hk.block g (by omega) (by rw[ay];omega)).trans (bt.block g p1 (by simp only[aP,aM,bz];have :=EI.out;omega))),p3 j (by omega),np (by omega)]
    have bc:∀j,j<q->∃off,bl=some ⟨g2,off,none⟩/\∀G,az [w.heap.size+1] w2 G->G.cell? ⟨g2,off+j,none⟩=some (.int .i64 ((l.getD j 0:Nat):Int)):=λj hj=>by
     obtain⟨p1,off,p2,p3⟩:=QA (λe=>by have :=cB List.length e;rw[fI,b8] at this;have :=BP.out;omega);refine⟨off,p2,λG hk=> ?_⟩;rw[aO (w:=w2) (a:=⟨g2,off+j,none⟩) (hk.block g2 (by omega) (by rw[ay];omega)),p3 j hj,np (by rw[BP.out];exact hj)]
    have Oa:=au aS;have Qp:=au bc;have bN:Hid (∀j,j<q->z.getD j 0<13):=λj hj=>by
     rw[aj,aG (by omega)];exact bM.out _ (bA _)
    have GF:=au ar;have cf:q<=13:=by have :=bp.out;omega
    clear aS bc QA ar r2 r3 r4 r5 r6 r7 uN bj IK bG PC bR bC aX bO bf;go_wp2_with fail;go_loopg [14,15,47] q (λgh s14 s15 s47 G=>∃j:Nat,j+gh=q/\s47= .int .i64 (j:Int)/\Hid (bh G (w.heap.size+1) (aR { n with B:=ju n.B z l j } v) 111/\az [w.heap.size+1] w2 G))
    case atStart=>exact⟨0,by omega,rfl,aW.out,az.refl _ _⟩
    case round=>
     clear aW;obtain⟨j,hj,rfl,V⟩:=hrel;cases gk with
     |zero=>
      obtain rfl:j=q:=by omega
      have aV:=ct V.out.1 (by show(ju n.B z l j).length=13;rw[nv];exact HB.out);obtain⟨w4,q1,q2,q3⟩:=dc (n:={ n with B:=ju n.B z l j }) (v:=v) (bq.out.keep V.out.2 (by simp)) (by rw[<-UM.out];rfl) (by show(ju n.B z l j).length=13;rw[nv];exact HB.out) HV.out;have HL:=au aV;have HS:=au q1;have qN:=au (ct q2 (by show(ju n.B z l j).length=13;rw[nv];exact HB.out));have HF:=au (aH.out w4 ((V.out.2.mono (by simp)).trans q3 (by simp)));clear q1 q2 q3 aV aH V;generalize aR { n with B:=ju n.B z l j } v=NN at *;go_wp2_with(first|(with_reducible refine gS 111 HS.out ?_)|(with_reducible refine gL 111 HL.out ?_));exact aL (dH results107 rfl qN.out rfl) rfl HF.out
     |succ gg=>
      have ai:j<q:=by omega
      have bY:(j:Int)<(q:Int):=by omega
      have BI:(0:Int)<=(j:Int):=by omega
      obtain⟨-,off,rfl,bD⟩:=Oa.out j ai;obtain⟨bZ,rfl,bg⟩:=Qp.out j ai;have bV:=bD _ V.out.2;have b9:=bg _ V.out.2;have aT:=bN.out j ai;have bQ:Hid (ju n.B z l (j+1)=(ju n.B z l j).set (z.getD j 0) ((l.getD j 0:Nat):Int)):=rfl;have aF:(ju n.B z l j).length=13:=by rw[nv];exact HB.out
      have b6:=RZ (n:={ n with B:=ju n.B z l j }) (v:=v) aF V.out.1 aT;have bW:=V.out.1.frozen (4+z.getD j 0);have uM:=V.out.1.set (4+z.getD j 0) (.int .i64 ((l.getD j 0:Nat):Int));rw[Vj (n:={ n with B:=ju n.B z l j }) aF aT] at uM;have mU:Hid (bh (wr.setCell ⟨w.heap.size+1,4+z.getD j 0,none⟩ (.int .i64 ((l.getD j 0:Nat):Int))) (w.heap.size+1) (aR { n with B:=ju n.B z l (j+1) } v) 111/\az [w.heap.size+1] w2 (wr.setCell ⟨w.heap.size+1,4+z.getD j 0,none⟩ (.int .i64 ((l.getD j 0:Nat):Int)))):=⟨uM,V.out.2.setCell (by simp) _⟩;have cg:(0:Int)<=((z.getD j 0:Nat):Int):=by omega
      have bT:((z.getD j 0:Nat):Int)<13:=by omega
      clear uM aF V bQ;generalize z.getD j 0=xx at *;generalize ((l.getD j 0:Nat):Int)=yy at *;go_wp2_with fail;go_roundg gg;case measure=>omega
      case rel=>exact⟨j+1,by omega,by go_num,mU.out⟩
  |succ gg=>
   have mC:k<13:=by omega
   have ag:(k:Int)<(e:Int):=by omega
   have OV:(k:Int)<13:=by omega
   have dt:(0:Int)<=(k:Int):=by omega
   have wM:IntKind.i64.wrap ((k:Int)+1)=(k:Int)+1:=by rw[cy];omega
   have bL:=Tu.out wr V.out.2 k mC;have Qb:=bw.out k;have ax:=LR.out k;generalize n.B.getD k 0=x at *;by_cases hx:x=0
   ·have e0:(x==0)=true:=by rw[hx];rfl
    have aa:=au V.out.1;have iZ:=au V.out.2;rw[aC ⟨bJ,hx⟩] at Qb;have aY:=au Qb;have bX:=V.out.2.size;clear V Qb hx;generalize bk:fM n.B a k=L at *;generalize hq:L.length=q at *;have HQ:=au hq;clear bk hq;go_wp2_with(first|(go_at_call 150;refine(L6.out _).mono ?_;rintro e w1 ⟨rfl,rfl⟩)|(at_builtin;refine dO _ rfl _ _ 141 rfl W.heap.size 3 i0 (.int .i64 0) 1 8 underlying141 hi bH bo bv rfl (by decide) u10 q _ rfl (aa.out.alloc _) ⟨wr.heap.size,0,none⟩ 1 1 [.int .i64 (k:Int)] rfl rfl ?c1 ?c2 (by unfold maxLen;omega) (by omega) (by simp;omega) ?_));case c1=>exact jP _ [_] _ _ rfl
    case c2=>simp[Value.oneCell']
    intro v' w1 ae af bb;have O0:Hid (w1.ownsRow W.heap.size 3 1 v' (fM n.B a (k+1)).length (dE (fM n.B a (k+1)))/\az [] W w1):=by
     show _/\_;rw[aY.out,aD,HQ.out,sG];exact⟨ae,(iZ.out.alloc _).grown af (cZ aa.out)⟩
    clear ae af bb aa iZ aY HQ;go_wp2_with fail;go_roundg gg;case measure=>omega
    case rel=>exact⟨k+1,by omega,by omega,by go_num,O0⟩
   ·have e0:(x==0)=false:=by simpa using hx
    have O0:Hid (wr.ownsRow W.heap.size 3 1 u10 (fM n.B a (k+1)).length (dE (fM n.B a (k+1)))/\az [] W wr):=by
     show _/\_;rw[Qb,aB (λh=>hx h.2),bu];exact V.out
    clear V Qb hx;go_wp2_with(go_at_call 150;refine(L6.out _).mono ?_;rintro e w1 ⟨rfl,rfl⟩);go_roundg gg;case measure=>omega
    case rel=>exact⟨k+1,by omega,by omega,by go_num,O0⟩
end Go.Proofs.YtepbpdipenedhaaGreatDoor
