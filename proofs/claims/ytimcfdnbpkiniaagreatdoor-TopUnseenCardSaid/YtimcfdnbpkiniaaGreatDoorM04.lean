/- Lemmas. -/
import Derived.Test.YtimcfdnbpkiniaaGreatDoorM03
set_option maxHeartbeats 8000000
set_option maxRecDepth 100000
namespace Go.Proofs.YtimcfdnbpkiniaaGreatDoor
open Go.Proofs.Tryz
open Go.RowKit
variable{w:World}{v:Value}{s t:Int}{l:List Int}
theorem Qc{P:Program}{ty:TypeId}{k:IntKind}{z:Addr}(G:P.underlying ty=some (.int k))(J:w.cell? z=some v):(loadVar ty z).run P w= .ok v w:=by
 have h:(isAgg ty).run P w= .ok false w:=by
  unfold isAgg;rw[ck,dD G w];rfl
 simp[loadVar,h,J]
theorem FR (i:Int)(w:World):Calls prog 229 #[i] w λe w'=>e=(decide (DN i))/\w=w':=by
 by_cases G:0<i
 ·by_cases z:i<256
  ·rw[bq (show DN i from ⟨G,z⟩)]
   go_in;go_wp2;go_ret;exact⟨rfl,rfl⟩
  ·rw[aP (show ¬DN i from λh=>z h.2)]
   go_in;go_wp2;go_ret;exact⟨rfl,rfl⟩
 ·rw[aP (show ¬DN i from λh=>G h.1)]
  go_in;go_wp2;go_ret;exact⟨rfl,rfl⟩
theorem adM (p b n:Nat)(G:b<256)(z:p<256)(h:n<256):bits .or .u64 ((p:Int)*4294967296) ((b:Int)*256)=((p*4294967296+b*256:Nat):Int)/\bits .or .u64 ((p*4294967296+b*256:Nat):Int) (n:Int)=((p*4294967296+b*256+n:Nat):Int):=by
 constructor
 ·rw[show(p:Int)*4294967296=((p*4294967296:Nat):Int) by omega,show(b:Int)*256=((b*256:Nat):Int) by omega,u64_or_nat _ _ (by omega) (by omega),nat_join 32 _ _ (by exact Nat.mul_mod_left _ _) (show b*256<4294967296 by omega)]
 ·rw[u64_or_nat _ _ (by omega) (by omega),nat_join 8 _ _ (by omega) h]
theorem KR (p b n x y:Nat)(z:b<256)(h:p<256)(G:n<256)(q1:bits .or .u64 ((p:Int)*4294967296) ((b:Int)*256)=(y:Int))(q2:bits .or .u64 (y:Int) (n:Int)=(x:Int))(w:World):
  Calls prog 230 #[(p:Int),(b:Int),(n:Int)] w λe w'=>e= .returned (.int .u64 (x:Int))/\w=w':=by
 go_in;go_wp2;go_ret;exact⟨rfl,rfl⟩
theorem Qd (p b n:Nat)(z:b<256)(h:p<256)(G:n<256)(w:World):Calls prog 230 #[(p:Int),(b:Int),(n:Int)] w λe w'=>e= .returned (.int .u64 (zq p (b:Int) n))/\w=w':=by
 obtain⟨q1,q2⟩:=adM p b n z h G;have J:zq p (b:Int) n=((p*4294967296+b*256+n:Nat):Int):=by unfold zq;omega
 rw[J];exact KR p b n _ _ z h G q1 q2 w
def Words (w:World) (L:List Int) (v:Value) (h:World):Prop:=h.ownsRow (w.heap.size+1) 70 1 v L.length (aX L)/\L.length<=13/\ay [] w h
theorem Words.made{z:World}{L:List Int}(h:Words w L v z):jG w L (.returned v) z:=by
 obtain⟨g,G,U⟩:=fw.of_row h.1;by_cases J:L.length=0
 ·exact⟨v,w.heap.size,rfl,G.reads.anyG (by rw[bg J];rfl) _,aI _,h.2.2⟩
 ·exact⟨v,g,rfl,G.reads,by have :=(U J).1;omega,h.2.2⟩
theorem KS (l:List Int)(hl:l.length=13)(w:World):Calls prog 210 #[(zs l).toArray] w (jG w (fu l)):=by
 obtain⟨i0,hi,aL,aU,aR⟩:=df Tryz.info_u64;have aB:=bc.new w (zs l).toArray 73;have pO:=ar aB;have fG:Hid (ay [] w (w.alloc (.cells (zs l).toArray 73))):=(ay.refl _ _).alloc _;have aD:Hid (∀G k,k<13->ay [] (w.alloc (.cells (zs l).toArray 73)) G->G.cell? ⟨w.heap.size,k,none⟩=some (.int .i64 (l.getD k 0))):=λG k hk gD=>by
  rw[(aB.keep gD).cell,aG,gI (by omega)]
 clear aB;have HL:=ar hl;clear hl;generalize hz:(zs l).toArray=Z at *;clear hz;go_in;go_wp2_with fail;go_step3;go_wp2_with fail;go_step3;go_wp2_with fail;go_loopg [3,4] 13 (λgh s3 s4 G=>∃f:Nat,f+gh=13/\s4= .int .i64 (f:Int)/\Hid (G.ownsRow (w.heap.size+1) 70 1 s3 (gy l f).length (aX (gy l f))/\¬lT l f/\ay [] (w.alloc (.cells Z 73)) G))
 case atStart=>exact⟨0,by omega,rfl,⟨rfl,.inl ⟨rfl,rfl⟩⟩,λh=>absurd h.1 (by omega),ay.refl _ _⟩
 case round=>
  obtain⟨f,hf,rfl,HR⟩:=hrel;cases gk with
  |zero=>
   obtain rfl:f=13:=by omega
   have HM:Hid (jG w (fu l) (.returned u3) wr):=Words.made ⟨HR.out.1,mj l 13,fG.out.trans' HR.out.2.2⟩;clear hf HR;go_wp2_with fail;rw[Exit.noGoto_ret];go_ret;exact HM.out
  |succ gg=>
   have aH:f<13:=by omega
   have bl:(f:Int)<13:=by omega
   have bp:(0:Int)<=(f:Int):=by omega
   have aQ:=aD.out wr f aH HR.out.2.2;have av:=ar (FR (l.getD f 0));by_cases hB:DN (l.getD f 0)
   ·rw[bq hB] at av
    have aO:Hid (sO l f):=⟨hB,HR.out.2.1⟩;have HB:=ar hB;have bo:0<l.getD f 0:=hB.1;have bb:l.getD f 0<256:=hB.2;obtain⟨ac,jD,aV⟩:=hh3 HR.out.1 HR.out.2.2 (mj l f);clear HR hB;generalize J:l.getD f 0=x at *;have HX:=ar J;clear J;go_wp2_with fail;refine C' (av.out _) ?_;go_wp2_with fail;clear aQ;obtain⟨a,cap,rfl,q1,q2⟩:=iT ac.out;go_loopg [3,4,5] (12-f) (λgh s3 s4 s5 G=>∃j:Nat,s3= .slice a (gy l f).length cap/\s4= .int .i64 (f:Int)/\j+gh=13/\s5= .int .i64 (j:Int)/\Hid (f<j/\(∀i,f<i->i<j->lT l i)/\G.ownsRow (w.heap.size+1) 70 1 (.slice a (gy l f).length cap) (gy l f).length (aX (gy l f))/\ay [] (w.alloc (.cells Z 73)) G))
    case atStart=>exact⟨f+1,rfl,rfl,by omega,by go_num,by omega,λi h1 h2=>by omega,ac.out,jD.out⟩
    case round=>
     clear ac jD;obtain⟨j,rfl,rfl,hj,rfl,HR⟩:=hrel;obtain⟨ak,XQ,aA,gD⟩:=HR.out;obtain⟨XR,ac,jD⟩:=hh3 XQ aA gD;have Co:(0:Int)<=(j:Int):=by omega
     have aK:DN (l.getD f 0):=by rw[HX.out];exact HB.out
     have L5:=ar (XM aK ak XQ);have aT:=gD.size;clear HR aA XQ gD aK;have mO:Hid (∀G k,k<13->ay [] wr G->(loadVar 3 ⟨w.heap.size,k,none⟩).run prog G= .ok (.int .i64 (l.getD k 0)) G):=λG k hk gD=>Qc underlying3 (aD.out G k hk (jD.out.trans' gD))
     by_cases XS:j<13;have aN:(j:Int)<13:=by omega
     have T6:=ar (FR (l.getD j 0));obtain⟨y,hy⟩:∃y,y=l.getD j 0:=⟨_,rfl⟩;obtain⟨z,hz⟩:∃z,z=l.getD (j-1) 0:=⟨_,rfl⟩;rw[<-hy] at T6;rw[<-hy,<-hz] at L5;have au:Hid (∀G,ay [] wr G->(loadVar 3 ⟨w.heap.size,j,none⟩).run prog G= .ok (.int .i64 y) G):=λG hk=>by rw[hy];exact mO.out G j XS hk
     obtain⟨q,hq⟩:∃q,q=j-1:=⟨_,rfl⟩;have aF:DN z:=by
      have :DN (l.getD f 0):=by rw[HX.out];exact HB.out
      rw[hz];exact Sn this XR.out (j-1) (by omega) (by omega)
     have aJ:Hid (∀G,ay [] wr G->(loadVar 3 ⟨w.heap.size,q,none⟩).run prog G= .ok (.int .i64 z) G):=λG hk=>by rw[hz,hq];exact mO.out G (j-1) (by omega) hk
     have bg:(j:Int)-1=(q:Int):=by omega
     have aW:IntKind.i64.wrap (q:Int)=(q:Int):=fR _ (by omega);have bn:(0:Int)<=(q:Int):=by omega
     have aY:(q:Int)<13:=by omega
     have bh:IntKind.i64.wrap (z+1)=z+1:=fR _ (by have :=aF.1;have :=aF.2;omega);clear hy hz mO hq aF;have af:(j<13)=True:=eq_true XS;by_cases hY:DN y;rw[bq hY] at T6;by_cases aa:y=z+1
     ·have hC:lT l j:=L5.out.2 ⟨XS,hY,aa⟩
      have HN:Hid (f<j+1/\(∀i,f<i->i<j+1->lT l i)/\ay [] wr wr):=by
       refine⟨by omega,λi h1 h2=> ?_,ay.refl _ _⟩;by_cases e:i=j
       ·subst e;exact hC
       ·exact XR.out i h1 (by omega)
      have U:(y==z+1)=true:=by simp[aa]
      clear hC L5 aa;go_wp2_with fail;refine iW (S:=λG=>ay [] wr G) ((ay.refl _ _).drew) ?_;repeat (
       (first
       |(refine aS.cons (.int .i64 y) (bG.load rfl 3 (.tmp 23) rfl _ rfl λG J=>au.out G J) ?_)
       |(refine aS.cons (.int .i64 y) (bG.load rfl 3 (.tmp 29) rfl _ rfl λG J=>au.out G J) ?_)
       |(refine aS.cons (.int .i64 z) (bG.load rfl 3 (.tmp 33) rfl _ rfl λG J=>aJ.out G J) ?_)
       |(refine aS.cons (.bool true) (bG.call rfl 229 #[(y:Int)] ?V ?h) ?_;(case V=>(intro wz;go_simp));(case h=>exact λG J=>(T6.out G).mono λe w' V=>⟨V.1,V.2▸J⟩))
       |(refine aS.cons undef (bG.off rfl) ?_)
       |(with_reducible show aS _ _ _ _ (⟨_,_,4,_,_,_⟩::_) _;refine aS.cons (.bool true) (bG.val rfl ?h) ?_;(case h=>(intro G J;clear J;first|(go_simp;done)|(go_simp;simp[af,U];done))))
       |(with_reducible show aS _ _ _ _ (⟨_,_,4,_,_,_⟩::_) _;refine aS.cons (.bool false) (bG.val rfl ?h) ?_;(case h=>(intro G J;clear J;first|(go_simp;done)|(go_simp;simp[af,U];done))))
       |(refine aS.cons ?_ (bG.val rfl ?h) ?_;(case h=>(intro G J;clear J;go_simp;rfl))));simp only[Act.put,ag,ah,ai])
      refine aS.done λG J=> ?_
      obtain⟨tT,JB⟩:=hh2 J (ey ac.out J (by simp));clear J;go_wp2;go_roundg (gk-1);case measure=>omega
      case rel=>exact⟨j+1,rfl,rfl,by omega,by go_num,HN.out.1,HN.out.2.1,JB.out,jD.out.trans' tT.out⟩
     have az:Hid (¬lT l j):=λh=>aa (L5.out.1 h).2.2
     have ax:=ar ak;have U:(y==z+1)=false:=cg.2 aa;clear L5 aa
     rotate_left
     have az:Hid (¬lT l j):=λh=>hY (L5.out.1 h).2.1
     have ax:=ar ak;rw[aP hY] at T6;have U:(1:Int)=1:=rfl;clear L5 hY
     rotate_left
     have az:Hid (¬lT l j):=λh=>XS (L5.out.1 h).1
     have ax:=ar ak;have af:(j<13)=False:=eq_false XS;have aN:¬(j:Int)<13:=by omega
     have U:(1:Int)=1:=rfl;clear L5 mO
     rotate_left
     all_goals
      go_wp2_with fail;refine iW (S:=λG=>ay [] wr G) ((ay.refl _ _).drew) ?_;repeat (
       (first
       |(refine aS.cons (.int .i64 y) (bG.load rfl 3 (.tmp 23) rfl _ rfl λG J=>au.out G J) ?_)
       |(refine aS.cons (.int .i64 y) (bG.load rfl 3 (.tmp 29) rfl _ rfl λG J=>au.out G J) ?_)
       |(refine aS.cons (.int .i64 z) (bG.load rfl 3 (.tmp 33) rfl _ rfl λG J=>aJ.out G J) ?_)
       |(refine aS.cons (.bool true) (bG.call rfl 229 #[(y:Int)] ?V ?h) ?_;(case V=>(intro wz;go_simp));(case h=>exact λG J=>(T6.out G).mono λe w' V=>⟨V.1,V.2▸J⟩))
       |(refine aS.cons (.bool false) (bG.call rfl 229 #[(y:Int)] ?V ?h) ?_;(case V=>(intro wz;go_simp));(case h=>exact λG J=>(T6.out G).mono λe w' V=>⟨V.1,V.2▸J⟩))
       |(refine aS.cons undef (bG.off rfl) ?_)
       |(with_reducible show aS _ _ _ _ (⟨_,_,4,_,_,_⟩::_) _;refine aS.cons (.bool true) (bG.val rfl ?h) ?_;(case h=>(intro G J;clear J;first|(go_simp;done)|(go_simp;simp[af,U];done))))
       |(with_reducible show aS _ _ _ _ (⟨_,_,4,_,_,_⟩::_) _;refine aS.cons (.bool false) (bG.val rfl ?h) ?_;(case h=>(intro G J;clear J;first|(go_simp;done)|(go_simp;simp[af,U];done))))
       |(refine aS.cons ?_ (bG.val rfl ?h) ?_;(case h=>(intro G J;clear J;go_simp;rfl))));simp only[Act.put,ag,ah,ai])
      refine aS.done λG J=> ?_
      obtain⟨JB,tT⟩:=hh2 (ey ac.out J (by simp)) (jD.out.trans' J);have WS:=aD.out G f aH (jD.out.trans' J);rw[HX.out] at WS;have bj:w.heap.size+1<=G.heap.size:=by have :=J.size;simp at aT;omega
      clear J;obtain⟨b,hb⟩:∃b:Nat,x=(b:Int):=⟨x.toNat,by omega⟩;obtain⟨n,hn⟩:∃n:Nat,n=j-f:=⟨_,rfl⟩;have ba:(j:Int)-(f:Int)=(n:Int):=by omega
      have bf:IntKind.i64.wrap (n:Int)=(n:Int):=fR _ (by omega);have MT:=ar (Qd f b n (by omega) (by omega) (by omega));have xo:Hid (gy l j=gy l f++[zq f (b:Int) n]):=by
       have :=Qa aO.out ax.out (by omega) XR.out az.out;rw[HX.out,hb] at this;rw[hn];exact this
      rw[hb] at WS;have aI:Hid (j<=13/\n=j-f):=⟨by omega,hn⟩;have aM:=ar hf;clear hb hn hf;generalize zq f (b:Int) n=W,hL:gy l f=L at *;have bk:=ar hL;clear hL;have rW:=ar (show L.length<=13 by have :=aV.out;omega);go_wp2_with fail;refine C' (MT.out _) ?_;have aZ:=rW.out;go_wp2_with(at_builtin;refine eO _ rfl _ _ 65 rfl (w.heap.size+1) 70 i0 (.int .u64 0) 1 8 underlying65 hi aL aU aR rfl (by decide) (.slice a L.length cap) L.length _ rfl (JB.out.alloc _) ⟨G.heap.size,0,none⟩ 1 1 [.int .u64 W] rfl rfl ?c1 ?c2 (by unfold maxLen;omega) (by omega) (by simp;omega) ?_);case c1=>exact lu _ [_] _ _ rfl
      case c2=>simp[Value.oneCell']
      intro v' w1 ae aj _;obtain⟨MI,jv⟩:=hh2 ae ((tT.out.alloc _).grown aj (λk hk=>by have :=dO JB.out k hk;simpa using this));clear ae aj;go_wp2;go_roundg (13-j);case measure=>have :=aM.out;have :=ax.out;have :=aI.out.1;omega
      case rel=>
       refine⟨j,by have :=aI.out.1;omega,by go_num,?_,az.out,jv.out⟩;have :=MI.out;rw[xo.out,aC,ua];exact this
   ·rw[aP hB] at av
    have XT:¬lT l (f+1):=λh=>hB h.2.2.2.1
    have HN:Hid (wr.ownsRow (w.heap.size+1) 70 1 u3 (gy l (f+1)).length (aX (gy l (f+1)))/\¬lT l (f+1)/\ay [] (w.alloc (.cells Z 73)) wr):=by
     refine⟨?_,XT,HR.out.2.2⟩;rw[MR hB];exact HR.out.1
    clear HR hB XT;generalize l.getD f 0=x at *;go_wp2_with fail;refine C' (av.out _) ?_;go_wp2;go_roundg gg;case measure=>omega
    case rel=>exact⟨f+1,by omega,by go_num,HN.out⟩
theorem Bb (a s:Nat)(W:a<=1000000)(J:1<=s)(U:s<=1000000)(w:World):Calls prog 174 #[(a:Int),(s:Int)] w λe w'=>e=(((a+s-1)/s:Nat):Int)/\w=w':=by
 have h:(s:Int)≠0:=by omega
 have z:¬(s:Int)= -1:=by omega
 have V:((a:Int)+s-1).tdiv s=(((a+s-1)/s:Nat):Int):=by
  rw[show(a:Int)+s-1=((a+s-1:Nat):Int) by omega,Int.ofNat_tdiv]
 have G:(a+s-1)/s<=2000000:=cL (Nat.div_le_self _ _) (by omega);generalize (a+s-1)/s=q at *;go_in;go_wp2;go_ret;exact⟨rfl,rfl⟩
theorem Sr (l:List Int)(c:Nat)(hl:l.length=13)(hc:c<=13)(w:World):Calls prog 173 #[(zs l).toArray,(c:Int)] w λe w'=>e=(zs (jn l c)).toArray/\ay [] w w':=by
 have ac:=bc.new w (zs l).toArray 73;have ae:=ac.alloc (.cells (zs (List.replicate 13 0)).toArray 73);obtain⟨off,cap,hs,ho⟩:=P8 w.heap.size c hc ((w.alloc (.cells (zs l).toArray 73)).alloc (.cells (zs (List.replicate 13 0)).toArray 73));obtain⟨w1,aa,G,z⟩:=P9 (off:=off) (cap:=cap) ae hl hc ho;have U:bc ((w.alloc (.cells (zs l).toArray 73)).alloc (.cells (zs (List.replicate 13 0)).toArray 73)) (w.heap.size+1) (zs (List.replicate 13 0)).toArray 73 :=by
  simpa using bc.new (w.alloc (.cells (zs l).toArray 73)) (zs (List.replicate 13 0)).toArray 73
 have af:=U.keep z;have h:=nI hl hc;have hL:=fy (off:=0) G h (λk hk=>by rw[bp,aG,gI (by omega)]);obtain⟨w2,hS,W,V⟩:=bE (P:= prog) (ty:= 73) (cs:=zs (jn l c)) (by rw[eT,h];exact lS) af (by simp[eT,h]) (nt _);have J:=fy (off:=0) W h (λk hk=>by rw[bp,aG,gI (by omega)]);have HK:Hid (ay [] w w2):=((((ay.refl [] w).alloc _).alloc _).trans z).trans V;obtain⟨HL,HS,rJ⟩:=hh3 hL hS J;have ah:=pd;have ag:=aa 0;clear ac ae U af hL hS J aa G z W V ho;generalize (zs (jn l c)).toArray=Y,(zs (List.replicate 13 0)).toArray=Z0,(zs l).toArray=Z at *;go_in;go_wp2_with(with_reducible first|refine gL 73 HL.out ?_|refine gS 73 HS.out ?_);exact aH (bu results173 rfl rJ.out) rfl ⟨rfl,HK.out⟩
theorem Qe (b:Nat)(w:World):(Instr.sliceAt 73 (.pointer (some ⟨b,0,none⟩)) (some (.int .i64 5)) none none).run prog w= .ok (.slice (some ⟨b,5,none⟩) 8 8) w:=by show Sem.run _ _ _=_;kernel_rfl
theorem MU (a:Option Addr)(w:World):(Instr.arrayAt 249 (.slice a 8 8)).run prog w= .ok (.pointer a) w:=by show Sem.run _ _ _=_;kernel_rfl
theorem KT (l:List Int)(hl:l.length=13)(w:World):Calls prog 204 #[(zs l).toArray] w λe w'=>e=(zs (l.drop 5)).toArray/\ay [] w w':=by
 have U:=bc.new w (zs l).toArray 73;have V:=U.alloc (.cells (zs (List.replicate 8 0)).toArray 249);have z:bc ((w.alloc (.cells (zs l).toArray 73)).alloc (.cells (zs (List.replicate 8 0)).toArray 249)) (w.heap.size+1) (zs (List.replicate 8 0)).toArray 249 :=by
  simpa using bc.new (w.alloc (.cells (zs l).toArray 73)) (zs (List.replicate 8 0)).toArray 249
 have W:(l.drop 5).length=8:=by simp[hl]
 have hL:=Sk (off:=5) V W (λk hk=>by rw[aG,gI (by omega)];simp);obtain⟨w2,hS,J,G⟩:=bE (P:= prog) (ty:= 249) (cs:=zs (l.drop 5)) (by rw[eT,W];exact Sj) z (by simp[eT,hl]) (nt _);have h:=Sk (off:=0) J W (λk hk=>by rw[bp,aG,gI (by omega)]);have HK:Hid (ay [] w w2):=(((ay.refl [] w).alloc _).alloc _).trans G;obtain⟨HL,HS,rJ⟩:=hh3 hL hS h;have ac:=KM;have aa:=Qe w.heap.size;have ae:=MU;clear U V z hL hS h J G;generalize (zs (l.drop 5)).toArray=Y,(zs (List.replicate 8 0)).toArray=Z0,(zs l).toArray=Z at *;go_in;go_wp2_with(with_reducible first|refine gL 249 HL.out ?_|refine gS 249 HS.out ?_);exact aH (bu results204 rfl rJ.out) rfl ⟨rfl,HK.out⟩
theorem sP (n:bS)(a:Option Addr)(cap:Nat)(G:n.B.length=13)(V:n.E.length<=100000)(w:World):Calls prog 179 #[aL n (.slice a n.E.length cap)] w λe w'=>e=((bj n.E.length:Nat):Int)/\ay [] w w':=by
 have h:=bc.new w (aL n (.slice a n.E.length cap)) 75;have J:(w.alloc (.cells (aL n (.slice a n.E.length cap)) 75)).cell? ⟨w.heap.size,17,none⟩=some (.slice a n.E.length cap):=by rw[h.cell];exact Aa _ G
 have z:=ar (Bb n.E.length 4 (by omega) (by omega) (by omega));have U:Hid (ay [] w (w.alloc (.cells (aL n (.slice a n.E.length cap)) 75))):=(ay.refl [] w).alloc _;clear h G;generalize aL n (.slice a n.E.length cap)=Z at *;unfold bj;generalize n.E.length=m at *;rw[show m+4-1=m+3 by omega] at z;go_in;go_wp2_with fail;refine C' (z.out _) ?_;go_wp2;go_ret;exact⟨rfl,U.out⟩
def eV (n:bS):Nat:=if 5<bj n.E.length\/n.B.drop 5≠List.replicate 8 0 then bj n.E.length+1 else bj n.E.length
theorem Ss (n:bS)(a:Option Addr)(cap:Nat)(z:n.B.length=13)(hE:n.E.length<=100000)(w:World):Calls prog 181 #[aL n (.slice a n.E.length cap)] w λe w'=>e=((eV n:Nat):Int)/\ay [] w w':=by
 obtain⟨G,HR⟩:=hh2 (sP n a cap z hE) (KT n.B z);have vW:=KM;have MV:=MM;have Iz:=ar (λJ=>ac8 (a:=n.B.drop 5) (b:=List.replicate 8 0) (by simp[z]) rfl J);have fG:Hid (ay [] w (w.alloc (.cells (aL n (.slice a n.E.length cap)) 75))):=(ay.refl [] w).alloc _;have pO:Hid (bc (w.alloc (.cells (aL n (.slice a n.E.length cap)) 75)) w.heap.size (aL n (.slice a n.E.length cap)) 75):=bc.new _ _ _;obtain⟨uP,rW⟩:=hh2 (λ(J:World) (hb:bc J w.heap.size (aL n (.slice a n.E.length cap)) 75)=>bZ hb z) (λ(J:World) (hb:bc J w.heap.size (aL n (.slice a n.E.length cap)) 75)=>fy (off:=4) hb z λk hk=>Cr _ (by omega));have IA:=ar (uP.out _ pO.out);have aa:bj n.E.length<=1000000:=by unfold bj;omega
 unfold eV;generalize hd:n.B.drop 5=d,aL n (.slice a n.E.length cap)=Z,(zs n.B).toArray=ZB at *;clear hd z hE;generalize bj n.E.length=m at *;by_cases hm:5<m
 ·have W:(5:Int)<(m:Int):=by omega
  rw[aB (.inl hm)];go_in;go_wp2_with(with_reducible refine gL 75 IA.out ?_);refine Rr (G.out _) λw1 h=> ?_;have jv:=ar (fG.out.trans h);clear h;go_wp2;go_ret;exact⟨rfl,jv.out⟩
 ·have W:¬(5:Int)<(m:Int):=by omega
  obtain⟨t,ht⟩:∃t,decide (d=List.replicate 8 0)=t:=⟨_,rfl⟩;rw[ht] at Iz;have V:(if 5<m\/d≠List.replicate 8 0 then m+1 else m)=if t=true then m else m+1:=by
   rw[<-ht];generalize List.replicate 8 (0:Int)=z8;by_cases hd:d=z8
   ·simp[hd,hm]
   ·simp[hd]
  rw[V];clear V ht;generalize (zs (List.replicate 8 0)).toArray=Z8,(zs d).toArray=ZD at *;go_in;go_wp2_with(with_reducible refine gL 75 IA.out ?_);refine Rr (G.out _) λw1 h=> ?_;obtain⟨jv,zC⟩:=hh2 (fG.out.trans h) (pO.out.keep h);have zn:=ar (rW.out _ zC.out);have ac:=Iz.out;clear h IA;cases t;all_goals
   go_wp2_with(first|((with_reducible show wpList _ _ _ (⟨_,.load 73 (.tmp 9),_,_,_,_⟩::_) _ _);refine eB (by simp[Region.wanted,yielded,W]) 73 (.tmp 9) rfl _ rfl _ zn.out ?_)|(go_at_call 204;refine Rr (HR.out _) λw2 U=> ?_;have fC:=ar (jv.out.trans U);clear U));go_ret;exact⟨rfl,fC.out⟩
theorem T7 (w:World):(zeroValue 246).run prog w= .ok (.agg (bools (List.replicate 256 false)).toArray) w:=by kernel_rfl
theorem Ex (l:List Int)(hl:l.length=13)(w:World):Calls prog 175 #[(zs l).toArray] w λe w'=>e=(decide (lh l))/\ay [] w w':=by
 have ae:=bc.new w (zs l).toArray 73;have hL:=fy (off:=0) (ae.alloc (.cells (bools (List.replicate 256 false)).toArray 246)) hl (λk hk=>by rw[bp,aG,gI (by omega)]);have HZ:Hid (∀k,k<13->(zs l).toArray[k]? =some (.int .i64 (l.getD k 0))):=λk hk=>by rw[aG,gI (by omega)]
 have HL:=ar hL;have HB:Hid (bc ((w.alloc (.cells (zs l).toArray 73)).alloc (.cells (bools (List.replicate 256 false)).toArray 246)) (w.heap.size+1) (bools (List.replicate 256 false)).toArray 246):=by
  have :=bc.new (w.alloc (.cells (zs l).toArray 73)) (bools (List.replicate 256 false)).toArray 246;have e:(w.alloc (.cells (zs l).toArray 73)).heap.size=w.heap.size+1:=by simp
  rw[e] at this;exact this
 have HK:Hid (ay [] w ((w.alloc (.cells (zs l).toArray 73)).alloc (.cells (bools (List.replicate 256 false)).toArray 246))):=((ay.refl _ _).alloc _).alloc _;have ac:=T7;rw[FK l] at HB HK HL;rw[FK l] at ac;clear ae hL hl;generalize aa:(bools (sM l 0)).toArray=S0,(zs l).toArray=Z at *;go_in;go_wp2_with(with_reducible refine gL 73 HL.out ?_);clear ac HL;go_loopg [7] 13 (λgh s7 wx=>∃k:Nat,k+gh=13/\s7= .int .i64 (k:Int)/\Hid (bc wx (w.heap.size+1) (bools (sM l k)).toArray 246/\(∀i,i<k->(0<=l.getD i 0/\l.getD i 0<256)/\(l.getD i 0≠0->∀j,j<i->l.getD j 0≠l.getD i 0))/\ay [] w wx))
 case atStart=>exact⟨0,by omega,rfl,by rw[aa];exact HB.out,by simp,HK.out⟩
 case round=>
  clear HB HK aa;obtain⟨k,hk,rfl,HR⟩:=hrel;cases gk with
  |zero=>
   obtain rfl:k=13:=by omega
   have HT:Hid (decide (lh l)=true):=bq HR.out.2.1;have jD:=ar HR.out.2.2;clear HR hk;go_wp2;go_ret;exact⟨by rw[HT.out];rfl,jD.out⟩
  |succ gg=>
   have lZ:k<13:=by omega
   have ak:(k:Int)<13:=by omega
   have cM:(0:Int)<=(k:Int):=by omega
   have af:=yL lZ (HZ.out k lZ);have HN:Hid (lh l->(0<=l.getD k 0/\l.getD k 0<256)/\(l.getD k 0≠0->∀j,j<k->l.getD j 0≠l.getD k 0)):=λh=>h k lZ
   obtain⟨T8,U,jD⟩:=hh3 (λc he=>P7 l k c he) (λc hc=>TW l k c hc) HR.out.2.2;by_cases z:l.getD k 0<0
   ·have HF:Hid (decide (lh l)=false):=aP λh=>by have :=(HN.out h).1;omega
    clear HR HN T8 U hk;generalize l.getD k 0=x at *;go_wp2;go_ret;exact⟨by rw[HF.out];rfl,jD.out⟩
   ·by_cases G:256<=l.getD k 0
    ·have HF:Hid (decide (lh l)=false):=aP λh=>by have :=(HN.out h).1;omega
     clear HR HN T8 U hk;generalize l.getD k 0=x at *;go_wp2;go_ret;exact⟨by rw[HF.out];rfl,jD.out⟩
    ·obtain⟨c,hc⟩:∃c:Nat,l.getD k 0=(c:Int):=⟨(l.getD k 0).toNat,by omega⟩
     rw[hc] at af z G;have V:c<256:=by omega
     have ah:(c:Int)<256:=by omega
     have aj:(0:Int)<=(c:Int):=by omega
     obtain⟨hb,J,-⟩:=HR.out;have W:wr.cell? ⟨w.heap.size+1,c,none⟩=some (.bool ((sM l k).getD c false)):=by
      rw[hb.cell,aG,uI (by rw[yN];exact V)]
     have hf:wr.frozen? ⟨w.heap.size+1,c,none⟩=false:=hb.frozen c;have oD:Hid (bc (wr.setCell ⟨w.heap.size+1,c,none⟩ (.bool true)) (w.heap.size+1) (bools (sM l (k+1))).toArray 246):=by
      have :=hb.set c (.bool true);rw[ag,Ce,T8.out c hc] at this;exact this
     have FT:=U.out c V;have xj:=ar J;by_cases h0:c=0
     ·subst h0
      have XU:Hid (∀i,i<k+1->(0<=l.getD i 0/\l.getD i 0<256)/\(l.getD i 0≠0->∀j,j<i->l.getD j 0≠l.getD i 0)):=λi hi=>by
       by_cases e:i=k
       ·subst e
        rw[hc];exact⟨by decide,λh=>absurd rfl h⟩
       ·exact xj.out i (by omega)
      clear HR HN T8 U hb J FT xj z G hc;generalize (sM l k).getD 0 false=sv at *;go_wp2;go_roundg gg;case measure=>omega
      case rel=>exact⟨k+1,by omega,by go_num,oD.out,XU.out,jD.out.setCell (by simp) _⟩
     ·have au:((c:Int) != 0)=true:=by simp;omega
      cases hsv:(sM l k).getD c false
      ·have XU:Hid (∀i,i<k+1->(0<=l.getD i 0/\l.getD i 0<256)/\(l.getD i 0≠0->∀j,j<i->l.getD j 0≠l.getD i 0)):=λi hi=>by
        by_cases e:i=k
        ·subst e
         rw[hsv] at FT;have ai:=of_decide_eq_false FT.symm;rw[hc];exact⟨⟨aj,ah⟩,λ_ j hj e=>ai ⟨j,hj,e⟩⟩
        ·exact xj.out i (by omega)
       rw[hsv] at W;clear HR HN T8 U hb J FT xj z G hc hsv;go_wp2;go_roundg gg;case measure=>omega
       case rel=>exact⟨k+1,by omega,by go_num,oD.out,XU.out,jD.out.setCell (by simp) _⟩
      ·rw[hsv] at FT W
       obtain⟨j,hj,he⟩:=of_decide_eq_true FT.symm;have HF:Hid (decide (lh l)=false):=aP λh=>(HN.out h).2 (by omega) j hj (by rw[he,hc])
       clear HR HN T8 U hb J FT xj z G hc hsv hk he;go_wp2;go_ret;exact⟨by rw[HF.out];rfl,jD.out⟩
theorem KU (n:bS)(a:Option Addr)(cap:Nat)(V:n.B.length=13)(w:World):Calls prog 143 #[aL n (.slice a n.E.length cap)] w λe w'=>e=(decide (qM n))/\ay [] w w':=by
 obtain⟨Z,hZ⟩:∃Z,Z=aL n (.slice a n.E.length cap):=⟨_,rfl⟩;have U:Sg Z n (.slice a n.E.length cap):=by rw[hZ];exact fT _ V
 rw[<-hZ];have W:=bc.new w Z 75;have c3:(w.alloc (.cells Z 75)).cell? ⟨w.heap.size,3,none⟩=some (.int .i64 n.S):=by rw[W.cell];exact U.f3
 have aa:(w.alloc (.cells Z 75)).cell? ⟨w.heap.size,17,none⟩=some (.slice a n.E.length cap):=by rw[W.cell];exact U.f5
 have HK:Hid (ay [] w (w.alloc (.cells Z 75))):=(ay.refl [] w).alloc _;have pO:=ar W;have rW:Hid (∀z:World,bc z w.heap.size Z 75->(loadVar 73 ⟨w.heap.size,4,none⟩).run prog z= .ok (.agg (zs n.B).toArray) z):=λz hb=>fy (off:=4) hb V U.f4
 have JC:Hid (∀z:World,bc z w.heap.size Z 75->(loadVar 3 ⟨w.heap.size,3,none⟩).run prog z= .ok (.int .i64 n.S) z):=λz hb=>FL (off:=3) underlying3 hb U.f3
 clear W hZ;by_cases h0:n.S<0
 ·have HF:Hid (decide (qM n)=false):=aP λh=>by have :=h.1.1;omega
  generalize n.S=s at *;clear V;go_in;go_wp2;go_ret;exact⟨by rw[HF.out];rfl,HK.out⟩
 ·by_cases h1:832<n.S
  ·have HF:Hid (decide (qM n)=false):=aP λh=>by have :=h.1.2;omega
   generalize n.S=s at *;clear V;go_in;go_wp2;go_ret;exact⟨by rw[HF.out];rfl,HK.out⟩
  ·by_cases h2:n.E.length=0
   ·have HP:=ar (Bb n.S.toNat 64 (by omega) (by omega) (by omega))
    have T9:bF n.S.toNat<=13:=by unfold bF;omega
    rw[show(n.S.toNat+64-1)/64=bF n.S.toNat by unfold bF;congr 1] at HP;obtain⟨HU,HN,HE⟩:=hh3 (Sr n.B (bF n.S.toNat) V T9) (Ex n.B V) (λz=>P6 (a:=n.B) (b:=jn n.B (bF n.S.toNat)) V (nI V T9) z);have ac:=Cs;have HD:Hid (decide (qM n)=(decide (n.B=jn n.B (bF n.S.toNat))&&decide (lh n.B))):=by
     have Ua:qM n↔(n.B=jn n.B (bF n.S.toNat)/\lh n.B):=⟨λh=>⟨h.2.2.1,h.2.2.2⟩,λh=>⟨⟨by omega,by omega⟩,h2,h.1,h.2⟩⟩;show _=_;rw[decide_eq_decide.2 Ua,Bool.decide_and]
    obtain⟨s,hs⟩:∃s:Nat,n.S=(s:Int):=⟨n.S.toNat,by omega⟩;rw[h2] at aa;rw[hs] at h0 h1 c3 JC HP HD HE HU T9;rw[aF] at HP HU HE HD T9;generalize bF s=p at *;obtain⟨t,ht⟩:∃t,decide (n.B=jn n.B p)=t:=⟨_,rfl⟩;rw[ht] at HD HE;generalize decide (lh n.B)=q,(zs (jn n.B p)).toArray=ZU,(zs n.B).toArray=ZB at *;have ae:=HE.out;clear ht V hs HE h2 U;cases t;all_goals
     go_in;go_wp2_with fail;refine iW (S:=λz=>ay [] (w.alloc (.cells Z 75)) z) ((ay.refl _ _).drew) ?_;repeat (
      (first
      |(refine aS.cons (.agg ZB) (bG.load rfl 73 (.tmp 17) rfl _ rfl λz G=>rW.out _ (pO.out.keep G)) ?_)
      |(refine aS.cons (.agg ZB) (bG.load rfl 73 (.tmp 19) rfl _ rfl λz G=>rW.out _ (pO.out.keep G)) ?_)
      |(refine aS.cons _ (bG.load rfl 3 (.tmp 21) rfl _ rfl λz G=>JC.out _ (pO.out.keep G)) ?_)
      |(refine aS.cons (.int .i64 (p:Int)) (bG.call rfl 174 #[(s:Int),(64:Int)] ?J ?h) ?_;(case J=>(intro wz;go_simp));(case h=>exact λz G=>(HP.out z).mono λe w' J=>⟨J.1,by rw[<-J.2];exact G⟩))
      |(refine aS.cons (.agg ZU) (bG.call rfl 173 #[ZB,(p:Int)] ?J ?h) ?_;(case J=>(intro wz;go_simp));(case h=>exact λz G=>(HU.out z).mono λe w' J=>⟨J.1,G.trans' J.2⟩))
      |(refine aS.cons (.agg ZB) (bG.load rfl 73 (.tmp 27) rfl _ rfl λz G=>rW.out _ (pO.out.keep G)) ?_)
      |(refine aS.cons (.bool q) (bG.call rfl 175 #[ZB] ?J ?h) ?_;(case J=>(intro wz;go_simp));(case h=>exact λz G=>(HN.out z).mono λe w' J=>⟨J.1,G.trans' J.2⟩))
      |(refine aS.cons undef (bG.off rfl) ?_)
      |(refine aS.cons ?_ (bG.val rfl ?h) ?_;(case h=>(intro z G;go_simp;rfl))));simp only[Act.put,ag,ah,ai])
     refine aS.done λwz hz=> ?_
     have HZ:=ar (HK.out.trans' hz);clear hz;go_wp2;go_ret;exact⟨by rw[HD.out];rfl,HZ.out⟩
   ·have HF:Hid (decide (qM n)=false):=aP λh=>h2 h.2.1
    have e2:((n.E.length:Nat):Int)≠0:=by omega
    have e3:(((n.E.length:Nat):Int) != 0)=true:=bne_iff_ne.2 e2;generalize n.S=s,n.E.length=m at *;clear V U;go_in;go_wp2;go_ret;exact⟨by rw[HF.out];rfl,HK.out⟩
def adO (l:List Int):Prop:=∀k,0<=l.getD k 0/\l.getD k 0<9223372036854775808
theorem nu{x:Int}(z:0<=x)(h:x<9223372036854775808):IntKind.u64.wrap x=x:=by rw[fW];omega
theorem Qf (l:List Int)(hl:l.length=13)(hn:adO l)(w:World):Calls prog 184 #[(zs l).toArray] w λe w'=>e=(aX (l.drop 5)).toArray/\ay [] w w':=by
 have V:(l.drop 5).length=8:=by simp[hl]
 have af:Hid (∀k,0<=(l.drop 5).getD k 0/\(l.drop 5).getD k 0<9223372036854775808):=λk=>by
  have :=hn (5+k);simpa[aj] using this
 have HR:=ar (KT l hl);have ae:=bc.new w (zs l).toArray 73;have xz:(aX (List.replicate 8 0)).toArray=(aX (eH 0 (l.drop 5) 0)).toArray:=by rw[l8,V]
 obtain⟨J,h⟩:∃J,J=((w.alloc (.cells (zs l).toArray 73)).alloc (.cells (aX (List.replicate 8 0)).toArray 132)).alloc (.cells (aX (List.replicate 8 0)).toArray 132):=⟨_,rfl⟩;have oD:Hid (bc J (w.heap.size+1) (aX (List.replicate 8 0)).toArray 132):=by
  have :=(bc.new (w.alloc (.cells (zs l).toArray 73)) (aX (List.replicate 8 0)).toArray 132).alloc (.cells (aX (List.replicate 8 0)).toArray 132);have e:(w.alloc (.cells (zs l).toArray 73)).heap.size=w.heap.size+1:=by simp
  rw[e,<-h] at this;exact this
 have qC:Hid (bc J (w.heap.size+2) (aX (eH 0 (l.drop 5) 0)).toArray 132):=by
  have :=bc.new ((w.alloc (.cells (zs l).toArray 73)).alloc (.cells (aX (List.replicate 8 0)).toArray 132)) (aX (List.replicate 8 0)).toArray 132;have e:((w.alloc (.cells (zs l).toArray 73)).alloc (.cells (aX (List.replicate 8 0)).toArray 132)).heap.size=w.heap.size+2:=by simp
  rw[e,<-h,xz] at this;exact this
 have HK:Hid (ay [] w J):=by
  show ay _ _ _;rw[h];exact(((ay.refl [] w).alloc _).alloc _).alloc _
 have HL:Hid ((loadVar 73 w.heap.size).run prog J= .ok (.agg (zs l).toArray) J):=by
  rw[h];exact fy (off:=0) ((ae.alloc _).alloc _) hl (λk hk=>by rw[bp,aG,gI (by omega)])
 have HX:Hid (∀k,k<8->(zs (l.drop 5)).toArray[k]? =some (.int .i64 ((l.drop 5).getD k 0))):=λk hk=>by rw[aG,gI (by omega)]
 have ak:=kV;have rf:=ar h;clear ae xz hn h;generalize l.drop 5=d,(zs l).toArray=Z at *;generalize (zs d).toArray=D,vW:(aX (List.replicate 8 0)).toArray=Z8 at *;clear hl;go_in;go_wp2_with((with_reducible show wpList _ _ _ (⟨_,.load 73 (.tmp 1),_,_,_,_⟩::_) _ _);rw[<-rf.out];refine gH rfl 73 (.tmp 1) rfl _ rfl _ HL.out ?_);refine Rr (HR.out _) λw1 G=> ?_;obtain⟨W,ac,jv⟩:=hh3 (oD.out.keep G) (qC.out.keep G) (HK.out.trans' G);clear G rf oD qC HL;go_wp2_with fail;go_loopg [8] 8 (λgh s8 wx=>∃k:Nat,k+gh=8/\s8= .int .i64 (k:Int)/\Hid (bc wx (w.heap.size+2) (aX (eH 0 d k)).toArray 132/\bc wx (w.heap.size+1) Z8 132/\ay [] w wx))
 case atStart=>exact⟨0,by omega,rfl,ac.out,W.out,jv.out⟩
 case round=>
  clear W ac HK jv ak;obtain⟨k,hk,rfl,z⟩:=hrel;cases gk with
  |zero=>
   obtain rfl:k=8:=by omega
   have U:=z.out.1;rw[show eH 0 d 8=d by rw[<-V];exact nj 0 d] at U;have HL:=ar (fN U V);obtain⟨w2,hS,ah,aa⟩:=bE (P:= prog) (ty:= 132) (cs:=aX d) (by rw[bA,V];exact iZ) z.out.2.1 (by rw[<-vW];simp[bA,V]) (fk _);obtain⟨HS,rJ,jD⟩:=hh3 hS (fN ah V) (z.out.2.2.trans aa);clear hS U ah aa z hk;go_wp2_with(with_reducible first|refine gL 132 HL.out ?_|refine gS 132 HS.out ?_);exact aH (bu results184 rfl rJ.out) rfl ⟨rfl,jD.out⟩
  |succ gg=>
   have rM:k<8:=by omega
   have av:(k:Int)<8:=by omega
   have cM:(0:Int)<=(k:Int):=by omega
   have Ib:=XG rM (HX.out k rM);have hw:=nu (af.out k).1 (af.out k).2;have au:wr.cell? ⟨w.heap.size+2,k,none⟩=some (.int .u64 ((eH 0 d k).getD k 0)):=by
    rw[z.out.1.cell,aG,dM (by rw[mg _ _ _ (by omega)];omega)]
   have hf:wr.frozen? ⟨w.heap.size+2,k,none⟩=false:=z.out.1.frozen k;have HB:Hid (bc (wr.setCell ⟨w.heap.size+2,k,none⟩ (.int .u64 (d.getD k 0))) (w.heap.size+2) (aX (eH 0 d (k+1))).toArray 132):=by
    have :=z.out.1.set k (.int .u64 (d.getD k 0));rw[ag,mz,l9 0 d k (by omega) (d.getD k 0) (by simp[show k<d.length by omega])] at this;exact this
   have ai:Hid (bc (wr.setCell ⟨w.heap.size+2,k,none⟩ (.int .u64 (d.getD k 0))) (w.heap.size+1) Z8 132):=z.out.2.1.other (by simp) _;have jD:=ar z.out.2.2;clear z;generalize d.getD k 0=x,(eH 0 d k).getD k 0=y at *;go_wp2;go_roundg gg;case measure=>omega
   case rel=>exact⟨k+1,by omega,by go_num,HB.out,ai.out,jD.out.setCell (.inr (by show w.heap.size<=w.heap.size+2;omega)) _⟩
def oX (n:bS):Int:=n.F+256*n.K+65536*n.L
structure zD (n:bS):Prop where
 f:0<=n.F/\n.F<256
 k:0<=n.K/\n.K<256
 l:0<=n.L/\n.L<65536
 s:0<=n.S/\n.S<9223372036854775808
def ic (n:bS) (l:List Int) (h:Int):List Int:=oX n::n.S::(l.take 5++[h])
theorem adP (f k m:Nat)(h:f<256)(z:k<256)(G:m<65536):bits .or .u64 (f:Int) ((k:Int)*256)=((f+k*256:Nat):Int)/\bits .or .u64 ((f+k*256:Nat):Int) ((m:Int)*65536)=((f+k*256+m*65536:Nat):Int):=by
 constructor
 ·rw[show(k:Int)*256=((k*256:Nat):Int) by omega,u64_or_nat _ _ (by omega) (by omega),Nat.or_comm,nat_join 8 _ _ (by exact Nat.mul_mod_left _ _) h,Nat.add_comm]
 ·rw[show(m:Int)*65536=((m*65536:Nat):Int) by omega,u64_or_nat _ _ (by omega) (by omega),Nat.or_comm,nat_join 16 _ _ (by exact Nat.mul_mod_left _ _) (show f+k*256<65536 by omega),Nat.add_comm]
def nQ (t s:Int) (l:List Int) (k:Nat):List Int:=t::s::(eH 0 l k++[0])
theorem vX (z:l.length=5){k:Nat}(h:k<=5):(nQ t s l k).length=8:=by simp[nQ,mg,z,h]
theorem MW (z:l.length=5){k:Nat}(h:k<5):(nQ t s l k).set (2+k) (l.getD k 0)=nQ t s l (k+1):=by
 rw[nQ,show 2+k=k+1+1 by omega,ai,ai,List.set_append_left _ _ (by rw[mg _ _ _ (by omega)];omega),l9 0 l k (by omega) (l.getD k 0) (by simp[show k<l.length by omega])];rfl
theorem MX (h:l.length=5)(x:Int):(nQ t s l 5).set 7 x=t::s::(l++[x]):=by
 rw[nQ,show eH 0 l 5=l by rw[<-h];exact nj 0 l,ai,ai,dU _ _ (by omega),h];rfl
def uQ (n:bS):List Int:=oX n::n.S::List.replicate 6 0
theorem Cu (n:bS):(uQ n).length=8:=by simp[uQ]
theorem ET (n:bS)(v:Value)(hB:n.B.length=13)(ht:zD n)(w:World):
  Calls prog 206 #[aL n v] w λe w'=>e=(aX (uQ n)).toArray/\ay [] w w':=by
 have G:=fT v hB;generalize aL n v=Z at *;have ae:=kV;have J:bc (w.alloc (.cells Z 75)) w.heap.size Z 75 :=bc.new _ _ _;have c0:∀z h,(((w.alloc (.cells Z 75)).alloc z).alloc h).cell? w.heap.size=some (.int .i64 n.F):=λz h=>by rw[((J.alloc z).alloc h).cell];exact G.f0
 have c1:∀z h,(((w.alloc (.cells Z 75)).alloc z).alloc h).cell? ⟨w.heap.size,1,none⟩=some (.int .i64 n.K):=λz h=>by rw[((J.alloc z).alloc h).cell];exact G.f1
 have c2:∀z h,(((w.alloc (.cells Z 75)).alloc z).alloc h).cell? ⟨w.heap.size,2,none⟩=some (.int .i64 n.L):=λz h=>by rw[((J.alloc z).alloc h).cell];exact G.f2
 have c3:∀z h,(((w.alloc (.cells Z 75)).alloc z).alloc h).cell? ⟨w.heap.size,3,none⟩=some (.int .i64 n.S):=λz h=>by rw[((J.alloc z).alloc h).cell];exact G.f3
 obtain⟨tf,tk,tl,ts⟩:=ht;obtain⟨f,hf⟩:∃f:Nat,n.F=(f:Int):=⟨n.F.toNat,by omega⟩;obtain⟨k,hk⟩:∃k:Nat,n.K=(k:Int):=⟨n.K.toNat,by omega⟩;obtain⟨m,hm⟩:∃m:Nat,n.L=(m:Int):=⟨n.L.toNat,by omega⟩;obtain⟨s,hs⟩:∃s:Nat,n.S=(s:Int):=⟨n.S.toNat,by omega⟩;rw[hf] at c0 tf;rw[hk] at c1 tk;rw[hm] at c2 tl;rw[hs] at c3 ts;obtain⟨q1,q2⟩:=adP f k m (by omega) (by omega) (by omega);have W:Hid (((f+k*256+m*65536:Nat):Int)=oX n):=by
  show _=_;rw[oX,hf,hk,hm];omega
 generalize f+k*256+m*65536=t at *;generalize f+k*256=t1 at *;have mZ:Hid (uQ n=(t:Int)::(s:Int)::List.replicate 6 0):=by
  show _=_;rw[uQ,<-W.out,hs]
 clear hf hk hm hs W G hB;rw[mZ.out];have FU:((t:Int)::(s:Int)::List.replicate 6 0).length=8:=by simp
 have V:bc (((w.alloc (.cells Z 75)).alloc (.cells (aX (List.replicate 8 0)).toArray 132)).alloc (.cells (((aX (List.replicate 8 0)).set 0 (.int .u64 (t:Int))).set 1 (.int .u64 (s:Int))).toArray 132)) (w.heap.size+1+1) (aX ((t:Int)::(s:Int)::List.replicate 6 0)).toArray 132 :=by
  have :=bc.new ((w.alloc (.cells Z 75)).alloc (.cells (aX (List.replicate 8 0)).toArray 132)) (((aX (List.replicate 8 0)).set 0 (.int .u64 (t:Int))).set 1 (.int .u64 (s:Int))).toArray 132;have e:((w.alloc (.cells Z 75)).alloc (.cells (aX (List.replicate 8 0)).toArray 132)).heap.size=w.heap.size+1+1:=by simp
  rw[e] at this;exact this
 have U:bc (((w.alloc (.cells Z 75)).alloc (.cells (aX (List.replicate 8 0)).toArray 132)).alloc (.cells (((aX (List.replicate 8 0)).set 0 (.int .u64 (t:Int))).set 1 (.int .u64 (s:Int))).toArray 132)) (w.heap.size+1) (aX (List.replicate 8 0)).toArray 132 :=by
  have :=(bc.new (w.alloc (.cells Z 75)) (aX (List.replicate 8 0)).toArray 132).alloc (.cells (((aX (List.replicate 8 0)).set 0 (.int .u64 (t:Int))).set 1 (.int .u64 (s:Int))).toArray 132);have e:(w.alloc (.cells Z 75)).heap.size=w.heap.size+1:=by simp
  rw[e] at this;exact this
 have HL:=ar (fN V FU);obtain⟨w2,hS,ac,aa⟩:=bE (P:= prog) (ty:= 132) (cs:=aX ((t:Int)::(s:Int)::List.replicate 6 0)) (by rw[bA,FU];exact iZ) U (by simp[bA]) (fk _);obtain⟨HS,rJ⟩:=hh2 hS (fN ac FU);have jD:Hid (ay [] w w2):=((((ay.refl _ _).alloc _).alloc _).alloc _).trans aa;clear V U hS ac aa J;go_in;go_wp2_with(with_reducible first|refine gL 132 HL.out ?_|refine gS 132 HS.out ?_);exact aH (bu results206 rfl rJ.out) rfl ⟨rfl,jD.out⟩
theorem DU (n:bS)(v:Value)(hB:n.B.length=13)(ht:zD n)(l:List Int)(hl:l.length=13)(hn:adO l)(h:Int)(h0:0<=h/\h<9223372036854775808)(w:World):
  Calls prog 180 #[aL n v,(zs l).toArray,h] w λe w'=>e=(aX (ic n l h)).toArray/\ay [] w w':=by
 have HH:=ar (ET n v hB ht);have aF:=kV;have uP:=ar (bZ (((bc.new w (aL n v) 75).alloc (.cells (zs l).toArray 73)).alloc (.cells (aX (List.replicate 8 0)).toArray 132)) hB);have az:bc (((w.alloc (.cells (aL n v) 75)).alloc (.cells (zs l).toArray 73)).alloc (.cells (aX (List.replicate 8 0)).toArray 132)) (w.heap.size+1) (zs l).toArray 73 :=by
  have :=(bc.new (w.alloc (.cells (aL n v) 75)) (zs l).toArray 73).alloc (.cells (aX (List.replicate 8 0)).toArray 132);have e:(w.alloc (.cells (aL n v) 75)).heap.size=w.heap.size+1:=by simp
  rw[e] at this;exact this
 have aA:bc (((w.alloc (.cells (aL n v) 75)).alloc (.cells (zs l).toArray 73)).alloc (.cells (aX (List.replicate 8 0)).toArray 132)) (w.heap.size+1+1) (aX (List.replicate 8 0)).toArray 132 :=by
  have :=bc.new ((w.alloc (.cells (aL n v) 75)).alloc (.cells (zs l).toArray 73)) (aX (List.replicate 8 0)).toArray 132;have e:((w.alloc (.cells (aL n v) 75)).alloc (.cells (zs l).toArray 73)).heap.size=w.heap.size+1+1:=by simp
  rw[e] at this;exact this
 have fG:Hid (ay [] w (((w.alloc (.cells (aL n v) 75)).alloc (.cells (zs l).toArray 73)).alloc (.cells (aX (List.replicate 8 0)).toArray 132))):=(((ay.refl _ _).alloc _).alloc _).alloc _;obtain⟨oD,qC⟩:=hh2 az aA;clear az aA;have V:(l.take 5).length=5:=by simp[hl]
 obtain⟨t,hT⟩:∃t,t=oX n:=⟨_,rfl⟩;obtain⟨s,W⟩:∃s,s=n.S:=⟨_,rfl⟩;have MZ:Hid (uQ n=nQ t s (l.take 5) 0):=by
  show _=_;rw[uQ,nQ,l8,V,hT,W];rfl
 have mZ:Hid (ic n l h=t::s::(l.take 5++[h])):=by
  show _=_;rw[ic,hT,W]
 have Sd:Hid (∀i,i<5->(0<=(l.take 5).getD i 0/\(l.take 5).getD i 0<9223372036854775808)/\l.getD i 0=(l.take 5).getD i 0):=λi hi=>by
  have e:(l.take 5).getD i 0=l.getD i 0:=by simp[hi]
  rw[e];exact⟨hn i,rfl⟩
 have Su:Hid (∀i,i<13->(zs l).toArray[i]? =some (.int .i64 (l.getD i 0))):=λi hi=>by rw[aG,gI (by omega)]
 have aJ:=nu h0.1 h0.2;clear hn hB ht hT W;rw[mZ.out];generalize aL n v=Z,(zs l).toArray=ZL at *;go_in;go_wp2_with(with_reducible refine gL 75 uP.out ?_);refine Rr (HH.out _) λw1 J=> ?_;rw[MZ.out];obtain⟨w2,af,L6,ak⟩:=bE (P:= prog) (ty:= 132) (cs:=aX (nQ t s (l.take 5) 0)) (by rw[bA,vX V (by omega)];exact iZ) (bc.new w1 (aX (List.replicate 8 0)).toArray 132) (by simp[bA,vX V]) (fk _);have aM:w.heap.size+1+1<w1.heap.size:=bQ qC.out.lt J.size;have eP:ay [] (((w.alloc (.cells Z 75)).alloc (.cells ZL 73)).alloc (.cells (aX (List.replicate 8 0)).toArray 132)) w2:=(J.alloc (.cells (aX (List.replicate 8 0)).toArray 132)).trans ak (by intro x hx;rw[au] at hx;have :=J.size;omega);obtain⟨ai,ax,mK,aD,Qg⟩:=hh5 (oD.out.keep eP) (qC.out.keep eP) (fG.out.trans' eP) af L6;clear af L6 ak eP J uP HH oD qC fG;generalize hg:w1.heap.size=g at *;go_wp2_with(with_reducible refine gS 132 aD.out ?_);go_loopg [11] 5 (λgh Qh wx=>∃i:Nat,i+gh=5/\Qh= .int .i64 (i:Int)/\Hid (bc wx g (aX (nQ t s (l.take 5) i)).toArray 132/\bc wx (w.heap.size+1+1) (aX (List.replicate 8 0)).toArray 132/\bc wx (w.heap.size+1) ZL 73/\ay [] w wx))
 case atStart=>exact⟨0,by omega,rfl,Qg.out,ax.out,ai.out,mK.out⟩
 case round=>
  clear aF Qg ax ai mK;obtain⟨i,hi,rfl,HP⟩:=hrel;obtain⟨z,G,U,gD⟩:=HP.out;cases gk with
  |zero=>
   obtain rfl:i=5:=by omega
   have ac:wr.cell? ⟨g,7,none⟩=some (.int .u64 ((nQ t s (l.take 5) 5).getD 7 0)):=by
    rw[z.cell,aG,dM (by rw[vX V (by omega)];omega)]
   have aI:wr.frozen? ⟨g,7,none⟩=false:=z.frozen 7;have aa:=z.set 7 (.int .u64 h);rw[ag,mz,MX V] at aa;have FU:(t::s::(l.take 5++[h])).length=8:=by simp[V]
   have HL:=ar (fN aa FU);obtain⟨w4,hS,aB,aC⟩:=bE (P:= prog) (ty:= 132) (cs:=aX (t::s::(l.take 5++[h]))) (by rw[bA,FU];exact iZ) (G.other (a:=⟨g,7,none⟩) (by show w.heap.size+1+1≠g;omega) (.int .u64 h)) (by simp[bA,FU]) (fk _);obtain⟨HS,rJ,jD⟩:=hh3 hS (fN aB FU) ((gD.setCell (p:=⟨g,7,none⟩) (.inr (by show w.heap.size<=g;omega)) (.int .u64 h)).trans aC (by intro x hx;rw[au] at hx;omega));clear hS aB aC HP hi aa z G U gD;generalize (nQ t s (l.take 5) 5).getD 7 0=y at *;go_wp2_with(with_reducible first|refine gL 132 HL.out ?_|refine gS 132 HS.out ?_);exact aH (bu results180 rfl rJ.out) rfl ⟨rfl,jD.out⟩
  |succ gg=>
   have av:i<5:=by omega
   have aK:(i:Int)<5:=by omega
   have aN:(0:Int)<=(i:Int):=by omega
   obtain⟨ah,ae⟩:=Sd.out i av;have aO:wr.cell? ⟨w.heap.size+1,i,none⟩=some (.int .i64 ((l.take 5).getD i 0)):=by
    rw[U.cell,Su.out i (by omega),ae]
   have hw:=nu ah.1 ah.2;have ac:wr.cell? ⟨g,2+i,none⟩=some (.int .u64 ((nQ t s (l.take 5) i).getD (2+i) 0)):=by
    rw[z.cell,aG,dM (by rw[vX V (by omega)];omega)]
   have aI:wr.frozen? ⟨g,2+i,none⟩=false:=z.frozen _;have HR:Hid (bc (wr.setCell ⟨g,2+i,none⟩ (.int .u64 ((l.take 5).getD i 0))) g (aX (nQ t s (l.take 5) (i+1))).toArray 132/\bc (wr.setCell ⟨g,2+i,none⟩ (.int .u64 ((l.take 5).getD i 0))) (w.heap.size+1+1) (aX (List.replicate 8 0)).toArray 132/\bc (wr.setCell ⟨g,2+i,none⟩ (.int .u64 ((l.take 5).getD i 0))) (w.heap.size+1) ZL 73/\ay [] w (wr.setCell ⟨g,2+i,none⟩ (.int .u64 ((l.take 5).getD i 0)))):=by
    refine⟨?_,G.other (by show w.heap.size+1+1≠g;omega) _,U.other (by show w.heap.size+1≠g;omega) _,gD.setCell (.inr (by show w.heap.size<=g;omega)) _⟩;have :=z.set (2+i) (.int .u64 ((l.take 5).getD i 0));rw[ag,mz,MW V av] at this;exact this
   clear HP z G U gD ae;generalize (l.take 5).getD i 0=x,(nQ t s (l.take 5) i).getD (2+i) 0=y at *;go_wp2;go_roundg gg;case measure=>omega
   case rel=>exact⟨i+1,by omega,by go_num,HR.out⟩
def eU (E:List (ByteArray×Int)):List Int:=E.flatMap λp=>[((kS (bl p.1):Nat):Int),p.2]
theorem kT (E:List (ByteArray×Int)):(eU E).length=E.length*2:=by
 induction E with
 |nil=>rfl
 |cons p E ih=>simp[eU] at ih ⊢;omega
theorem IB (E F:List (ByteArray×Int)):eU (E++F)=eU E++eU F:=by simp[eU]
theorem vY (E:List (ByteArray×Int)):∀k,k<E.length->(eU E).getD (k*2) 0=((kS (bl (eY E k)):Nat):Int)/\(eU E).getD (k*2+1) 0=jq E k:=by
 induction E with
 |nil=>intro k h;simp at h
 |cons p E ih=>
  intro k h;have z:eU (p::E)=((kS (bl p.1):Nat):Int)::p.2::eU E:=rfl;cases k with
  |zero=>rw[z];exact⟨rfl,rfl⟩
  |succ k=>
   have :=ih k (by simpa using h);rw[z,show(k+1)*2=k*2+1+1 by omega,MJ,MK];exact this
theorem FV (E:List (ByteArray×Int))(n:Nat)(h:n<E.length):E.take (n+1)=E.take n++[(eY E n,jq E n)]:=by
 rw[bR h];have :E.getD n (ByteArray.empty,0)=E[n]:=by simp[h]
 rw[eY,jq,this]
theorem Cv (E:List (ByteArray×Int))(j:Nat)(h:j<E.length):eU (E.take (j+1))=eU (E.take j)++[((kS (bl (eY E j)):Nat):Int),jq E j]:=by
 rw[FV E j h,IB];rfl
structure xN (E:List (ByteArray×Int)):Prop where
 len:E.length<=10000
 size:∀k,k<E.length->(eY E k).size<=9223372036854775807
 ino:∀k,k<E.length->0<=jq E k/\jq E k<9223372036854775808
theorem zE{g:Nat}{E:List (ByteArray×Int)}(hE:bD w v g E)(ho:xN E):
  Calls prog 207 #[v] w (jG w (eU E)):=by
 obtain⟨a,cap,rfl,az,af,zr⟩:=hE.open;unfold maxLen at af;obtain⟨i0,hi,ax,ai,aj⟩:=df Tryz.info_u64;have aA:=ho.len;have ac:=AR (2*E.length) (by omega) (2*(E.length:Int)) (by omega) 0 (.inl rfl) w;rw[show((0:Nat):Int)=0 from rfl] at ac;have Sv:Hid ((w.alloc (.cells (madeCells #[.int .u64 0] (2*E.length)) 70)).ownsRow w.heap.size 70 1 (.slice w.heap.size 0 (2*E.length)) 0 (aX (eU (E.take 0)))):=
  ⟨rfl,.inr ⟨w.heap.size,2*E.length,madeCells #[.int .u64 0] (2*E.length),rfl,aI _,bc.new _ _ _,by omega,by unfold maxLen;omega,by simp[madeCells],by simp[eU,aX]⟩⟩
 have fG:Hid (ay [] w (w.alloc (.cells (madeCells #[.int .u64 0] (2*E.length)) 70))):=(ay.refl _ _).alloc _;have HW:Hid (∀j,j<E.length->∀W,Calls prog 222 #[.string (eY E j)] W λe w'=>e= .returned (.tuple #[.int .u64 (kS (bl (eY E j)):Nat),(ig (bl (eY E j)):Bool)])/\ay [] W w'):=λj V W=>
  KP _ (ho.size _ V) W
 have EP:Hid (∀j,j<E.length->0<=jq E j/\jq E j<9223372036854775808):=λj V=>ho.ino _ V
 have av:Hid (∀j,j<E.length->aX (eU (E.take (j+1)))=aX (eU (E.take j))++[.int .u64 ((kS (bl (eY E j)):Nat):Int),.int .u64 (jq E j)]):=λj V=>by
  rw[Cv E j V,ua];rfl
 have Ey:Hid (E.take E.length=E):=gi;have au:Hid ((eU E).length=E.length*2):=kT E;clear hE ho;generalize hn:E.length=n at *;clear hn;generalize (madeCells #[.int .u64 0] (2*n))=MC at *;go_in;go_wp2_with fail;clear ac;go_loopg [3,14] n (λgh s3 s14 W=>∃j:Nat,j+gh=n/\s14= .int .i64 (j:Int)/\Hid (W.ownsRow w.heap.size 70 1 s3 (2*j) (aX (eU (E.take j)))/\ay [] w W))
 case atStart=>exact⟨0,by omega,rfl,Sv.out,fG.out⟩
 case round=>
  clear Sv fG;obtain⟨j,V,rfl,HP⟩:=hrel;cases gk with
  |zero=>
   obtain rfl:j=n:=by omega
   have HM:Hid (jG w (eU E) (.returned u3) wr):=by
    obtain⟨U,hk⟩:=HP.out;rw[Ey.out] at U;obtain⟨gg,aa,hg⟩:=fw.of_row U;by_cases h0:2*j=0
    ·exact⟨u3,w.heap.size,rfl,aa.reads.anyG (by
      have :(eU E).length=0:=by rw[au.out];omega
      rw[bg this];rfl) _,aI _,hk⟩
    ·exact⟨u3,gg,rfl,aa.reads,(hg h0).1,hk⟩
   clear HP V;go_wp2;go_ret;exact HM.out
  |succ gk=>
   have J:j<n:=by omega
   have aC:(j:Int)<(n:Int):=by omega
   have Co:(0:Int)<=(j:Int):=by omega
   obtain⟨ag,off,rfl,e0,e1⟩:=zr.out j J;obtain⟨ae,jD⟩:=hh2 HP.out.1 HP.out.2;have gD:=HP.out.2;have c0:=(aO (w:=w) (a:=⟨g,off+j*2,none⟩) (gD.block g ag (by simp))).trans e0;have c1:=(aO (w:=w) (a:=⟨g,off+j*2+1,none⟩) (gD.block g ag (by simp))).trans e1;have ah:=ar (HW.out j J);obtain⟨n0,n1⟩:=EP.out j J;have hw:=nu n0 n1;have M0:=ar (av.out j J);have aB:=gD.size;clear e0 e1 HP gD;generalize eY E j=nm,jq E j=ino at *;obtain⟨a3,ak,rfl,q1,q2⟩:=iT ae.out;generalize hT:aX (eU (E.take j))=T at *;have HT:=ar hT;clear hT;go_wp2_with fail;refine Rr (ah.out _) λw1 G=> ?_;have Qi:=(bc.new wr #[.string nm,ino] 99).keep G;have MI:=ar (ey (ey ae.out ((ay.refl [] wr).alloc (.cells #[.string nm,ino] 99)) (by simp)) G (by simp));have d1:w1.cell? ⟨wr.heap.size,1,none⟩=some (.int .i64 ino):=by rw[Qi.cell];rfl
   have jv:=ar ((jD.out.alloc (.cells #[.string nm,ino] 99)).trans' G);have aF:w.heap.size<=w1.heap.size:=jv.out.size;clear G Qi;generalize kS (bl nm)=wv at *;have aD:2*j<=20000:=by omega
   go_wp2_with(at_builtin;refine eO _ rfl _ _ 65 rfl w.heap.size 70 i0 (.int .u64 0) 1 8 underlying65 hi ax ai aj rfl (by decide) (.slice a3 (2*j) ak) (2*j) _ rfl (MI.out.alloc _) ⟨w1.heap.size,0,none⟩ 2 2 [.int .u64 (wv:Int),.int .u64 ino] rfl rfl ?c1 ?c2 (by unfold maxLen;omega) (by omega) (by simp;omega) ?_);case c1=>exact lu _ [_,_] _ _ rfl
   case c2=>simp[Value.oneCell']
   intro v' w2 h z _;obtain⟨WU,fC⟩:=hh2 h ((jv.out.alloc _).grown z (dO MI.out));clear h z;go_wp2;go_roundg gk;case measure=>omega
   case rel=>
    refine⟨j+1,by omega,by go_num,?_,fC.out⟩;have :=WU.out;rw[show 2*(j+1)=2*j+2 by omega,M0.out];exact this
structure abr (W:Nat) (w1 w2:World):Prop where
 st:(storeVar 205 w1.heap.size (.agg (pQ (lO W)).toArray)).run prog (w1.alloc (.cells (pQ (List.replicate 8 0)).toArray 205))= .ok () w2
 c7:w2.cell? ⟨w1.heap.size,7,none⟩=some (.int .u8 (rG W 7:Nat))
 conv:rG W 7<=7->(convert 29 9 (.slice w1.heap.size (rG W 7) 8)).run prog w2= .ok (.string (xk ((lO W).take (rG W 7)))) w2
 keeps:ay [] w1 w2
theorem abt (W:Nat)(h:World):∃z,abr W h z:=by
 obtain⟨z,hs,U,hk⟩:=xL (l:=List.replicate 8 0) (by simp) (mr W) (bc.new h (pQ (List.replicate 8 0)).toArray 205);have V:∀j,j<8->z.cell? ⟨h.heap.size,j,none⟩=some (.int .u8 (rG W j:Nat)):=λj J=>by
  rw[U.cell,<-uH W j J];simpa using A7 (l:=lO W) (j:=j) (by rw[mr];omega)
 refine⟨z,hs,V 7 (by omega),λh7=> ?_,((ay.refl [] h).alloc _).trans hk⟩;have hl:(((lO W).take (rG W 7)).map UInt8.ofNat).length=rG W 7:=by simp[mr];omega
 have :=run_convert_bytes_back (P:= prog) z 29 9 5 ⟨h.heap.size,0,none⟩ 8 (((lO W).take (rG W 7)).map UInt8.ofNat) underlying29 underlying5 underlying9 λj J=>by
  rw[hl] at J;have G:(⟨h.heap.size,0,none⟩:Addr).add j=⟨h.heap.size,j,none⟩:=by unfold Addr.add;split<;>simp_all
  rw[G,V j (by omega)];have U:=B0 W j;simp[lO,Nat.mod_eq_of_lt U]
 rw[hl] at this;exact this
theorem M3 (b n:Nat)(z:n<=7)(w:World):(Instr.sliceAt 205 (.pointer (some ⟨b,0,none⟩)) none (some (.int .i64 (n:Int))) none).run prog w= .ok (.slice b n 8) w:=by
 have h:n=0\/n=1\/n=2\/n=3\/n=4\/n=5\/n=6\/n=7:=by omega
 rcases h with rfl|rfl|rfl|rfl|rfl|rfl|rfl|rfl<;>(show Sem.run _ _ _=_;kernel_rfl)
theorem abu (W:Nat)(w:World):
  Calls prog 221 #[.int .u64 (W:Int)] w λe w'=>e= .returned (.tuple #[.string (xk ((kD W).getD [])),.bool (kD W).isSome])/\ay [] w w':=by
 have HB:=ar (A8 W w);have aa:=B0 W 7;go_in;go_wp2_with fail;refine Rr HB.out λw1 V=> ?_;obtain⟨w2,hm⟩:=abt W w1;have c7:=hm.c7;obtain⟨HM,HK⟩:=hh2 hm (V.trans hm.keeps);clear hm V HB;by_cases h7:rG W 7<=7
 ·have ae:=HM.out.conv h7
  have U:∀c∈(lO W).take (rG W 7),c<256:=R7 (R6 W) _;have G:=KP (xk ((lO W).take (rG W 7))) (by rw[Jy];simp[mr];omega) w2;rw[Sm U] at G;unfold kS at G;have J:Hid (kD W=if ig ((lO W).take (rG W 7))=true/\sH ((lO W).take (rG W 7))=W then some ((lO W).take (rG W 7)) else none):=by
   show kD W=_;unfold kD;simp only[h7,true_and]
  generalize (lO W).take (rG W 7)=l at *;clear U;generalize rG W 7=n at *;have G:=ar G;have af:=λwz=>M3 w1.heap.size n h7 wz
  have ac:decide (7<(n:Int))=false:=by simp;omega
  cases hg:ig l
  ·rw[hg,aA (by simp)] at G
   rw[hg,aA (by simp)] at J;clear hg;go_wp2_with(first|(with_reducible refine gS 205 HM.out.st ?_)|(go_at_call 222;refine Rr G.out λw3 z=> ?_;have og:=ar z;clear z));go_ret2;exact⟨by rw[J.out];rfl,HK.out.trans og.out⟩
  ·rw[hg,aB rfl] at G
   rw[hg] at J;clear hg;by_cases hw:sH l=W
   ·rw[aB ⟨rfl,hw⟩] at J
    rw[hw] at G;clear hw;go_wp2_with(first|(with_reducible refine gS 205 HM.out.st ?_)|(go_at_call 222;refine Rr G.out λw3 z=> ?_;have og:=ar z;clear z));go_ret2;exact⟨by rw[J.out];rfl,HK.out.trans og.out⟩
   ·rw[aA (λh=>hw h.2)] at J
    have e1:((sH l:Int) != (W:Int))=true:=by simp;omega
    clear hw;go_wp2_with(first|(with_reducible refine gS 205 HM.out.st ?_)|(go_at_call 222;refine Rr G.out λw3 z=> ?_;have og:=ar z;clear z));go_ret2;exact⟨by rw[J.out];rfl,HK.out.trans og.out⟩
 ·have J:Hid (kD W=none):=by
   show kD W=none;unfold kD;rw[aA (λh=>h7 h.1)]
  generalize rG W 7=n at *;go_wp2_with(first|(with_reducible refine gS 205 HM.out.st ?_));go_ret2;exact⟨by rw[J.out];rfl,HK.out⟩
end Go.Proofs.YtimcfdnbpkiniaaGreatDoor
