/- Lemmas. -/
import Derived.Test.YtepbpdipenedhaaGreatDoorS32
import Derived.LaidMore
import Derived.Stop.Joined
import Derived.Laws.IdiomArrays
set_option maxHeartbeats 4000000
set_option maxRecDepth 100000
namespace Go.Proofs.YtepbpdipenedhaaGreatDoor
open Go.Proofs.Tryz
open Go.RowKit
variable{W w w':World}{v:Value}{T b g gf gl gn:Nat}{d:Int}
structure pQ where
 o:pX
 fuse:Bool
 n:Int
 crash:Bool
 keep:List Int
def XY:pQ:=⟨opZ,false,0,false,[]⟩
def sT (l:List pQ) (j:Nat):pQ:=l.getD j XY
def XZ (s:pQ) (h vq vd y:Value):Array Value:= #[.int .i64 s.o.K,h,vq,.int .i64 s.o.O,.int .i64 s.o.N,vd,.bool s.fuse,.int .i64 s.n,.bool s.crash,y]
structure Da (w:World) (s:pQ) (Z:Array Value):Prop where
 cells:∃vp vq vd vk,Z=XZ s vp vq vd vk/\(∃g,jh w vp g s.o.P)/\(∃g,jh w vq g s.o.Q)/\(∃g,Reads w vd g (QS s.o.D))/\∃g,Reads w vk g (QS s.keep)
 i64:((-9223372036854775808<=s.o.K/\s.o.K<=9223372036854775807)/\(-9223372036854775808<=s.o.O/\s.o.O<=9223372036854775807)/\(-9223372036854775808<=s.o.N/\s.o.N<=9223372036854775807))/\(-9223372036854775808<=s.n/\s.n<=9223372036854775807)
 bytes:Wl s.o/\∀y∈s.keep,0<=y/\y<=255
theorem Da.keep'{s:pQ}{Z:Array Value}(h:Da w s Z)(y:ay [] w w'):Da w' s Z:=by
 obtain⟨U,vq,vd,W,e,⟨g1,h1⟩,⟨J,z⟩,⟨g3,G⟩,V,h4⟩:=h.cells;exact⟨⟨U,vq,vd,W,e,⟨g1,h1.keep y (by simp)⟩,⟨J,z.keep y (by simp)⟩,⟨g3,G.keep y (by simp)⟩,V,h4.keep y (by simp)⟩,h.i64,h.bytes⟩
def wO (w:World) (v:Value) (g:Nat) (l:List pQ):Prop:=
 ∃a cap,v= .slice a l.length cap/\l.length<=cap/\cap<=maxLen/\∀j,j<l.length->g<w.heap.size/\∃off,a=some ⟨g,off,none⟩/\∃Z,Da w (sT l j) Z/\∀t,t<10->w.cell? ⟨g,off+j*10+t,none⟩=Z[t]?
theorem wO.keep{l:List pQ}(h:wO w v g l)(y:ay [] w w'):wO w' v g l:=by
 obtain⟨a,cap,e,h1,G,U⟩:=h;refine⟨a,cap,e,h1,G,λj V=> ?_⟩;obtain⟨z,off,ha,Z,hz,W⟩:=U j V;exact⟨bt z y.size,off,ha,Z,hz.keep' y,λt J=>(aK (w:=w) (y.block g z (by simp))).trans (W t J)⟩
def Qu (s:pQ):Prop:=aec s.o/\s.keep.length<=100
def Db (w:World) (l:List pQ) (n:Nat) (e:Ending) (w':World):Prop:=∃b,e= .returned (.bool b)/\(b=true->l.length<=n/\∀j,j<l.length->j<200->Qu (sT l j))/\w=w'
theorem T7{l:List pQ}(h:wO w v g l)(n:Nat)(_:n<=100000):Calls prog 21 #[v,.int .i64 (n:Int)] w (Db w l n):=by
 obtain⟨a,cap,rfl,aA,ae,ac⟩:=h;have HG:Hid (∀j,j<l.length->∃off,a=some ⟨g,off,none⟩/\∃ap cp aq cq ad cd ak ck,w.cell? ⟨g,off+j*10+1,none⟩=some (.slice ap (sT l j).o.P.length cp)/\w.cell? ⟨g,off+j*10+2,none⟩=some (.slice aq (sT l j).o.Q.length cq)/\w.cell? ⟨g,off+j*10+5,none⟩=some (.slice ad (sT l j).o.D.length cd)/\w.cell? ⟨g,off+j*10+9,none⟩=some (.slice ak (sT l j).keep.length ck)/\
   (∀k,k<(sT l j).o.P.length->∃gp U,ap=some ⟨gp,U,none⟩/\w.cell? ⟨gp,U+k,none⟩=some (.string (jK (sT l j).o.P k)))/\
   (∀k,k<(sT l j).o.Q.length->∃gp U,aq=some ⟨gp,U,none⟩/\w.cell? ⟨gp,U+k,none⟩=some (.string (jK (sT l j).o.Q k)))/\
   (sT l j).o.P.length<=9223372036854775807/\(sT l j).o.Q.length<=9223372036854775807/\(sT l j).o.D.length<=9223372036854775807/\(sT l j).keep.length<=9223372036854775807):=λj hj=>by
  obtain⟨hg,off,ha,Z,hz,hc⟩:=ac j hj;obtain⟨vp,vq,vd,vk,rfl,⟨gp,hP⟩,⟨gq,hQ⟩,⟨gd,hD⟩,gk,ah⟩:=hz.cells;obtain⟨ap,cp,rfl,aC,af,LZ⟩:=hP.open;obtain⟨aq,cq,rfl,aP,au,YW⟩:=hQ.open;obtain⟨ad,cd,rfl,aJ,az,-⟩:=hD;obtain⟨ak,ck,rfl,aH,ax,-⟩:=ah;simp only[Uz] at *;unfold maxLen at af au az ax;refine⟨off,ha,ap,cp,aq,cq,ad,cd,ak,ck,hc 1 (by omega),hc 2 (by omega),hc 5 (by omega),hc 9 (by omega),λk hk=> ?_,λk hk=> ?_,by omega,by omega,by omega,by omega⟩
  ·obtain⟨-,U,h1,J⟩:=LZ.out k hk
   exact⟨gp,U,h1,J⟩
  ·obtain⟨-,U,h1,J⟩:=YW.out k hk
   exact⟨gq,U,h1,J⟩
 have HF:Hid (∀b,(b=true->l.length<=n/\∀j,j<l.length->j<200->Qu (sT l j))->Db w l n (.returned (.bool b)) w):=λb h=>⟨b,rfl,h,rfl⟩
 have z:=ar (HF.out false (by simp));unfold maxLen at ae;clear ac;generalize Db w l n=Q at *;generalize hm:l.length=m at *;clear hm;go_enter func21,ntmps21;go_wp2_with fail;go_loopg [5] 200 (λgh s5 wx=>∃k:Nat,k+gh=200/\k<=m/\s5= .int .i64 (k:Int)/\wx=w/\Hid (∀j,j<k->Qu (sT l j)))
 case atStart=>exact⟨0,by omega,by omega,rfl,rfl,λj hj=>by omega⟩
 case round=>
  obtain⟨i,hi,aB,rfl,rfl,HP⟩:=hrel;by_cases y:i=m\/i=200
  ·have HE:Hid (∀b,(b=true->m<=n)->Q (.returned (.bool b)) wr):=λb hb=>HF.out b λh=>⟨hb h,λj hj aG=>HP.out j (by omega)⟩
   clear HF HG HP;by_cases Sk:m<=n
   ·have h1:(m:Int)<=(n:Int):=by omega
    rcases dg i m with J|J
    ·have aa:(i:Int)<(m:Int):=by omega
     have h3:decide ((i:Int)<200)=false:=aM (by omega);clear y;go_wp2_with fail
     first|exact HE.out true (λ_=>Sk)|(go_ret;exact HE.out true (λ_=>Sk))
    ·have aa:decide ((i:Int)<(m:Int))=false:=aM (by omega)
     clear y;go_wp2_with fail
     first|exact HE.out true (λ_=>Sk)|(go_ret;exact HE.out true (λ_=>Sk))
   ·have h1:decide ((m:Int)<=(n:Int))=false:=aM (by omega)
    rcases dg i m with J|J
    ·have aa:(i:Int)<(m:Int):=by omega
     have h3:decide ((i:Int)<200)=false:=aM (by omega);clear y;go_wp2_with fail;all_goals first|exact z.out|(go_ret;exact z.out)
    ·have aa:decide ((i:Int)<(m:Int))=false:=aM (by omega)
     clear y;go_wp2_with fail;all_goals first|exact z.out|(go_ret;exact z.out)
  ·have ai:i<m:=by omega
   have aI:i<200:=by omega
   have aa:(i:Int)<(m:Int):=by omega
   have aD:(i:Int)<200:=by omega
   have aF:(0:Int)<=(i:Int):=by omega
   obtain⟨gg,rfl⟩:∃gg,gk=gg+1:=⟨gk-1,by omega⟩;obtain⟨off,rfl,ap,cp,aq,cq,ad,cd,ak,ck,c1,c2,c5,c9,hp,hq,l1,l2,l3,l4⟩:=HG.out i ai;have V:=ar hp;have Dg:=ar hq;have W:Hid (Qu (sT l i)->∀j,j<i+1->Qu (sT l j)):=λh j hj=>by
    by_cases e:j=i
    ·rw[e];exact h
    ·exact HP.out j (by omega)
   have Ge:Hid ((sT l i).o.P.length<=10->(sT l i).o.Q.length<=10->(sT l i).o.D.length<=900->(∀k,k<(sT l i).o.P.length->(jK (sT l i).o.P k).size<=30)->(∀k,k<(sT l i).o.Q.length->(jK (sT l i).o.Q k).size<=30)->(sT l i).keep.length<=100->Qu (sT l i)):=λh1 J h3 h4 h5 h6=>⟨⟨⟨h1,J,h3⟩,h4,h5⟩,h6⟩
   clear y HP HG hp hq HF;generalize (sT l i).o.P=P at *;generalize (sT l i).o.Q=R at *;generalize (sT l i).o.D.length=ld at *;generalize (sT l i).keep.length=lk at *;generalize Xr:P.length=lp at *;generalize av:R.length=lr at *;clear Xr av;by_cases h0:lk<=100
   ·have e0:decide ((100:Int)<(lk:Int))=false:=aM (by omega)
    by_cases h1:lp<=10
    ·have e1:decide ((10:Int)<(lp:Int))=false:=aM (by omega)
     by_cases J:lr<=10
     ·have e2:decide ((10:Int)<(lr:Int))=false:=aM (by omega)
      by_cases h3:ld<=900
      ·have e3:decide ((900:Int)<(ld:Int))=false:=aM (by omega)
       go_wp2_with fail;go_loopg [6] lp (λgh s6 wx=>∃k:Nat,k+gh=lp/\s6= .int .i64 (k:Int)/\wr=wx/\Hid (∀j,j<k->(jK P j).size<=30))
       case atStart=>exact⟨0,by omega,rfl,rfl,λj hj=>by omega⟩
       case round=>
        obtain⟨k,hk,rfl,rfl,HI⟩:=hrel;cases gk with
        |succ g2=>
         have EA:k<lp:=by omega
         have ya:(k:Int)<(lp:Int):=by omega
         have eo:(0:Int)<=(k:Int):=by omega
         obtain⟨gp,U,rfl,d1⟩:=V.out k EA;by_cases G:(jK P k).size<=30
         ·have e4:decide ((30:Int)<((jK P k).size:Int))=false:=aM (by omega)
          have ay:Hid (∀j,j<k+1->(jK P j).size<=30):=λj hj=>by
           by_cases e:j=k
           ·rw[e];exact G
           ·exact HI.out j (by omega)
          clear HI W Ge V Dg G;generalize jK P k=nk at *;go_wp2_with fail;go_roundg g2;case measure=>omega
          case rel=>exact⟨k+1,by omega,by go_num,rfl,ay.out⟩
         ·have e4:(30:Int)<((jK P k).size:Int):=by omega
          clear HI W Ge V Dg G;generalize jK P k=nk at *;go_wp2_with fail;all_goals first|exact z.out|(go_ret;exact z.out)
        |zero=>
         obtain rfl:k=lp:=by omega
         have aO:¬(k:Int)<(k:Int):=by omega
         go_wp2_with fail;go_loopg [7] lr (λgh s7 wx=>∃q:Nat,q+gh=lr/\s7= .int .i64 (q:Int)/\wr=wx/\Hid (∀j,j<q->(jK R j).size<=30))
         case atStart=>exact⟨0,by omega,rfl,rfl,λj hj=>by omega⟩
         case round=>
          obtain⟨q,aL,rfl,rfl,HJ⟩:=hrel;cases gk with
          |succ g3=>
           have ag:q<lr:=by omega
           have aN:(q:Int)<(lr:Int):=by omega
           have aK:(0:Int)<=(q:Int):=by omega
           obtain⟨gq,oq,rfl,d1⟩:=Dg.out q ag;by_cases G:(jK R q).size<=30
           ·have e4:decide ((30:Int)<((jK R q).size:Int))=false:=aM (by omega)
            have aj:Hid (∀j,j<q+1->(jK R j).size<=30):=λj hj=>by
             by_cases e:j=q
             ·rw[e];exact G
             ·exact HJ.out j (by omega)
            clear HI HJ W Ge V Dg G;generalize jK R q=nk at *;go_wp2_with fail;go_roundg g3;case measure=>omega
            case rel=>exact⟨q+1,by omega,by go_num,rfl,aj.out⟩
           ·have e4:(30:Int)<((jK R q).size:Int):=by omega
            clear HI HJ W Ge V Dg G;generalize jK R q=nk at *;go_wp2_with fail;all_goals first|exact z.out|(go_ret;exact z.out)
          |zero=>
           obtain rfl:q=lr:=by omega
           have XG:=ar (W.out (Ge.out h1 J h3 HI.out HJ.out h0));clear HI HJ W Ge V Dg;go_wp2_with fail;go_roundg gg;case measure=>omega
           case rel=>exact⟨i+1,by omega,by omega,by go_num,rfl,XG.out⟩
      ·have e3:(900:Int)<(ld:Int):=by omega
       clear W Ge V Dg;go_wp2_with fail;all_goals first|exact z.out|(go_ret;exact z.out)
     ·have e2:(10:Int)<(lr:Int):=by omega
      clear W Ge V Dg;go_wp2_with fail;all_goals first|exact z.out|(go_ret;exact z.out)
    ·have e1:(10:Int)<(lp:Int):=by omega
     clear W Ge V Dg;go_wp2_with fail;all_goals first|exact z.out|(go_ret;exact z.out)
   ·have e0:(100:Int)<(lk:Int):=by omega
    clear W Ge V Dg;go_wp2_with fail;all_goals first|exact z.out|(go_ret;exact z.out)
theorem Mn{k:Nat}(J:dQ w b gn gl gf (calm (List.replicate k 0) 0)):
  Calls prog 19 #[.pointer (some ⟨b,0,none⟩)] w λe w'=>e= .returned (.tuple #[.pointer none,.int .i64 (if k=3128 then 10 else 1)])/\ay [] w w':=by
 by_cases y:k=3128
 ·subst y
  rw[aB rfl];have V:(List.replicate 3128 (0:Int)).length=3128:=bj;have U:∀n i:Nat,(List.replicate n (0:Int)).getD i 0=0:=λn i=>by
   rw[aj,bb];split<;>rfl
  have z:In64 (List.replicate 3128 0):=λi=>by rw[U];omega
  refine(J6 (b:=b) (gn:=gn) (gl:=gl) (gf:=gf) (R:=λs wx=>s=calm (List.replicate 3128 0) 0/\ay [] w wx) (λs wa wb y ⟨G,W⟩=>⟨G,W.trans' y⟩) ?_).mono ?_
  ·refine(z7 J V (TW z) (U _ _)).mono ?_
   rintro e w3 ⟨rfl,h⟩;exact⟨rfl,_,G1 V z,J.keep h (by simp) (by simp),h.size,rfl,h⟩
  ·rintro e w3 (⟨x,s,rfl,rfl,-,aa,rfl,G⟩|⟨fq,s,rfl,-,hf,ac,Z,rfl,h⟩)
   ·exact⟨rfl,G⟩
   ·exact absurd Z Tp
 ·rw[aA y]
  refine(Qq (by omega) (L3 J (by show(List.replicate k (0:Int)).length≠3128;rw[bj];exact y))).mono ?_;rintro e w' ⟨rfl,rfl⟩;exact⟨rfl,ay.refl _ _⟩
theorem WO{x:Int}(y:x≠0){Q:World->Prop}(h:Calls prog 19 #[.pointer (some ⟨b,0,none⟩)] w λe w'=>e= .returned (.tuple #[.pointer none,.int .i64 x])/\Q w'):
  Calls prog 23 #[.pointer (some ⟨b,0,none⟩),v] w λe w'=>e= .returned (.tuple #[.pointer none,.slice none 0 0,.int .i64 x])/\Q w':=by
 have H:=ar h;have G:(x != 0)=true:=by simpa using y
 clear h y;go_enter func23,ntmps23;go_wp2_with fail;go_step3;go_wp2_with fail;refine H.out.mono ?_;rintro e w' ⟨rfl,z⟩;go_wp2_with fail;try rw[iu]
 go_ret3
 exact⟨rfl,z⟩
def iN.fuse (s:iN) (n:Int):iN:=if s.gone=true then s else { s with fused:=decide (0<=n),left:=max n 0 }
theorem WQ{s:iN}(h:dQ w b gn gl gf s)(n:Int):
  Calls prog 43 #[.pointer (some ⟨b,0,none⟩),.int .i64 n] w λe w'=>e= .returned (.tuple #[])/\dQ w' b gn gl gf (s.fuse n)/\ay [b] w w':=by
 obtain⟨z,J,G,a,-,-,-⟩:=h.at_;have g4:w.frozen? ⟨b,4,none⟩=false:=a.frozen 4;have g5:w.frozen? ⟨b,5,none⟩=false:=a.frozen 5;have k4:w.cell? ⟨b,4,none⟩=some (.bool s.fused):=by rw[a.cell];rfl
 have k5:w.cell? ⟨b,5,none⟩=some (.int .i64 s.left):=by rw[a.cell];rfl
 clear a z J G;have H:=ar h;have U:=ar (FC h);clear h;cases hg:s.gone
 ·rw[hg] at U
  have V:Hid (∀w',ay [b] w w'->(∀z J G,bf w b #[z,J,G,.int .i64 s.deeds,.bool s.fused,.int .i64 s.left] 95->bf w' b #[z,J,G,.int .i64 s.deeds,.bool (decide (0<=n)),.int .i64 (max n 0)] 95)->dQ w' b gn gl gf (s.fuse n)):=λw' y hb=>H.out.six y (by simp[iN.fuse,hg]) (by simpa[iN.fuse,hg] using hb)
  clear hg;by_cases h0:0<=n
  ·have W:decide (0<=n)=true:=by simpa using h0
   have Z:max n 0=n:=by omega
   go_enter func43,ntmps43;go_wp2_with(go_at_call 88;refine U.out.mono ?_;rintro e w' ⟨rfl,rfl⟩);go_end0;have y:ay [b] w ((w.setCell ⟨b,4,none⟩ (.bool true)).setCell ⟨b,5,none⟩ (.int .i64 n)):=((ay.refl _ _).setCell (by simp) _).setCell (by simp) _;refine⟨rfl,V.out _ y λz J G a=> ?_,y⟩;simpa[W,Z] using (a.set 4 (.bool true)).set 5 (.int .i64 n)
  ·have W:decide (0<=n)=false:=by simpa using h0
   have Z:max n 0=0:=by omega
   go_enter func43,ntmps43;go_wp2_with(go_at_call 88;refine U.out.mono ?_;rintro e w' ⟨rfl,rfl⟩);go_end0;have y:ay [b] w ((w.setCell ⟨b,4,none⟩ (.bool false)).setCell ⟨b,5,none⟩ (.int .i64 0)):=((ay.refl _ _).setCell (by simp) _).setCell (by simp) _;refine⟨rfl,V.out _ y λz J G a=> ?_,y⟩;simpa[W,Z] using (a.set 4 (.bool false)).set 5 (.int .i64 0)
 ·rw[hg] at U
  have V:Hid (dQ w b gn gl gf (s.fuse n)):=by
   show dQ w b gn gl gf (s.fuse n);unfold iN.fuse;rw[aB hg];exact H.out
  clear hg;go_enter func43,ntmps43;go_wp2_with(go_at_call 88;refine U.out.mono ?_;rintro e w' ⟨rfl,rfl⟩);refine aL (results_none rfl _ _ _) rfl ?_;exact⟨rfl,V.out,ay.refl _ _⟩
theorem Mo{xs:List Int}(h:dQ w b gn gl gf (calm xs d))(z:xs.length=3128):
  Calls prog 44 #[.pointer (some ⟨b,0,none⟩)] w λe w'=>e= .returned (.bool true)/\w=w':=by
 have y:=ar (qY h 0 (by omega) (by rw[z];omega));rw[show(0:Int).toNat=0 from rfl] at y;clear h z;go_enter func44,ntmps44;go_wp2_with fail;refine y.out.mono ?_;rintro e w' ⟨rfl,rfl⟩;go_wp2_with fail;go_ret;exact⟨rfl,rfl⟩
theorem J7:(prog.info? 34).map (λi=>(i.zero,i.size,i.bytes))=some (some (.agg (GM mB (.slice none 0 0) (.slice none 0 0))),7,88):=by kernel_rfl
theorem T8 (w:World):(Instr.makeSlice 66 (.int .i64 0) (.int .i64 1)).run prog w=
  .ok (.slice (some ⟨w.heap.size,0,none⟩) 0 1) (w.alloc (.cells (madeCells (GM mB (.slice none 0 0) (.slice none 0 0)) 7) 34)):=by
 obtain⟨J,G,h,y,z⟩:=cr J7;have :=run_make (P:= prog) w 66 34 J _ underlying66 G h .i64 .i64 0 1 (by omega) (by omega) (by rw[z];omega) (by omega);rw[y] at this;exact this
theorem Fx:(prog.info? 100).map (·.size)=some 10:=by kernel_rfl
theorem Fy (w:World):(zeroValue 100).run prog w= .ok (.agg #[.int .i64 0,.slice none 0 0,.slice none 0 0,.int .i64 0,.int .i64 0,.slice none 0 0,.bool false,.int .i64 0,.bool false,.slice none 0 0]) w:=by kernel_rfl
def stA (h:Value):Array Value:= #[.int .i64 0,h,.slice none 0 0,.int .i64 0,.int .i64 0,.slice none 0 0,.bool false,.int .i64 0,.bool false,.slice none 0 0]
theorem T9{h:Value}(y:bf w g (stA h) T):(loadVar 100 ⟨g,0,none⟩).run prog w= .ok (.agg (stA h)) w:=
 bE g 0 (stA h).toList underlying100 rfl Fx λj _=>by
  rw[y.cell,aV,cE]
def Mq (h:World) (e:Ending) (w':World):Prop:=
 ∃f g c,e= .returned (.tuple #[.pointer (some ⟨f,0,none⟩),.slice (some ⟨g,0,none⟩) 1 c,.int .i64 0])/\w'.cell? ⟨g,1,none⟩=some (.int .i64 1)/\ay [] h w'
theorem WR{Y:List Int}{vp:Value}(hT:lC W)(eo:ay [] W w)(ag:W.heap.size<=b/\W.heap.size<=gn/\W.heap.size<=gl/\W.heap.size<=gf)
  (hp:dQ w b gn gl gf (calm Y d)) (hd:0<=d/\d<=3520) (hY:Kh Y xY) (ye:(bp Y).length=255) (hb:bf w g (stA vp) T) (hI:Me w (opA ⟨#[97]⟩) vp (.slice none 0 0) (.slice none 0 0)):
  Calls prog 23 #[.pointer (some ⟨b,0,none⟩),.slice (some ⟨g,0,none⟩) 1 1] w (Mq W):=by
 have ae:=hY.len;have ho:=hp.old (by show Y.length≠0;omega);have HM:Hid (Calls prog 19 #[.pointer (some ⟨b,0,none⟩)] w λe G=>∃f,e= .returned (.tuple #[.pointer (some ⟨f,0,none⟩),.int .i64 0])/\Hid (Live W f b gn gl gf xY Y 3520 G/\ay [] w G)):=by
  show Calls _ _ _ _ _;refine(J6 (b:=b) (gn:=gn) (gl:=gl) (gf:=gf) (R:=λs U=>s=calm Y d/\dQ U b gn gl gf s/\ay [] w U) (λs wa wb hk ⟨h1,h2,h3⟩=>⟨h1,h2.keep hk (by simp) (by simp),h3.trans' hk⟩) ?_).mono ?_
  ·refine(z7 hp ae (TW hY.w64) hY.1).mono ?_
   rintro e w3 ⟨rfl,aa⟩;have LZ:=hp.keep aa (by simp) (by simp);exact⟨rfl,_,G1 ae hY.w64,LZ,aa.size,rfl,LZ,aa⟩
  ·rintro e w3 (⟨x,s,rfl,rfl,-,bj,rfl,-⟩|⟨f,s,rfl,-,hf,bt,-,rfl,LZ,aa⟩)
   ·exfalso
    obtain⟨-,T,own,Hd⟩:=hY;exact bj _ ⟨T,own,Hd⟩
   ·have :=eo.size
    refine⟨f,rfl,⟨hf,hY,⟨d,hd,LZ⟩,eo.trans' aa,⟨by omega,ag⟩,λhm=> ?_⟩,aa⟩;simp only[aQ,aS,bD] at hm;omega
 have aD:Hid (∀U f,ay [] w U->Live W f b gn gl gf xY Y 3520 U->Calls prog 10 #[.pointer (some ⟨f,0,none⟩),.agg #[.int .i64 0,vp,.slice none 0 0,.int .i64 0,.int .i64 0,.slice none 0 0]] U λe w'=>∃E K L I vd ve,e= .returned (.agg #[.int .i64 E,.int .i64 1,.int .i64 K,.int .i64 L,.int .i64 I,vd,ve])/\U.heap.size<=w'.heap.size/\(vd.oneCell'=true/\ve.oneCell'=true)/\
   Hid (ay [b,gn,gl,gf] U w'/\ay [] W w'/\∃V d',V.length=3128/\dQ w' b gn gl gf (calm V d'))):=λU f AU hl=>by
  have bg:=Qr (Qt _ rfl) hl hT (by omega) (hI.keep AU);refine bg.mono ?_;rintro e w' ⟨r,Z,rfl,aB,az,h⟩;obtain⟨vd,ve,rfl,-⟩:=id aB;have aj:=aB.at.one;obtain⟨e1,e2⟩:=aau;have hN:r.N=1/\ay [] W w'/\∃V d',V.length=3128/\dQ w' b gn gl gf (calm V d'):=by
   rcases h with ⟨h0,h1,⟨-,-,-,-,h5⟩|rfl⟩|⟨-,-,h5,X',h6⟩
   ·rw[ye,e1] at h5
    omega
   ·exact absurd e1 h0
   ·refine⟨?_,h6.keeps,X',?_⟩
    ·rcases h5 with rfl|⟨h7,-⟩
     ·exact e2
     ·exact absurd h7 (by decide)
    ·obtain⟨d',-,h7⟩:=h6.pm
     exact⟨d',h6.ws.len,h7⟩
  refine⟨r.E,r.K,r.L,r.I,vd,ve,by rw[GM,hN.1],az.size,⟨aj vd (by simp[GM]),aj ve (by simp[GM])⟩,az,hN.2⟩
 have uo:=ar eo.size;have HB:=ar hb;have Uj:=ar ho;have XU:=ar ag;obtain⟨i0,hi,ba,bl,bb⟩:=cr J7;have bq:=hb.lt;have bk:vp.oneCell'=true:=by
  obtain⟨⟨gp,ap,cp,rfl,-⟩,-⟩:=hI;rfl
 clear ae ho hT eo ag hp hd hY ye hb hI;go_enter func23,ntmps23;go_wp2_with fail;go_step3;go_wp2_with fail;refine HM.out.mono ?_;rintro e G ⟨f,rfl,HL⟩;have aR:=T8 G;have aF:(madeCells (GM mB (.slice none 0 0) (.slice none 0 0)) 7).size=7:=by simp[size_madeCells]
 obtain⟨z,ah⟩:∃z,G.alloc (.cells (madeCells (GM mB (.slice none 0 0) (.slice none 0 0)) 7) 34)=z:=⟨_,rfl⟩;have ng:ay [] G z:=by rw[<-ah];exact(ay.refl _ _).alloc _
 have HO:Hid (z.ownsRow w.heap.size 34 7 (.slice (some ⟨G.heap.size,0,none⟩) 0 1) 0 []):=by
  refine⟨rfl,.inr ⟨G.heap.size,1,_,rfl,?_,by rw[<-ah];exact bf.new G _ _,eD _,by unfold maxLen;omega,by rw[aF],by simp⟩⟩;exact HL.out.2.size
 have yI:=HL.out.2.trans' ng;have pd:=ar (HL.out.1.keep0 ng);have aL:=HB.out.keep yI (by simp);obtain⟨w3,aI,af,mO⟩:=bo (P:= prog) (ty:= 100) (cs:=(stA vp).toList) Fx (bf.new z #[.int .i64 0,.slice none 0 0,.slice none 0 0,.int .i64 0,.int .i64 0,.slice none 0 0,.bool false,.int .i64 0,.bool false,.slice none 0 0] 100) rfl (by have :=bk;simp[stA,Value.oneCell'];exact this);rw[ah] at aR;have Ar:ay [] w w3:=(yI.alloc _).trans mO (λy hy=> .inr (by rw[au] at hy;have :=yI.size;omega));have nC:Hid ((loadVar 100 ⟨g,0,none⟩).run prog z= .ok (.agg (stA vp)) z):=T9 aL;have ax:=ar aI;have c6:w3.cell? ⟨z.heap.size,6,none⟩=some (.bool false):=by rw[af.cell];rfl
 have DJ:Hid ((loadVar 37 ⟨z.heap.size,0,none⟩).run prog w3= .ok (.agg #[.int .i64 0,vp,.slice none 0 0,.int .i64 0,.int .i64 0,.slice none 0 0]) w3):=
  bE z.heap.size 0 [.int .i64 0,vp,.slice none 0 0,.int .i64 0,.int .i64 0,.slice none 0 0] underlying37 rfl (by kernel_rfl) λj hj=>by
   rw[af.cell,aV]
   match j,hj with
   |0,_|1,_|2,_|3,_|4,_|5,_=>rfl
 have aP:=ar (aD.out w3 f Ar (pd.out.keep0 (((ay.refl [] z).alloc _).trans mO (λy hy=> .inr (by rw[au] at hy;omega)))));have sS:Hid (G.heap.size<z.heap.size/\w.heap.size<=G.heap.size/\z.heap.size<w3.heap.size):=⟨by rw[<-ah,bO];omega,HL.out.2.size,af.lt⟩;have aM:ay [] z w3:=((ay.refl [] z).alloc _).trans mO (λy hy=> .inr (by rw[au] at hy;omega));have aG:=ar (ct HO.out aM (by simp));have p9:=ar af;have br:=Fy;have Qz:=Ba;rw[Bc] at Qz;clear aI af mO Ar aL yI ng ah aF HB HL pd HO aD aM;go_wp2_with fail;go_step3;go_wp2_with fail;go_loopg [7,9,25] 1 (λgh s7 s9 s25 U=>s7= .pointer (some ⟨f,0,none⟩)/\((gh=1/\s25= .int .i64 0/\s9= .slice (some ⟨G.heap.size,0,none⟩) 0 1/\Hid (U=z))\/
  (gh=0/\s25= .int .i64 1/\∃J c,s9= .slice (some ⟨J,0,none⟩) 1 c/\Hid (U.cell? ⟨J,1,none⟩=some (.int .i64 1)/\J<U.heap.size/\J≠b/\ay [] W U/\∃V d',V.length=3128/\dQ U b gn gl gf (calm V d')))))
 case atStart=>exact⟨rfl,.inl ⟨rfl,rfl,rfl,rfl⟩⟩
 case round=>
  obtain⟨rfl,hrel⟩:=hrel;rcases hrel with ⟨rfl,rfl,rfl,HW⟩|⟨rfl,rfl,J,c,rfl,HI⟩
  ·obtain rfl:wr=z:=HW.out
   clear HW;unfold stA at nC ax;go_wp2_with(first|(with_reducible refine gL 100 nC.out ?_)|(with_reducible refine gS 100 ax.out ?_)|(with_reducible refine gL 37 DJ.out ?_));refine aP.out.mono ?_;rintro e w4 ⟨E,K,L,I,vd,ve,rfl,bn,uK,hq⟩;obtain⟨ak,zj,V,d',hy,aJ⟩:=hq.out;have Ex:=XU.out;have aX:=Uj.out;have bh:=sS.out;have aY:=uo.out;have aW:=ct aG.out ak (λk hk hm=>by
    have bv:k=G.heap.size:=by simpa[Value.ownBlock] using hk.symm
    simp only[aQ,aS,bD] at hm;omega)
   have V2:=ar aW;have aO:=ar aJ;have aU:=ar zj;have vv:=ar (p9.out.keep ak (by simp only[aQ,aS,bD];omega));have HY:=ar hy;have bu:b<G.heap.size:=by omega
   clear hq ak zj hy aJ aP aG p9 aW nC ax DJ aX Ex aR bh aY;go_wp2_with(at_builtin;refine dw _ rfl _ _ 66 rfl w.heap.size 34 i0 (.agg (GM mB (.slice none 0 0) (.slice none 0 0))) 7 88 underlying66 hi ba bl bb rfl (by decide) (.slice (some ⟨G.heap.size,0,none⟩) 0 1) 0 [] rfl (ct V2.out ((ay.refl [] _).alloc _) (by simp)) ⟨w4.heap.size,0,none⟩ 1 1 [.int .i64 E,.int .i64 1,.int .i64 K,.int .i64 L,.int .i64 I,vd,ve] rfl rfl ?c1 ?c2 (by unfold maxLen;omega) (by omega) ?c3 ?_);case c1=>exact iX _ [_,_,_,_,_,_,_] _ _ rfl
   case c2=>intro u hu;simp only[aQ,aS,bD] at hu;rcases hu with rfl|rfl|rfl|rfl|rfl|rfl|rfl<;>first|rfl|exact uK.1|exact uK.2
   case c3=>rw[bO];have :=sS.out;omega
   intro v' w5 ai ac _;obtain⟨J,aA,aH⟩:=eQ.of_row ai;obtain⟨aN,⟨c,rfl,-⟩,aC,-⟩:=aA.cell (by omega);have pB:ay [G.heap.size] w4 w5:=((ay.refl [] w4).alloc _).mono (by simp) |>.trans' (ay.of_grown ac (by simp[Value.ownBlock]));have aZ:=(aH (by omega)).1;have Ex:=XU.out;have av:=aO.out.keep pB (by simp only[au];omega) (λ_=>by have :=Uj.out;have :=sS.out;simp only[au];omega);have bc:=ar (Mo av HY.out);have c8:w5.cell? ⟨wr.heap.size,8,none⟩=some (.bool false):=by
    rw[(vv.out.keep pB (by rw[au];have :=sS.out;omega)).cell];rfl
   have aT:J≠b:=by have :=Uj.out;omega
   have HI:Hid (w5.cell? ⟨J,1,none⟩=some (.int .i64 1)/\J<w5.heap.size/\J≠b/\ay [] W w5/\∃V d',V.length=3128/\dQ w5 b gn gl gf (calm V d')):=⟨by rw[aC 1 (by omega)];rfl,aN,aT,aU.out.trans pB (λy hy=> .inr (by rw[au] at hy;have :=sS.out;have :=uo.out;omega)),V,d',HY.out,av⟩;clear ai ac aA aH aN aC pB aZ Ex av aT aO vv V2 aU HY;go_wp2_with fail;refine bc.out.mono ?_;rintro e w' ⟨rfl,rfl⟩;go_wp2_with fail;go_roundg 0;case measure=>omega
   case rel=>exact⟨rfl,.inr ⟨rfl,by go_num,J,c,rfl,HI.out⟩⟩
  ·obtain⟨q1,q2,q3,q4,V,d',q5,q6⟩:=HI.out
   have Uc:=WQ q6 (-1);have HF:Hid (Calls prog 43 #[.pointer (some ⟨b,0,none⟩),.int .i64 (-1)] wr λe w'=>e= .returned (.tuple #[])/\Hid (Mq W (.returned (.tuple #[.pointer (some ⟨f,0,none⟩),.slice (some ⟨J,0,none⟩) 1 c,.int .i64 0])) w')):=by
    show Calls _ _ _ _ _;refine Uc.mono ?_;rintro e w' ⟨rfl,-,hk⟩;refine⟨rfl,f,J,c,rfl,?_,q4.trans hk λy hy=> .inr ?_⟩
    ·rw[<-q1]
     exact aK (w:=wr) (a:=⟨J,1,none⟩) (hk.block J q2 (by rw[au];exact q3))
    ·rw[au] at hy
     have :=XU.out;omega
   clear Uc HI q1 q2 q3 q4 q5 q6;go_wp2_with fail;refine HF.out.mono ?_;rintro e w' ⟨rfl,HR⟩;clear HF;go_wp2_with fail;try rw[iu]
   go_ret3
   exact HR.out
theorem Dc (hT:lC w):Calls prog 20 #[] w λe w'=>e= .returned (.bool true)/\ay [] w w':=by
 have U:=QY w 3128;rw[show pV 3128=3128 from rfl] at U;have U:=ar U;have V:Hid (∀G b gn gl gf,ay [] w G->(w.heap.size<=b/\w.heap.size<=gn/\w.heap.size<=gl/\w.heap.size<=gf)->dQ G b gn gl gf (calm (List.replicate 3128 0) 0)->Calls prog 24 #[.pointer (some ⟨b,0,none⟩),.int .i64 1] G λe z=>e= .returned (.int .i64 0)/\Hid (Calls prog 23 #[.pointer (some ⟨b,0,none⟩),.slice (some ⟨z.heap.size+1,0,none⟩) 1 1] ((z.alloc (.cells #[.string ⟨#[97]⟩] 9)).alloc (.cells #[.int .i64 0,.slice (some ⟨z.heap.size,0,none⟩) 1 1,.slice none 0 0,.int .i64 0,.int .i64 0,.slice none 0 0,.bool false,.int .i64 0,.bool false,.slice none 0 0] 100)) (Mq w))):=λG b gn gl gf J h Z=>by
  refine(aaq Z (by omega) (by omega) (by simp) (hT.keep J) (.inl rfl)).mono ?_;rintro e z ⟨rfl,Y,hY,ye,aa,ae⟩;refine⟨rfl,?_⟩;have po:ay [] w z:=J.trans ae λy hy=> .inr (by simp only[aQ,aS,bD] at hy;omega)
  have mO:ay [] z ((z.alloc (.cells #[.string ⟨#[97]⟩] 9)).alloc (.cells (stA (.slice (some ⟨z.heap.size,0,none⟩) 1 1)) 100)):=((ay.refl _ _).alloc _).alloc _;have hb:=bf.new (z.alloc (.cells #[.string ⟨#[97]⟩] 9)) (stA (.slice (some ⟨z.heap.size,0,none⟩) 1 1)) 100;rw[bO] at hb;exact WR hT (po.trans' mO) h (aa.keep mO (by simp) (by simp)) (by omega) hY ye hb ⟨⟨_,(T6 z ⟨#[97]⟩ 9).keep ((ay.refl [] _).alloc _) (by simp)⟩,λs hs=>by rw[au.1 hs];decide,⟨0,Mm _ _⟩,by simp[opA],⟨0,wK _ _⟩,by simp[opA]⟩
 have ag:=TZ;have af:=Fy;clear hT;go_enter func20,ntmps20;go_wp2_with fail;refine U.out.mono ?_;rintro e G ⟨b,gn,gl,gf,rfl,Z,h,W⟩;rw[bj] at Z;have HF:=ar (V.out G b gn gl gf W h (by unfold calm;rw[bj];exact Z));clear Z h W U V;go_wp2_with fail;refine HF.out.mono ?_;rintro e z ⟨rfl,HR⟩;clear HF;go_wp2_with fail;refine HR.out.mono ?_;rintro e w3 ⟨f,g,c,rfl,c1,ac⟩;clear HR;go_wp2_with fail;go_ret;exact⟨rfl,ac⟩
theorem AG (hT:lC w){x:Int}(hx:0<=x/\x<=65535){v:Value}{g:Nat}{l:List pQ}(h:wO w v g l):
  Calls prog 6 #[.int .u16 x,v] w λe w'=>e= .returned (.bool true)/\ay [] w w':=by
 have Z:=ar (Dc hT);obtain⟨k,hk⟩:∃k:Nat,x.tmod 4000=(k:Int):=⟨(x.tmod 4000).toNat,by rw[gM (Int.tmod_nonneg _ hx.1)]⟩;have kr:k<4000:=by have :=Int.tmod_lt_of_pos x (show(0:Int)<4000 by omega);omega
 have ae:IntKind.u16.wrap (k:Int)=(k:Int):=by rw[IntKind.wrap_u16];omega
 have QH:Hid (∀y,ay [] w y->Calls prog 21 #[v,.int .i64 5] y λe w'=>∃b,e= .returned (.bool b)/\y=w'/\Hid (ay [] w w')/\Hid (Calls prog 20 #[] w' λe z=>e= .returned (.bool true)/\Hid (ay [] w z))):=λy V=>by
  refine(T7 (h.keep V) 5 (by omega)).mono ?_;rintro e w' ⟨b,rfl,-,rfl⟩;refine⟨b,rfl,rfl,V,?_⟩;show Calls _ _ _ _ _;refine(Dc (hT.keep V)).mono ?_;rintro e z ⟨rfl,J⟩;exact⟨rfl,V.trans' J⟩
 have W:Hid (∀y,ay [] w y->Calls prog 22 #[.int .i64 (k:Int)] y λe w'=>∃b,e= .returned (.pointer (some ⟨b,0,none⟩))/\Hid (Calls prog 23 #[.pointer (some ⟨b,0,none⟩),v] w' λe z=>e= .returned (.tuple #[.pointer none,.slice none 0 0,.int .i64 (if k=3128 then 10 else 1)])/\Hid (ay [] w z))):=λy V=>by
  have hn:=QY y (k:Int);rw[show pV (k:Int)=k by unfold pV;omega] at hn;refine hn.mono ?_;rintro e z ⟨b,gn,gl,gf,rfl,hp,ac,J⟩;rw[bj] at hp;have hp:dQ z b gn gl gf (calm (List.replicate k 0) 0):=by unfold calm;rw[bj];exact hp
  refine⟨b,rfl,?_⟩;show Calls _ _ _ _ _;refine WO (by split<;>omega) ((Mn hp).mono ?_);rintro e w3 ⟨rfl,aa⟩;exact⟨rfl,(V.trans' J).trans' aa⟩
 clear h hT hx;go_enter func6,ntmps6;go_wp2_with fail;refine Z.out.mono ?_;rintro e w1 ⟨rfl,G⟩;have HF:=ar (QH.out w1 G);have HN:=ar (W.out w1 G);clear G Z QH W;go_wp2_with fail;refine HF.out.mono ?_;rintro e z ⟨b,rfl,rfl,HK,HA⟩;clear HF;cases b
 ·go_wp2_with fail
  refine HA.out.mono ?_;rintro e z ⟨rfl,fF⟩;go_wp2_with fail;go_ret;exact⟨rfl,fF.out⟩
 ·clear HA HK
  go_wp2_with fail;refine HN.out.mono ?_;rintro e z ⟨b,rfl,U⟩;clear HN;by_cases h3:k=3128
  ·subst h3
   rw[aB rfl] at U;go_wp2_with fail;refine U.out.mono ?_;rintro e w3 ⟨rfl,lV⟩;clear U;go_wp2_with fail;go_ret;exact⟨rfl,lV.out⟩
  ·rw[aA h3] at U
   have b1:((k:Int)==3128)=false:=by simp only[cj];omega
   go_wp2_with fail;refine U.out.mono ?_;rintro e w3 ⟨rfl,lV⟩;clear U;go_wp2_with fail;go_ret;exact⟨rfl,lV.out⟩
end Go.Proofs.YtepbpdipenedhaaGreatDoor
namespace Go.Proofs.YtepbpdipenedhaaGreatDoor
open Go.Proofs.Tryz
open Go.ChangeShapes Go.WideShapes Go.ChangeAt Go.RowKit
variable{W w w':World}{v:Value}{T b g gf gl gn:Nat}{d:Int}
section
variable {H:Type} {enc:TypeId×Value->H} {W:World} {base:Nat} {spare:Nat->Bool} {held:Bool}
end
section
variable {H:Type} {enc:TypeId×Value->H} {W:World} {base:Nat} {spare:Nat->Bool} {held:Bool}
end
section
variable {P:Program} {H:Type} {enc:TypeId×Value->H} {W:World} {base:Nat} {spare:Nat->Bool} {held:Bool}
theorem Aa {t e:TypeId}{k:IntKind}{fuel:Nat}{cs:List Value}{x:DataW H×List MemPlace}(Z:P.underlying t=some (.slice e))(he:P.underlying e=some (.int k))(hc:P.cellsOf e=1)
  (h:DataW.trod enc P W base spare held fuel t cs=some x):∃(v:Value) (g:Nat) (zs:List Int),cs=[v]/\Reads W v g (zs.map (Value.int k))/\∀n∈zs,(Lit.int k n).wf=true:=by
 rcases open_ints Z he hc h with ⟨rfl,-⟩|⟨a,len,cap,zs,rfl,-,hl,V,hz,-,y,G⟩
 ·exact⟨_,0,[],rfl,⟨none,0,rfl,by simp,by simp[maxLen],λh=>absurd rfl h⟩,by simp⟩
 ·have aa:len<=zs.length:=by rw[hz];split<;>omega
  have J:((zs.take len).map (Value.int k)).length=len:=by simp;omega
  by_cases h0:len=0
  ·subst h0
   exact⟨_,0,[],rfl,⟨some a,cap,rfl,by simp,V,λh=>absurd rfl h⟩,by simp⟩
  ·have z:=y 0 (by omega)
   obtain⟨g,off,rfl⟩:=Bf z rfl;refine⟨_,g,zs.take len,rfl,⟨some ⟨g,off,none⟩,cap,by rw[J],by rw[J];exact hl,V,λ_=>⟨by simpa[add_plain] using vG z,off,rfl,λj U=> ?_⟩⟩,λn hn=>G n (bQ hn)⟩;rw[J] at U;have :=y j (by omega);rw[add_plain] at this;rw[this];simp[U,show j<zs.length by omega]
theorem open_strs{fuel:Nat}{cs:List Value}{x:DataW H×List MemPlace}(h:DataW.trod enc prog W base spare held fuel 29 cs=some x):∃v g P,cs=[v]/\jh W v g P:=by
 obtain⟨a,len,cap,rfl,h1,V,h3⟩:=Ec (sz:=1) underlying29 (by kernel_rfl) (by omega) h;by_cases h0:len=0
 ·subst h0
  exact⟨_,0,[],rfl,⟨a,cap,rfl,by simp,V,λh=>absurd rfl h⟩⟩
 ·obtain⟨g,off,rfl,hg,hx⟩:=h3 h0
  have z:∀i,i<len->∃s:ByteArray,W.cell? ⟨g,off+i,none⟩=some (.string s):=λi J=>by
   obtain⟨U,y,n,hl,hc,ht⟩:=hx i J
   match U,hl with
   | [c0],_=>
    obtain⟨s,Z,-⟩:=DataW.trod_string underlying9 ht;simp only[iV,and_true] at Z;subst Z;have :=hc 0 (by omega);rw[Nat.mul_one,dP] at this;exact⟨s,this⟩
  obtain⟨f,hf⟩:∃f:Nat->ByteArray,∀i,i<len->W.cell? ⟨g,off+i,none⟩=some (.string (f i)):=
   ⟨λi=>if h:i<len then Classical.choose (z i h) else ByteArray.empty,λi J=>by simp only[dif_pos J];exact Classical.choose_spec (z i J)⟩
  refine⟨_,g,(List.range len).map f,rfl,⟨some ⟨g,off,none⟩,cap,by simp,by simpa using h1,V,λ_=>⟨hg,off,rfl,λj hj=> ?_⟩⟩⟩;have G:j<len:=by simpa using hj
  rw[hf j G];simp[G]
theorem Ua {fuel:Nat}{cs:List Value}{x:DataW H×List MemPlace}(h:DataW.trod enc prog W base spare held fuel 37 cs=some x):∃(o:pX) (Z:Array Value),cs=Z.toList/\acB W o Z:=by
 obtain⟨xs,n,-,-,hl,G,z⟩:=DataW.trod_struct underlying37 h;rw[show prog.cellsOf 37 =6 by kernel_rfl] at hl
 match cs,hl with
 | [c0,c1,c2,c3,c4,c5],_=>
  have f0:DataW.trod enc prog W base spare held n 3 (([c0,c1,c2,c3,c4,c5].drop 0).take (prog.cellsOf 3))=xs[0]? :=z 0 _ rfl;have f1:DataW.trod enc prog W base spare held n 29 (([c0,c1,c2,c3,c4,c5].drop 1).take (prog.cellsOf 29))=xs[1]? :=z 1 _ rfl;have f2:DataW.trod enc prog W base spare held n 29 (([c0,c1,c2,c3,c4,c5].drop 2).take (prog.cellsOf 29))=xs[2]? :=z 2 _ rfl;have f3:DataW.trod enc prog W base spare held n 3 (([c0,c1,c2,c3,c4,c5].drop 3).take (prog.cellsOf 3))=xs[3]? :=z 3 _ rfl;have f4:DataW.trod enc prog W base spare held n 3 (([c0,c1,c2,c3,c4,c5].drop 4).take (prog.cellsOf 3))=xs[4]? :=z 4 _ rfl;have f5:DataW.trod enc prog W base spare held n 31 (([c0,c1,c2,c3,c4,c5].drop 5).take (prog.cellsOf 31))=xs[5]? :=z 5 _ rfl;simp only[show prog.cellsOf 3 =1 by kernel_rfl,show prog.cellsOf 29 =1 by kernel_rfl,show prog.cellsOf 31 =1 by kernel_rfl,List.drop_zero,List.drop_succ_cons,List.take_succ_cons,eI] at f0 f1 f2 f3 f4 f5
  match xs,G with
  | [y0,y1,y2,y3,y4,y5],_=>
   simp only[iE,cN] at f0 f1 f2 f3 f4 f5;obtain⟨n0,e0,-,w0⟩:=DataW.trod_int underlying3 f0;obtain⟨vp,gp,P,e1,hP⟩:=open_strs f1;obtain⟨vq,gq,Q,e2,hQ⟩:=open_strs f2;obtain⟨J,U,-,w3⟩:=DataW.trod_int underlying3 f3;obtain⟨n4,e4,-,w4⟩:=DataW.trod_int underlying3 f4;obtain⟨vd,gd,D,V,hD,hw⟩:=Aa (P:= prog) underlying31 underlying5 (by kernel_rfl) f5;simp only[iV,and_true] at e0 e1 e2 U e4 V;subst e0 e1 e2 U e4 V;refine⟨⟨n0,P,Q,J,n4,D⟩,GQ ⟨n0,P,Q,J,n4,D⟩ c1 c2 c5,rfl,⟨⟨c1,c2,c5,rfl,⟨gp,hP⟩,⟨gq,hQ⟩,gd,hD⟩,⟨bounds_i64 w0,bounds_i64 w3,bounds_i64 w4⟩,λy hy=> ?_⟩⟩;have :=bounds_u8 (hw y hy);omega
end
section
variable {P:Program} {H:Type} {enc:TypeId×Value->H} {W:World} {base:Nat} {spare:Nat->Bool} {held:Bool}
theorem Qv {fuel:Nat}{cs:List Value}{x:DataW H×List MemPlace}(h:DataW.trod enc prog W base spare held fuel 100 cs=some x):∃(s:pQ) (Z:Array Value),cs=Z.toList/\Da W s Z:=by
 obtain⟨xs,n,-,-,hl,G,z⟩:=DataW.trod_struct underlying100 h;rw[show prog.cellsOf 100 =10 by kernel_rfl] at hl
 match cs,hl with
 | [c0,c1,c2,c3,c4,c5,c6,c7,c8,c9],_=>
  have f0:DataW.trod enc prog W base spare held n 37 (([c0,c1,c2,c3,c4,c5,c6,c7,c8,c9].drop 0).take (prog.cellsOf 37))=xs[0]? :=z 0 _ rfl;have f1:DataW.trod enc prog W base spare held n 4 (([c0,c1,c2,c3,c4,c5,c6,c7,c8,c9].drop 6).take (prog.cellsOf 4))=xs[1]? :=z 1 _ rfl;have f2:DataW.trod enc prog W base spare held n 3 (([c0,c1,c2,c3,c4,c5,c6,c7,c8,c9].drop 7).take (prog.cellsOf 3))=xs[2]? :=z 2 _ rfl;have f3:DataW.trod enc prog W base spare held n 4 (([c0,c1,c2,c3,c4,c5,c6,c7,c8,c9].drop 8).take (prog.cellsOf 4))=xs[3]? :=z 3 _ rfl;have f4:DataW.trod enc prog W base spare held n 31 (([c0,c1,c2,c3,c4,c5,c6,c7,c8,c9].drop 9).take (prog.cellsOf 31))=xs[4]? :=z 4 _ rfl;simp only[show prog.cellsOf 37 =6 by kernel_rfl,show prog.cellsOf 4 =1 by kernel_rfl,show prog.cellsOf 3 =1 by kernel_rfl,show prog.cellsOf 31 =1 by kernel_rfl,List.drop_zero,List.drop_succ_cons,List.take_succ_cons,eI] at f0 f1 f2 f3 f4
  match xs,G with
  | [y0,y1,y2,y3,y4],_=>
   simp only[iE,cN] at f0 f1 f2 f3 f4;obtain⟨o,Z0,e0,J⟩:=Ua f0;obtain⟨vp,vq,vd,rfl,hp,hq,hd⟩:=J.cells;obtain⟨U,e1,-⟩:=DataW.trod_bool underlying4 f1;obtain⟨n2,e2,-,w2⟩:=DataW.trod_int underlying3 f2;obtain⟨b3,V,-⟩:=DataW.trod_bool underlying4 f3;obtain⟨vk,gk,D,e4,hD,hw⟩:=Aa (P:= prog) underlying31 underlying5 (by kernel_rfl) f4;simp only[GQ,iV,and_true] at e0 e1 e2 V e4;obtain⟨rfl,rfl,rfl,rfl,rfl,rfl⟩:=e0;subst e1 e2 V e4;refine⟨⟨o,U,n2,b3,D⟩,XZ ⟨o,U,n2,b3,D⟩ c1 c2 c5 c9,rfl,⟨⟨c1,c2,c5,c9,rfl,hp,hq,hd,gk,hD⟩,⟨J.i64,bounds_i64 w2⟩,J.bytes,λy hy=> ?_⟩⟩;have :=bounds_u8 (hw y hy);omega
theorem Mr {fuel:Nat}{cs:List Value}{x:DataW H×List MemPlace}(h:DataW.trod enc prog W base spare held fuel 63 cs=some x):∃v g l,cs=[v]/\wO W v g l:=by
 obtain⟨a,len,cap,rfl,h1,h2,h3⟩:=Ec (sz:=10) underlying63 (by kernel_rfl) (by omega) h;by_cases h0:len=0
 ·subst h0
  exact⟨_,0,[],rfl,a,cap,rfl,by simp,h2,λj U=>by simp at U⟩
 ·obtain⟨g,off,rfl,hg,hx⟩:=h3 h0
  have G:∀i,i<len->∃p:pQ×Array Value,Da W p.1 p.2/\∀c,c<10->W.cell? ⟨g,off+(i*10+c),none⟩=p.2[c]? :=λi J=>by
   obtain⟨aa,y,n,hl,hc,V⟩:=hx i J;obtain⟨o,Z,rfl,ho⟩:=Qv V;exact⟨(o,Z),ho,λc h=>by rw[hc c h,cE]⟩
  obtain⟨f,hf⟩:∃f:Nat->pQ×Array Value,∀i,i<len->Da W (f i).1 (f i).2/\∀c,c<10->W.cell? ⟨g,off+(i*10+c),none⟩=(f i).2[c]? :=
   ⟨λi=>if h:i<len then Classical.choose (G i h) else (XY,#[]),λi J=>by simp only[dif_pos J];exact Classical.choose_spec (G i J)⟩
  refine⟨_,g,(List.range len).map λi=>(f i).1,rfl,_,cap,by simp,by simpa using h1,h2,λj U=>⟨hg,off,rfl,(f j).2,?_,λt V=> ?_⟩⟩
  ·have z:j<len:=by simpa using U
   have e1:sT ((List.range len).map λi=>(f i).1) j=(f j).1:=by simp[sT,z]
   rw[e1];exact(hf j z).1
  ·have z:j<len:=by simpa using U
   rw[Nat.add_assoc];exact(hf j z).2 t V
end
end Go.Proofs.YtepbpdipenedhaaGreatDoor
namespace Go.Proofs.YtepbpdipenedhaaGreatDoor
open Go.Proofs.Tryz
open Go.ChangeShapes Go.WideShapes Go.ChangeAt Go.WideMaps Go.WideElems Go.RowKit
variable{W w w':World}{v:Value}{T b g gf gl gn:Nat}{d:Int}
theorem Tryz.gTab: prog.globalNamed "math/bits.deBruijn64tab" =some 0 :=by kernel_rfl
theorem Tryz.tTab:(prog.globals[0]?).map (·.type)=some 267 :=by kernel_rfl
theorem Tryz.cells_u8: prog.cellsOf 5 =1:=by kernel_rfl
theorem WS{H:Type}:Rows.laid_math_bits_deBruijn64tab (H:=H)= .agg (Lib.deBruijn64tab.map λn:Nat=> .lit (.int .u8 (n:Int))):=rfl
theorem J8 (h:laidMetH prog [("math/bits.deBruijn64tab",Rows.laid_math_bits_deBruijn64tab)] W):lC W:=by
 rw[MakeChecks.laidMetH_plain _ _ _ (by kernel_rfl)] at h;obtain⟨ps,⟨g0,t0,z,f0,p0,q0,V,af,ah,ac,_,_⟩,_,_⟩:=h;obtain rfl:=Option.some.inj (Tryz.gTab.symm.trans V);obtain rfl:=Option.some.inj (Tryz.tTab.symm.trans af);obtain⟨xs,m,rfl,hx,Z,hn,ae⟩:=DataW.trod_array underlying267 ac;rw[WS] at hx;simp only[Prod.mk.injEq,DataW.agg.injEq] at hx;intro j hj;have G:=ae j hj;rw[Tryz.cells_u8,Nat.mul_one] at G;cases hxj:xs[j]? with
 |none=>rw[List.getElem?_eq_none_iff] at hxj;omega
 |some y=>
  rw[hxj] at G;have U:((z.toList.drop j).take 1).length=1:=by
   rw[aI,bu];have ag: prog.cellsOf 267 =64:=by kernel_rfl
   rw[ag] at Z;omega
  obtain⟨c,hc⟩:∃c,(z.toList.drop j).take 1=[c]:=by
   match (z.toList.drop j).take 1,U with
   | [c],_=>exact⟨c,rfl⟩
  rw[hc] at G;obtain⟨k,e1,e2,_⟩:=DataW.trod_int underlying5 G;have hk:(xs.map (·.1))[j]? =some (.lit (.int .u8 k)):=by rw[bC,hxj,e2];rfl
  rw[<-hx.1,bC] at hk;have aa:j<Lib.deBruijn64tab.length:=hj;rw[aF aa] at hk;have ai:k=((Lib.deBruijn64tab.getD j 0:Nat):Int):=by
   have :((Lib.deBruijn64tab[j]:Nat):Int)=k:=by simpa using hk
   rw[<-this,aj,aF aa];rfl
  have J:=World.var?_cell V ah j;rw[J,<-ai];have h3:((z.toList.drop j).take 1)[0]? =some c:=by rw[hc];rfl
  rw[cy,aB (by omega),cg,dP,cE] at h3;rw[h3];simp only[iV,and_true] at e1;rw[e1]
theorem Ub (os:Os)(args:Array Value):laidMetH prog [("math/bits.deBruijn64tab",Rows.laid_math_bits_deBruijn64tab)] ((World.doorLaid prog 400 os).forCall (λ_ _=>0) ⟨#[],args,[]⟩).memory:=
 laidMetH_of_parts3 (fuel:=8) (laidMet_of_run' 8 (by kernel_rfl) (by kernel_rfl)) (by kernel_rfl) (by kernel_rfl)
end Go.Proofs.YtepbpdipenedhaaGreatDoor
