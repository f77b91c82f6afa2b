/- Lemmas. -/
import Derived.Test.YtepbpdipenedhaaGreatDoorM35
import Derived.LaidMore
import Derived.Stop.Joined
import Derived.Laws.IdiomArrays
set_option maxHeartbeats 4000000
set_option maxRecDepth 100000
namespace Go.Proofs.YtepbpdipenedhaaGreatDoor
open Go.Proofs.Tryz
section
open Go.RowKit
variable{w w':World}{v:Value}{b f g gf gl gn:Nat}{l:List jB}{M:Nat->Nd}{X:List Int}{n:Int}
def opZ:jB:=⟨0,[],[],0,0,[]⟩
def oT (l:List jB) (j:Nat):jB:=l.getD j opZ
structure Ir (w:World) (o:jB) (Z:Array Value):Prop where
 cells:∃vp vq vd,Z=BV o vp vq vd/\(∃g,gN w vp g o.P)/\(∃g,gN w vq g o.Q)/\∃g,Reads w vd g (kT o.D)
 i64:(-9223372036854775808<=o.K/\o.K<=9223372036854775807)/\(-9223372036854775808<=o.O/\o.O<=9223372036854775807)/\(-9223372036854775808<=o.N/\o.N<=9223372036854775807)
 bytes:aex o
theorem Ir.keep{o:jB}{Z:Array Value}(h:Ir w o Z)(z:ay [] w w'):Ir w' o Z:=by
 obtain⟨J,vq,vd,e,⟨G,h1⟩,⟨g2,W⟩,V,U⟩:=h.cells;exact⟨⟨J,vq,vd,e,⟨G,h1.keep z (by simp)⟩,⟨g2,W.keep z (by simp)⟩,V,U.keep z (by simp)⟩,h.i64,h.bytes⟩
def xh (w:World) (v:Value) (g:Nat) (l:List jB):Prop:=
 ∃a cap,v= .slice a l.length cap/\l.length<=cap/\cap<=maxLen/\∀j,j<l.length->g<w.heap.size/\∃off,a=some ⟨g,off,none⟩/\∃Z,Ir w (oT l j) Z/\∀t,t<6->w.cell? ⟨g,off+j*6+t,none⟩=Z[t]?
theorem xh.keep(h:xh w v g l)(z:ay [] w w'):xh w' v g l:=by
 obtain⟨a,cap,e,h1,h2,V⟩:=h;refine⟨a,cap,e,h1,h2,λj hj=> ?_⟩;obtain⟨G,off,U,Z,W,hc⟩:=V j hj;exact⟨bS G z.size,off,U,Z,W.keep z,λt J=>(aO (w:=w) (z.block g G (by simp))).trans (hc t J)⟩
structure Sb (o:jB):Prop where
 lens:o.P.length<=10/\o.Q.length<=10/\o.D.length<=900
 path:∀k,k<o.P.length->(lG o.P k).size<=30
 dest:∀k,k<o.Q.length->(lG o.Q k).size<=30
def Ce (w:World) (l:List jB) (n:Nat) (e:Ending) (w':World):Prop:=∃b,e= .returned (.bool b)/\(b=true->l.length<=n/\∀j,j<l.length->j<300->Sb (oT l j))/\w=w'
theorem aaJ (h:xh w v g l)(n:Nat)(_:n<=100000):Calls prog 8 #[v,(n:Int)] w (Ce w l n):=by
 obtain⟨a,cap,rfl,ay,ae,ac⟩:=h;have HG:Hid (∀j,j<l.length->∃off,a=some ⟨g,off,none⟩/\∃ap cp aq cq ad cd,w.cell? ⟨g,off+j*6+1,none⟩=some (.slice ap (oT l j).P.length cp)/\w.cell? ⟨g,off+j*6+2,none⟩=some (.slice aq (oT l j).Q.length cq)/\w.cell? ⟨g,off+j*6+5,none⟩=some (.slice ad (oT l j).D.length cd)/\
   (∀k,k<(oT l j).P.length->∃gp V,ap=some ⟨gp,V,none⟩/\w.cell? ⟨gp,V+k,none⟩=some (.string (lG (oT l j).P k)))/\
   (∀k,k<(oT l j).Q.length->∃gp V,aq=some ⟨gp,V,none⟩/\w.cell? ⟨gp,V+k,none⟩=some (.string (lG (oT l j).Q k)))/\
   (oT l j).P.length<=9223372036854775807/\(oT l j).Q.length<=9223372036854775807/\(oT l j).D.length<=9223372036854775807):=λj hj=>by
  obtain⟨hg,off,ha,Z,hz,hc⟩:=ac j hj;obtain⟨vp,vq,vd,rfl,⟨gp,hP⟩,⟨gq,hQ⟩,gd,hD⟩:=hz.cells;obtain⟨ap,cp,rfl,aL,ah,WY⟩:=hP.open;obtain⟨aq,cq,rfl,aC,au,SK⟩:=hQ.open;obtain⟨ad,cd,rfl,az,av,-⟩:=hD;rw[fG] at *;unfold maxLen at ah au av;refine⟨off,ha,ap,cp,aq,cq,ad,cd,hc 1 (by omega),hc 2 (by omega),hc 5 (by omega),λk hk=> ?_,λk hk=> ?_,by omega,by omega,by omega⟩
  ·obtain⟨-,V,h1,U⟩:=WY.out k hk
   exact⟨gp,V,h1,U⟩
  ·obtain⟨-,V,h1,U⟩:=SK.out k hk
   exact⟨gq,V,h1,U⟩
 have HF:Hid (∀b,(b=true->l.length<=n/\∀j,j<l.length->j<300->Sb (oT l j))->Ce w l n (.returned (.bool b)) w):=λb h=>⟨b,rfl,h,rfl⟩
 have J:=ar (HF.out false (by simp));unfold maxLen at ae;clear ac;generalize Ce w l n=Q,hm:l.length=m at *;clear hm;go_in;go_wp2_with fail;go_loopg [5] 300 (λgh s5 wx=>∃k:Nat,k+gh=300/\k<=m/\s5= .int .i64 (k:Int)/\wx=w/\Hid (∀j,j<k->Sb (oT l j)))
 case atStart=>exact⟨0,by omega,by omega,rfl,rfl,λj hj=>by omega⟩
 case round=>
  obtain⟨i,hi,aH,rfl,rfl,HP⟩:=hrel;by_cases z:i=m\/i=300
  ·have HE:Hid (∀b,(b=true->m<=n)->Q (.returned (.bool b)) wr):=λb hb=>HF.out b λh=>⟨hb h,λj hj aF=>HP.out j (by omega)⟩
   clear HF HG HP;by_cases Us:m<=n
   ·have h1:(m:Int)<=(n:Int):=by omega
    rcases dE i m with U|U
    ·have aa:(i:Int)<(m:Int):=by omega
     have h3:decide ((i:Int)<300)=false:=aQ (by omega);clear z;go_wp2_with fail
     first|exact HE.out true (λ_=>Us)|(go_ret;exact HE.out true (λ_=>Us))
    ·have aa:decide ((i:Int)<(m:Int))=false:=aQ (by omega)
     clear z;go_wp2_with fail
     first|exact HE.out true (λ_=>Us)|(go_ret;exact HE.out true (λ_=>Us))
   ·have h1:decide ((m:Int)<=(n:Int))=false:=aQ (by omega)
    rcases dE i m with U|U
    ·have aa:(i:Int)<(m:Int):=by omega
     have h3:decide ((i:Int)<300)=false:=aQ (by omega);clear z;go_wp2_with fail
     first|exact J.out|(go_ret;exact J.out)
    ·have aa:decide ((i:Int)<(m:Int))=false:=aQ (by omega)
     clear z;go_wp2_with fail
     first|exact J.out|(go_ret;exact J.out)
  ·have ag:i<m:=by omega
   have aJ:i<300:=by omega
   have aa:(i:Int)<(m:Int):=by omega
   have aB:(i:Int)<300:=by omega
   have aI:(0:Int)<=(i:Int):=by omega
   obtain⟨gg,rfl⟩:∃gg,gk=gg+1:=⟨gk-1,by omega⟩;obtain⟨off,rfl,ap,cp,aq,cq,ad,cd,c1,c2,c5,hp,hq,l1,l2,l3⟩:=HG.out i ag;obtain⟨W,BH⟩:=hh2 hp hq;have nG:Hid (Sb (oT l i)->∀j,j<i+1->Sb (oT l j)):=λh j hj=>by
    by_cases e:j=i
    ·rw[e];exact h
    ·exact HP.out j (by omega)
   have Ml:Hid ((oT l i).P.length<=10->(oT l i).Q.length<=10->(oT l i).D.length<=900->(∀k,k<(oT l i).P.length->(lG (oT l i).P k).size<=30)->(∀k,k<(oT l i).Q.length->(lG (oT l i).Q k).size<=30)->Sb (oT l i)):=λh1 U h3 h4 h5=>⟨⟨h1,U,h3⟩,h4,h5⟩
   clear z HP HG hp hq HF;generalize (oT l i).P=P,(oT l i).Q=R,(oT l i).D.length=ld at *;generalize ak:P.length=lp,af:R.length=lr at *;clear ak af;by_cases h1:lp<=10
   ·have e1:decide ((10:Int)<(lp:Int))=false:=aQ (by omega)
    by_cases U:lr<=10
    ·have e2:decide ((10:Int)<(lr:Int))=false:=aQ (by omega)
     by_cases h3:ld<=900
     ·have e3:decide ((900:Int)<(ld:Int))=false:=aQ (by omega)
      go_wp2_with fail;go_loopg [6] lp (λgh s6 wx=>∃k:Nat,k+gh=lp/\s6= .int .i64 (k:Int)/\wr=wx/\Hid (∀j,j<k->(lG P j).size<=30))
      case atStart=>exact⟨0,by omega,rfl,rfl,λj hj=>by omega⟩
      case round=>
       obtain⟨k,hk,rfl,rfl,HI⟩:=hrel;cases gk with
       |succ g2=>
        have JN:k<lp:=by omega
        have xI:(k:Int)<(lp:Int):=by omega
        have cJ:(0:Int)<=(k:Int):=by omega
        obtain⟨gp,V,rfl,d1⟩:=W.out k JN;by_cases G:(lG P k).size<=30
        ·have e4:decide ((30:Int)<((lG P k).size:Int))=false:=aQ (by omega)
         have ai:Hid (∀j,j<k+1->(lG P j).size<=30):=λj hj=>by
          by_cases e:j=k
          ·rw[e];exact G
          ·exact HI.out j (by omega)
         clear HI nG Ml W BH G;generalize lG P k=nk at *;go_wp2_with fail;go_roundg g2;case measure=>omega
         case rel=>exact⟨k+1,by omega,by go_num,rfl,ai.out⟩
        ·have e4:(30:Int)<((lG P k).size:Int):=by omega
         clear HI nG Ml W BH G;generalize lG P k=nk at *;go_wp2_with fail
         first|exact J.out|(go_ret;exact J.out)
       |zero=>
        obtain rfl:k=lp:=by omega
        have aA:¬(k:Int)<(k:Int):=by omega
        go_wp2_with fail;go_loopg [7] lr (λgh s7 wx=>∃q:Nat,q+gh=lr/\s7= .int .i64 (q:Int)/\wr=wx/\Hid (∀j,j<q->(lG R j).size<=30))
        case atStart=>exact⟨0,by omega,rfl,rfl,λj hj=>by omega⟩
        case round=>
         obtain⟨q,aD,rfl,rfl,HJ⟩:=hrel;cases gk with
         |succ g3=>
          have aj:q<lr:=by omega
          have aG:(q:Int)<(lr:Int):=by omega
          have aK:(0:Int)<=(q:Int):=by omega
          obtain⟨gq,oq,rfl,d1⟩:=BH.out q aj;by_cases G:(lG R q).size<=30
          ·have e4:decide ((30:Int)<((lG R q).size:Int))=false:=aQ (by omega)
           have ax:Hid (∀j,j<q+1->(lG R j).size<=30):=λj hj=>by
            by_cases e:j=q
            ·rw[e];exact G
            ·exact HJ.out j (by omega)
           clear HI HJ nG Ml W BH G;generalize lG R q=nk at *;go_wp2_with fail;go_roundg g3;case measure=>omega
           case rel=>exact⟨q+1,by omega,by go_num,rfl,ax.out⟩
          ·have e4:(30:Int)<((lG R q).size:Int):=by omega
           clear HI HJ nG Ml W BH G;generalize lG R q=nk at *;go_wp2_with fail
           first|exact J.out|(go_ret;exact J.out)
         |zero=>
          obtain rfl:q=lr:=by omega
          have NW:=ar (nG.out (Ml.out h1 U h3 HI.out HJ.out));clear HI HJ nG Ml W BH;go_wp2_with fail;go_roundg gg;case measure=>omega
          case rel=>exact⟨i+1,by omega,by omega,by go_num,rfl,NW.out⟩
     ·have e3:(900:Int)<(ld:Int):=by omega
      clear nG Ml W BH;go_wp2_with fail
      first|exact J.out|(go_ret;exact J.out)
    ·have e2:(10:Int)<(lr:Int):=by omega
     clear nG Ml W BH;go_wp2_with fail
     first|exact J.out|(go_ret;exact J.out)
   ·have e1:(10:Int)<(lp:Int):=by omega
    clear nG Ml W BH;go_wp2_with fail
    first|exact J.out|(go_ret;exact J.out)
theorem Live.le{z:World}{n':Int}(h:Live z f b gn gl gf M X n w)(U:n<=n'):Live z f b gn gl gf M X n' w:=by
 obtain⟨d,J,G⟩:=h.pm;exact⟨h.fs,h.ws,⟨d,by omega,G⟩,h.keeps,h.new,h.off⟩
theorem Live.pw{G:World}(h:Live G f b gn gl gf M X n w):se w b gn gl gf n:=by
 obtain⟨d,z,J⟩:=h.pm;exact⟨_,J,h.ws.len,h.ws.w64,rfl,rfl,z⟩
theorem xh.op{a:Option Addr}{n cap:Nat}(h:xh w (.slice a n cap) g l){k:Nat}(hk:k<l.length)(hf:Sb (oT l k)):
  ∃off J vq vd,a=some ⟨g,off,none⟩/\∀G,ay [] w G->Ie G (oT l k) J vq vd/\(loadVar 37 ⟨g,off+k*6,none⟩).run prog G= .ok (.agg (BV (oT l k) J vq vd)) G:=by
 obtain⟨a',c',e,-,-,W⟩:=h;cases e;obtain⟨hg,off,ha,Z,hz,U⟩:=W k hk;obtain⟨J,vq,vd,rfl,hp,hq,hd⟩:=hz.cells;refine⟨off,J,vq,vd,ha,λG zV=>⟨Ie.keep ⟨hp,λs V=> ?_,hq,λs V=> ?_,hd,hz.bytes⟩ zV,?_⟩⟩
 ·obtain⟨j,z,rfl⟩:=bY V
  have :=hf.path j z;rw[lG,show(oT l k).P.getD j ByteArray.empty=(oT l k).P[j] by simp[z]] at this;omega
 ·obtain⟨j,z,rfl⟩:=bY V
  have :=hf.dest j z;rw[lG,show(oT l k).Q.getD j ByteArray.empty=(oT l k).Q[j] by simp[z]] at this;omega
 ·exact b7 g (off+k*6) (BV (oT l k) J vq vd).toList underlying37 rfl (by kernel_rfl) λj z=>by
   rw[aO (w:=w) (a:=⟨g,off+k*6+j,none⟩) (zV.block g hg (by simp)),U j (by simpa[BV] using z),dG]
theorem Md (hT:lD w){v:Value}{g:Nat}{l:List jB}(hL:xh w v g l){vb:Value}{gb:Nat}{ps:List (Int×Int)}(hB:ku w vb gb ps)(hu:∀k,0<=lv ps k/\lv ps k<18446744073709551616):
  Calls prog 5 #[v,vb] w λe w'=>e=true/\ay [] w w':=by
 obtain⟨ah,ak,zX,VO,SC,EH,ae⟩:=hh7 (λz (V:ay [] w z)=>R9 (hT.keep V)) (λz (V:ay [] w z)=>aaJ (hL.keep V) 15 (by omega)) (λz (V:ay [] w z)=>Px (hT.keep V) (k:=2) (.inr rfl)) hT hL hB hu;obtain⟨a,cap,rfl,aM,av,af⟩:=hL;obtain⟨ab,cb,rfl,aH,aB⟩:=hB.val;unfold maxLen at av aB;have aP:l.length<=9223372036854775807:=by omega
 have aT:ps.length<=9223372036854775807:=by omega
 clear hT af hB hu aM av aH aB;unfold Ce at ak;go_in;go_wp2_with fail;refine Rr (ah.out w (ay.refl _ _)) λw1 aj=> ?_;obtain⟨jK,aF⟩:=hh2 aj (ak.out w1 aj);clear aj ak;go_wp2_with fail;refine aF.out.mono ?_;rintro e w' ⟨fb,rfl,az,rfl⟩;have U:=ar az;have ag:Hid (Calls prog 7 #[] w1 λe w2=>e=true/\Hid (ay [] w w2)):=(ah.out w1 jK.out).mono λe w2 h=>⟨h.1,jK.out.trans' h.2⟩
 clear az aF ah;cases fb
 ·clear zX U
  go_wp2_with fail;refine Rr ag.out λw2 fx=> ?_;go_wp2_with fail;go_ret;exact⟨rfl,fx.out⟩
 by_cases h6:6<ps.length
 ·have aG:(6:Int)<(ps.length:Int):=by omega
  clear zX U;go_wp2_with fail;refine Rr ag.out λw2 fx=> ?_;go_wp2_with fail;go_ret;exact⟨rfl,fx.out⟩
 have aG:decide ((6:Int)<(ps.length:Int))=false:=aQ (by omega);have aD:=ar (zX.out w1 jK.out);clear zX ag;go_wp2_with fail;refine aD.out.mono ?_;rintro e w3 ⟨f,b,gn,gl,gf,Y,rfl,hl,-⟩;obtain⟨vE,HN⟩:=hh2 hl hl.new;clear hl aD;go_wp2_with fail;go_loopg [7] l.length (λgh s7 z=>∃k:Nat,k+gh=l.length/\s7= .int .i64 (k:Int)/\Hid (∃M X,Live w1 f b gn gl gf M X (3520+3000*(k:Int)) z))
 case atStart=>exact⟨0,by omega,rfl,_,_,vE.out⟩
 case round=>
  obtain⟨k,V,rfl,HI⟩:=hrel;have aV:l.length<=15:=(U.out trivial).1;cases gk with
  |zero=>
   obtain rfl:k=l.length:=by omega
   have aR:¬(l.length:Int)<(l.length:Int):=by omega
   have ac:Hid (ay [] w1 wr/\se wr b gn gl gf 50000):=by
    obtain⟨M,X,su⟩:=HI.out;exact⟨su.keeps,su.pw.mono (by omega)⟩
   clear HI SC U vE;go_wp2_with fail;go_loopg [8] ps.length (λgh s8 z=>∃j:Nat,j+gh=ps.length/\s8= .int .i64 (j:Int)/\Hid (ay [] w1 z/\se z b gn gl gf (50000+(j:Int))))
   case atStart=>exact⟨0,by omega,rfl,ac.out.1,ac.out.2.mono (by omega)⟩
   case round=>
    obtain⟨j,hj,rfl,HJ⟩:=hrel;have G:∀y,y∈[b,gn,gl,gf]->w1.heap.size<=y:=λy hy=>by
     have :=HN.out;simp only[aL,aK,bC] at hy;omega
    cases gk with
    |zero=>
     obtain rfl:j=ps.length:=by omega
     have aS:¬(ps.length:Int)<(ps.length:Int):=by omega
     have au:Hid (Calls prog 19 #[b] wr λe w4=>(e= .returned (.tuple #[.pointer none,(10:Int)])/\Hid (ay [] w w4))\/∃f2,e= .returned (.tuple #[(f2:Nat),(0:Int)])/\
       Hid (Calls prog 16 #[(f2:Nat)] w4 λe w5=>∃bs,e=(bs:Nat)/\Hid (Calls prog 15 #[(bs:Nat)] w5 λe w6=>e= .returned (.tuple #[(0:Int),true])/\Hid (ay [] w w6)))):=by
      obtain⟨W,aa⟩:=HJ.out;have cJ:=jK.out.trans' W;show Calls _ _ _ _ _;refine(Pa (b:=b) (gn:=gn) (gl:=gl) (gf:=gf) (R:=λs z=>fw z b gn gl gf s/\ay [] w z) (λs wa wb V ⟨h1,h2⟩=>⟨h1.keep V (by simp) (by simp),h2.trans' V⟩) ?_).mono ?_
      ·refine(acK aa (by omega)).mono ?_
       rintro e w4 ⟨rfl,J,s,hs,aN⟩;exact⟨rfl,s,aN.on,hs,J.size,hs,cJ.trans J λy hy=> .inr (by have :=G y hy;have :=jK.out.size;omega)⟩
      ·rintro e w4 (⟨x,s,rfl,rfl,-,-,-,J⟩|⟨f2,s,rfl,rq,aJ,-,Fk,hs,J⟩)
       ·exact .inl ⟨rfl,J⟩
       ·refine .inr ⟨f2,rfl,?_⟩
        show Calls _ _ _ _ _;refine(RG aJ hs rq.1 rq.2.2).mono ?_;rintro e w5 ⟨bs,rfl,-,ai,kR⟩;refine⟨bs,rfl,?_⟩;show Calls _ _ _ _ _;refine(KB rq.1 rq.2.1 ai ⟨ai.raw.lt,ai.raw.lt⟩).mono ?_;rintro e w6 ⟨q,rfl,jW,M4⟩;obtain rfl:=M4.out.2 Fk;exact⟨rfl,(J.trans' kR).trans' jW⟩
     clear HJ G ac EH ae VO;go_wp2_with fail;refine au.out.mono ?_;rintro e w4 (⟨rfl,qb⟩|⟨f2,rfl,vZ⟩)
     ·clear au
      go_wp2_with fail;go_ret;exact⟨rfl,qb.out⟩
     ·clear au
      go_wp2_with fail;refine vZ.out.mono ?_;rintro e w5 ⟨bs,rfl,aA⟩;clear vZ;go_wp2_with fail;refine Rr aA.out λw6 tX=> ?_;clear aA;go_wp2_with fail;go_ret;exact⟨rfl,tX.out⟩
    |succ gg=>
     have aI:(j:Int)<(ps.length:Int):=by omega
     have Cf:(0:Int)<=(j:Int):=by omega
     obtain⟨W,aa⟩:=HJ.out;obtain⟨aU,off,rfl,c0,c1⟩:=(EH.out.keep (jK.out.trans' W) (by simp)).get (j:=j) (by omega);have aO:Hid (∀z,ay [] wr z->Calls prog 18 #[b,(iw ps j:Int),.int .u64 (lv ps j)] z λe w4=>∃y,e=(y:Int)/\Hid (ay [] w1 w4/\se w4 b gn gl gf (50000+((j+1:Nat):Int)))):=λz V=>by
      refine(aaI (aa.keep V (by simp)) (by omega) (iw ps j) (ae.out j)).mono ?_;rintro e w4 ⟨rfl,h1,h2⟩;exact⟨_,rfl,(W.trans' V).trans h1 (λy hy=> .inr (G y hy)),h2.mono (by omega)⟩
     generalize iw ps j=x,lv ps j=y at *;clear W aa G HJ ac EH ae VO;go_wp2_with fail;go_region_with (go_at_call 18;refine(aO.out _ (by first|exact ay.refl _ _|exact(ay.refl _ _).drew)).mono ?_;rintro e w4 ⟨y,rfl,HQ⟩)
     all_goals go_wp2_with fail
     all_goals go_roundg gg
     all_goals first|omega|exact⟨j+1,by omega,by go_num,HQ.out⟩
  |succ gg=>
   have aI:(k:Int)<(l.length:Int):=by omega
   have cJ:(0:Int)<=(k:Int):=by omega
   obtain⟨M,X,su⟩:=HI.out;obtain⟨off,vp,vq,vd,rfl,af⟩:=SC.out.op (k:=k) (by omega) ((U.out trivial).2 k (by omega) (by omega));obtain⟨ax,ot⟩:=af wr (jK.out.trans' su.keeps);have mY:=ar ot;have aC:Hid (Calls prog 10 #[f,BV (oT l k) vp vq vd] wr λe w4=>∃Z,e= .returned (.agg Z)/\Hid (∃M X,Live w1 f b gn gl gf M X (3520+3000*((k+1:Nat):Int)) w4)):=by
    show Calls _ _ _ _ _;refine(WK su (VO.out.keep jK.out) (by omega) ax).mono ?_;rintro e w4 ⟨r,Z,rfl,-,-,h⟩;refine⟨Z,rfl,?_⟩;rcases h with ⟨-,h1,-⟩|⟨-,-,-,X',h1⟩
    ·exact⟨_,_,h1.le (by omega)⟩
    ·exact⟨_,X',h1.le (by omega)⟩
   generalize BV (oT l k) vp vq vd=ZO at *;clear ot ax af su HI SC U EH ae VO vE;go_wp2_with(with_reducible refine gL 37 mY.out ?_);refine aC.out.mono ?_;rintro e w4 ⟨Z,rfl,HQ⟩;clear aC mY;go_wp2_with fail;go_roundg gg;case measure=>omega
   case rel=>exact⟨k+1,by omega,by go_num,HQ.out⟩
end
section
open Go.ChangeShapes Go.WideShapes Go.ChangeAt Go.RowKit
variable{w w':World}{v:Value}{b f g gf gl gn:Nat}{l:List jB}{M:Nat->Nd}{X:List Int}{n:Int}
section
variable {H:Type} {enc:TypeId×Value->H} {W:World} {base:Nat} {spare:Nat->Bool} {held:Bool}
theorem open_pair{fuel:Nat}{cs:List Value}{x:DataW H×List MemPlace}(h:DataW.trod enc prog W base spare held fuel 58 cs=some x):
  ∃a y:Int,cs=[.int .i64 a,.int .u64 y]/\(-9223372036854775808<=a/\a<=9223372036854775807)/\0<=y/\y<=18446744073709551615:=by
 obtain⟨xs,n,-,-,G,z,J⟩:=DataW.trod_struct underlying58 h;rw[show prog.cellsOf 58 =2 by kernel_rfl] at G
 match cs,G with
 | [c0,c1],_=>
  have f0:DataW.trod enc prog W base spare held n 3 (([c0,c1].drop 0).take (prog.cellsOf 3))=xs[0]? :=J 0 _ rfl;have f1:DataW.trod enc prog W base spare held n 56 (([c0,c1].drop 1).take (prog.cellsOf 56))=xs[1]? :=J 1 _ rfl;simp only[show prog.cellsOf 3 =1 by kernel_rfl,show prog.cellsOf 56 =1 by kernel_rfl,jM,jE,List.take_succ_cons,ez] at f0 f1
  match xs,z with
  | [y0,y1],_=>
   simp only[fU,dC] at f0 f1;obtain⟨n0,V,-,w0⟩:=iW underlying3 f0;obtain⟨n1,U,-,w1⟩:=iW underlying56 f1;simp only[jk,and_true] at V U;subst V U;exact⟨n0,n1,rfl,bounds_i64 w0,bounds_u64 w1⟩
theorem Iu {fuel:Nat}{cs:List Value}{x:DataW H×List MemPlace}(h:DataW.trod enc prog W base spare held fuel 54 cs=some x):
  ∃v g ps,cs=[v]/\ku W v g ps/\okP ps:=by
 obtain⟨a,len,cap,rfl,h1,h2,h3⟩:=yO (sz:=2) underlying54 (by kernel_rfl) (by omega) h;by_cases h0:len=0
 ·subst h0
  exact⟨_,0,[],rfl,⟨a,cap,rfl,by simp,h2,λh=>absurd rfl h⟩,by intro p V;simp at V⟩
 ·obtain⟨g,off,rfl,hg,hx⟩:=h3 h0
  have U:∀i,i<len->∃p:Int×Int,((-9223372036854775808<=p.1/\p.1<=9223372036854775807)/\0<=p.2/\p.2<=18446744073709551615)/\
    W.cell? ⟨g,off+i*2,none⟩=some (.int .i64 p.1)/\W.cell? ⟨g,off+i*2+1,none⟩=some (.int .u64 p.2):=λi J=>by
   obtain⟨aa,y,n,hl,hc,ht⟩:=hx i J;obtain⟨q,z,rfl,hq,hz⟩:=open_pair ht;exact⟨(q,z),⟨hq,hz⟩,hc 0 (by omega),hc 1 (by omega)⟩
  obtain⟨f,hf⟩:∃f:Nat->Int×Int,∀i,i<len->((-9223372036854775808<=(f i).1/\(f i).1<=9223372036854775807)/\0<=(f i).2/\(f i).2<=18446744073709551615)/\
    W.cell? ⟨g,off+i*2,none⟩=some (.int .i64 (f i).1)/\W.cell? ⟨g,off+i*2+1,none⟩=some (.int .u64 (f i).2):=
   ⟨λi=>if h:i<len then Classical.choose (U i h) else (0,0),λi J=>by simp only[dif_pos J];exact kg (U i J)⟩
  refine⟨_,g,(List.range len).map f,rfl,⟨_,cap,by simp,by simpa using h1,h2,λ_=>⟨hg,off,rfl,λj hj=> ?_⟩⟩,?_⟩
  ·have G:j<len:=by simpa using hj
   have e1:iw ((List.range len).map f) j=(f j).1:=by simp[iw,G]
   have e2:lv ((List.range len).map f) j=(f j).2:=by simp[lv,G]
   rw[e1,e2];exact(hf j G).2
  ·intro p V
   simp only[bF,bW] at V;obtain⟨i,J,rfl⟩:=V;exact(hf i J).1
end
section
variable {P:Program} {H:Type} {enc:TypeId×Value->H} {W:World} {base:Nat} {spare:Nat->Bool} {held:Bool}
theorem PA {t e:TypeId}{k:IntKind}{fuel:Nat}{cs:List Value}{x:DataW H×List MemPlace}(ht:P.underlying t=some (.slice e))(he:P.underlying e=some (.int k))(hc:P.cellsOf e=1)
  (h:DataW.trod enc P W base spare held fuel t cs=some x):∃(v:Value) (g:Nat) (zs:List Int),cs=[v]/\Reads W v g (zs.map (Value.int k))/\∀n∈zs,(Lit.int k n).wf=true:=by
 rcases open_ints ht he hc h with ⟨rfl,-⟩|⟨a,len,cap,zs,rfl,-,hl,V,hz,-,z,U⟩
 ·exact⟨_,0,[],rfl,⟨none,0,rfl,by simp,by simp[maxLen],λh=>absurd rfl h⟩,by simp⟩
 ·have aa:len<=zs.length:=by rw[hz];split<;>omega
  have J:((zs.take len).map (Value.int k)).length=len:=by simp;omega
  by_cases h0:len=0
  ·subst h0
   exact⟨_,0,[],rfl,⟨some a,cap,rfl,by simp,V,λh=>absurd rfl h⟩,by simp⟩
  ·have G:=z 0 (by omega)
   obtain⟨g,off,rfl⟩:=Fu G rfl;refine⟨_,g,zs.take len,rfl,⟨some ⟨g,off,none⟩,cap,by rw[J],by rw[J];exact hl,V,λ_=>⟨by simpa[add_plain] using Ab G,off,rfl,λj hj=> ?_⟩⟩,λn hn=>U n (bO hn)⟩;rw[J] at hj;have :=z j (by omega);rw[add_plain] at this;rw[this];simp[hj,show j<zs.length by omega]
theorem open_strs{fuel:Nat}{cs:List Value}{x:DataW H×List MemPlace}(h:DataW.trod enc prog W base spare held fuel 29 cs=some x):∃v g P,cs=[v]/\gN W v g P:=by
 obtain⟨a,len,cap,rfl,h1,h2,h3⟩:=yO (sz:=1) underlying29 (by kernel_rfl) (by omega) h;by_cases V:len=0
 ·subst V
  exact⟨_,0,[],rfl,⟨a,cap,rfl,by simp,h2,λh=>absurd rfl h⟩⟩
 ·obtain⟨g,off,rfl,hg,hx⟩:=h3 V
  have G:∀i,i<len->∃s:ByteArray,W.cell? ⟨g,off+i,none⟩=some (.string s):=λi J=>by
   obtain⟨U,y,n,hl,hc,ht⟩:=hx i J
   match U,hl with
   | [c0],_=>
    obtain⟨s,e0,-⟩:=DataW.trod_string underlying9 ht;simp only[jk,and_true] at e0;subst e0;have :=hc 0 (by omega);rw[iK,dB] at this;exact⟨s,this⟩
  obtain⟨f,hf⟩:∃f:Nat->ByteArray,∀i,i<len->W.cell? ⟨g,off+i,none⟩=some (.string (f i)):=
   ⟨λi=>if h:i<len then Classical.choose (G i h) else ByteArray.empty,λi J=>by simp only[dif_pos J];exact kg (G i J)⟩
  refine⟨_,g,(List.range len).map f,rfl,⟨some ⟨g,off,none⟩,cap,by simp,by simpa using h1,h2,λ_=>⟨hg,off,rfl,λj hj=> ?_⟩⟩⟩;have z:j<len:=by simpa using hj
  rw[hf j z];simp[z]
theorem aaK {fuel:Nat}{cs:List Value}{x:DataW H×List MemPlace}(h:DataW.trod enc prog W base spare held fuel 37 cs=some x):∃(o:jB) (Z:Array Value),cs=Z.toList/\Ir W o Z:=by
 obtain⟨xs,n,-,-,hl,G,z⟩:=DataW.trod_struct underlying37 h;rw[show prog.cellsOf 37 =6 by kernel_rfl] at hl
 match cs,hl with
 | [c0,c1,c2,c3,c4,c5],_=>
  have f0:DataW.trod enc prog W base spare held n 3 (([c0,c1,c2,c3,c4,c5].drop 0).take (prog.cellsOf 3))=xs[0]? :=z 0 _ rfl;have f1:DataW.trod enc prog W base spare held n 29 (([c0,c1,c2,c3,c4,c5].drop 1).take (prog.cellsOf 29))=xs[1]? :=z 1 _ rfl;have f2:DataW.trod enc prog W base spare held n 29 (([c0,c1,c2,c3,c4,c5].drop 2).take (prog.cellsOf 29))=xs[2]? :=z 2 _ rfl;have f3:DataW.trod enc prog W base spare held n 3 (([c0,c1,c2,c3,c4,c5].drop 3).take (prog.cellsOf 3))=xs[3]? :=z 3 _ rfl;have f4:DataW.trod enc prog W base spare held n 3 (([c0,c1,c2,c3,c4,c5].drop 4).take (prog.cellsOf 3))=xs[4]? :=z 4 _ rfl;have f5:DataW.trod enc prog W base spare held n 31 (([c0,c1,c2,c3,c4,c5].drop 5).take (prog.cellsOf 31))=xs[5]? :=z 5 _ rfl;simp only[show prog.cellsOf 3 =1 by kernel_rfl,show prog.cellsOf 29 =1 by kernel_rfl,show prog.cellsOf 31 =1 by kernel_rfl,jM,jE,List.take_succ_cons,ez] at f0 f1 f2 f3 f4 f5
  match xs,G with
  | [y0,y1,y2,y3,y4,y5],_=>
   simp only[fU,dC] at f0 f1 f2 f3 f4 f5;obtain⟨n0,e0,-,w0⟩:=iW underlying3 f0;obtain⟨vp,gp,P,V,hP⟩:=open_strs f1;obtain⟨vq,gq,Q,e2,hQ⟩:=open_strs f2;obtain⟨n3,e3,-,w3⟩:=iW underlying3 f3;obtain⟨U,e4,-,w4⟩:=iW underlying3 f4;obtain⟨vd,gd,D,J,hD,hw⟩:=PA (P:= prog) underlying31 underlying5 (by kernel_rfl) f5;simp only[jk,and_true] at e0 V e2 e3 e4 J;subst e0 V e2 e3 e4 J;refine⟨⟨n0,P,Q,n3,U,D⟩,BV ⟨n0,P,Q,n3,U,D⟩ c1 c2 c5,rfl,⟨⟨c1,c2,c5,rfl,⟨gp,hP⟩,⟨gq,hQ⟩,gd,hD⟩,⟨bounds_i64 w0,bounds_i64 w3,bounds_i64 w4⟩,λy hy=> ?_⟩⟩;have :=bounds_u8 (hw y hy);omega
theorem WN {fuel:Nat}{cs:List Value}{x:DataW H×List MemPlace}(h:DataW.trod enc prog W base spare held fuel 22 cs=some x):∃v g l,cs=[v]/\xh W v g l:=by
 obtain⟨a,len,cap,rfl,h1,h2,h3⟩:=yO (sz:=6) underlying22 (by kernel_rfl) (by omega) h;by_cases h0:len=0
 ·subst h0
  exact⟨_,0,[],rfl,a,cap,rfl,by simp,h2,λj J=>by simp at J⟩
 ·obtain⟨g,off,rfl,hg,hx⟩:=h3 h0
  have G:∀i,i<len->∃p:jB×Array Value,Ir W p.1 p.2/\∀c,c<6->W.cell? ⟨g,off+(i*6+c),none⟩=p.2[c]? :=λi U=>by
   obtain⟨aa,y,n,hl,hc,V⟩:=hx i U;obtain⟨o,Z,rfl,ho⟩:=aaK V;exact⟨(o,Z),ho,λc h=>by rw[hc c h,dG]⟩
  obtain⟨f,hf⟩:∃f:Nat->jB×Array Value,∀i,i<len->Ir W (f i).1 (f i).2/\∀c,c<6->W.cell? ⟨g,off+(i*6+c),none⟩=(f i).2[c]? :=
   ⟨λi=>if h:i<len then Classical.choose (G i h) else (⟨0,[],[],0,0,[]⟩,#[]),λi U=>by simp only[dif_pos U];exact kg (G i U)⟩
  refine⟨_,g,(List.range len).map λi=>(f i).1,rfl,_,cap,by simp,by simpa using h1,h2,λj J=>⟨hg,off,rfl,(f j).2,?_,λt V=> ?_⟩⟩
  ·have z:j<len:=by simpa using J
   have e1:oT ((List.range len).map λi=>(f i).1) j=(f j).1:=by simp[oT,z]
   rw[e1];exact(hf j z).1
  ·have z:j<len:=by simpa using J
   rw[Nat.add_assoc];exact(hf j z).2 t V
end
end
section
open Go.ChangeShapes Go.WideShapes Go.ChangeAt Go.WideMaps Go.WideElems Go.RowKit
variable{w w':World}{v:Value}{b f g gf gl gn:Nat}{l:List jB}{M:Nat->Nd}{X:List Int}{n:Int}
theorem Tryz.gTab: prog.globalNamed "math/bits.deBruijn64tab" =some 0 :=by kernel_rfl
theorem Tryz.tTab:(prog.globals[0]?).map (·.type)=some 267 :=by kernel_rfl
theorem Tryz.cells_u8: prog.cellsOf 5 =1:=by kernel_rfl
theorem acL{H:Type}:Rows.laid_math_bits_deBruijn64tab (H:=H)= .agg (Lib.deBruijn64tab.map λn:Nat=> .lit (.int .u8 (n:Int))):=rfl
theorem PB{W:World}(h:laidMetH prog [("math/bits.deBruijn64tab",Rows.laid_math_bits_deBruijn64tab)] W):lD W:=by
 rw[MakeChecks.laidMetH_plain _ _ _ (by kernel_rfl)] at h;obtain⟨ps,⟨g0,t0,G,f0,p0,q0,ac,ag,ai,ah,_,_⟩,_,_⟩:=h;obtain rfl:=Option.some.inj (Tryz.gTab.symm.trans ac);obtain rfl:=Option.some.inj (Tryz.tTab.symm.trans ag);obtain⟨xs,m,rfl,hx,V,hn,ak⟩:=DataW.trod_array underlying267 ah;rw[acL] at hx;simp only[Prod.mk.injEq,DataW.agg.injEq] at hx;intro j hj;have z:=ak j hj;rw[Tryz.cells_u8,iK] at z;cases hxj:xs[j]? with
 |none=>rw[List.getElem?_eq_none_iff] at hxj;omega
 |some y=>
  rw[hxj] at z;have U:((G.toList.drop j).take 1).length=1:=by
   rw[aJ,bM];have ae: prog.cellsOf 267 =64:=by kernel_rfl
   rw[ae] at V;omega
  obtain⟨c,hc⟩:∃c,(G.toList.drop j).take 1=[c]:=by
   match (G.toList.drop j).take 1,U with
   | [c],_=>exact⟨c,rfl⟩
  rw[hc] at z;obtain⟨k,e1,e2,_⟩:=iW underlying5 z;have hk:(xs.map (·.1))[j]? =some (.lit (.int .u8 k)):=by rw[bJ,hxj,e2];rfl
  rw[<-hx.1,bJ] at hk;have aa:j<Lib.deBruijn64tab.length:=hj;rw[aD aa] at hk;have af:k=((Lib.deBruijn64tab.getD j 0:Nat):Int):=by
   have :((Lib.deBruijn64tab[j]:Nat):Int)=k:=by simpa using hk
   rw[<-this,aj,aD aa];rfl
  have J:=World.var?_cell ac ai j;rw[J,<-af];have h3:((G.toList.drop j).take 1)[0]? =some c:=by rw[hc];rfl
  rw[bU,aB,b8,dB,dG] at h3;rw[h3];simp only[jk,and_true] at e1;rw[e1]
theorem aaL (os:Os)(args:Array Value):laidMetH prog [("math/bits.deBruijn64tab",Rows.laid_math_bits_deBruijn64tab)] ((World.doorLaid prog 400 os).forCall (λ_ _=>0) ⟨#[],args,[]⟩).memory:=
 laidMetH_of_parts3 (fuel:=8) (laidMet_of_run' 8 (by kernel_rfl) (by kernel_rfl)) (by kernel_rfl) (by kernel_rfl)
end
end Go.Proofs.YtepbpdipenedhaaGreatDoor
