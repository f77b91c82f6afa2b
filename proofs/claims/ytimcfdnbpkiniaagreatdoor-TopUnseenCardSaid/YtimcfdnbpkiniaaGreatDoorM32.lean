/- Lemmas. -/
import Derived.Test.YtimcfdnbpkiniaaGreatDoorM31
set_option maxHeartbeats 4000000
set_option maxRecDepth 100000
namespace Go.Proofs.YtimcfdnbpkiniaaGreatDoor
open Go.Proofs.Tryz
section
open Go.RowKit
variable{G W0 w w' z:World}{o:iP}{Z:Array Value}{v:Value}{U V W b b' f f' g gf gl gn yF yH:Nat}{l:List iP}{M:Nat->Nd}{X Y:List Int}{n n':Int}
def opZ:iP:=⟨0,[],[],0,0,[]⟩
def oT (l:List iP) (j:Nat):iP:=l.getD j opZ
structure BR (w:World) (o:iP) (Z:Array Value):Prop where
 cells:∃vp vq vd,Z=pJ o vp vq vd/\(∃g,fU w vp g o.P)/\(∃g,fU w vq g o.Q)/\∃g,Reads w vd g (ky o.D)
 i64:(-9223372036854775808<=o.K/\o.K<=9223372036854775807)/\(-9223372036854775808<=o.O/\o.O<=9223372036854775807)/\(-9223372036854775808<=o.N/\o.N<=9223372036854775807)
 bytes:acj o
theorem BR.keep(h:BR w o Z)(z:ay [] w w'):BR w' o Z:=by
 obtain⟨V,vq,vd,e,⟨J,G⟩,⟨g2,h2⟩,U,W⟩:=h.cells;exact⟨⟨V,vq,vd,e,⟨J,G.keep z⟩,⟨g2,h2.keep z⟩,U,W.keep z⟩,h.i64,h.bytes⟩
theorem BR.at(h:BR w o Z)(z:∀s∈o.P,s.size<=9223372036854775807)(G:∀s∈o.Q,s.size<=9223372036854775807):aeX w o Z:=⟨h.cells,⟨z,G⟩,h.i64,h.bytes⟩
def wY (w:World) (v:Value) (g:Nat) (l:List iP):Prop:=
 ∃a cap,v= .slice a l.length cap/\l.length<=cap/\cap<=maxLen/\∀j,j<l.length->g<w.heap.size/\∃off,a=some ⟨g,off,none⟩/\∃Z,BR w (oT l j) Z/\∀t,t<6->w.cell? ⟨g,off+j*6+t,none⟩=Z[t]?
theorem wY.keep(h:wY w v g l)(z:ay [] w w'):wY w' v g l:=by
 obtain⟨a,cap,e,U,h2,h3⟩:=h;refine⟨a,cap,e,U,h2,λj W=> ?_⟩;obtain⟨G,off,ha,Z,J,V⟩:=h3 j W;exact⟨bQ G z.size,off,ha,Z,J.keep z,λt ht=>(aO (w:=w) (z.block g G (by simp))).trans (V t ht)⟩
structure R3 (o:iP):Prop where
 lens:o.P.length<=10/\o.Q.length<=10/\o.D.length<=900
 path:∀k,k<o.P.length->(lq o.P k).size<=30
 dest:∀k,k<o.Q.length->(lq o.Q k).size<=30
def BS (w:World) (l:List iP) (n:Nat) (e:Ending) (w':World):Prop:=∃b,e= .returned (.bool b)/\(b=true->l.length<=n/\∀j,j<l.length->j<300->R3 (oT l j))/\w=w'
theorem aaU (h:wY w v g l)(n:Nat)(_:n<=100000):Calls prog 8 #[v,(n:Int)] w (BS w l n):=by
 obtain⟨a,cap,rfl,ay,ac,ae⟩:=h;have HG:Hid (∀j,j<l.length->∃off,a=some ⟨g,off,none⟩/\∃ap cp aq cq ad cd,w.cell? ⟨g,off+j*6+1,none⟩=some (.slice ap (oT l j).P.length cp)/\w.cell? ⟨g,off+j*6+2,none⟩=some (.slice aq (oT l j).Q.length cq)/\w.cell? ⟨g,off+j*6+5,none⟩=some (.slice ad (oT l j).D.length cd)/\
   (∀k,k<(oT l j).P.length->∃gp V,ap=some ⟨gp,V,none⟩/\w.cell? ⟨gp,V+k,none⟩=some (.string (lq (oT l j).P k)))/\
   (∀k,k<(oT l j).Q.length->∃gp V,aq=some ⟨gp,V,none⟩/\w.cell? ⟨gp,V+k,none⟩=some (.string (lq (oT l j).Q k)))/\
   (oT l j).P.length<=9223372036854775807/\(oT l j).Q.length<=9223372036854775807/\(oT l j).D.length<=9223372036854775807):=λj hj=>by
  obtain⟨hg,off,ha,Z,hz,hc⟩:=ae j hj;obtain⟨vp,vq,vd,rfl,⟨gp,hP⟩,⟨gq,hQ⟩,gd,hD⟩:=hz.cells;obtain⟨ap,cp,rfl,az,av,W8⟩:=hP.open;obtain⟨aq,cq,rfl,aG,ag,SJ⟩:=hQ.open;obtain⟨ad,cd,rfl,aC,aj,-⟩:=hD;rw[fq] at *;unfold maxLen at av ag aj;refine⟨off,ha,ap,cp,aq,cq,ad,cd,hc 1 (by omega),hc 2 (by omega),hc 5 (by omega),λk hk=> ?_,λk hk=> ?_,by omega,by omega,by omega⟩
  ·obtain⟨-,V,h1,U⟩:=W8.out k hk
   exact⟨gp,V,h1,U⟩
  ·obtain⟨-,V,h1,U⟩:=SJ.out k hk
   exact⟨gq,V,h1,U⟩
 have HF:Hid (∀b,(b=true->l.length<=n/\∀j,j<l.length->j<300->R3 (oT l j))->BS w l n (.returned (.bool b)) w):=λb h=>⟨b,rfl,h,rfl⟩
 have J:=ar (HF.out false (by simp));unfold maxLen at ac;clear ae;generalize BS w l n=Q,hm:l.length=m at *;clear hm;go_in;go_wp2_with fail;go_loopg [5] 300 (λgh s5 wx=>∃k:Nat,k+gh=300/\k<=m/\s5= .int .i64 (k:Int)/\wx=w/\Hid (∀j,j<k->R3 (oT l j)))
 case atStart=>exact⟨0,by omega,by omega,rfl,rfl,λj hj=>by omega⟩
 case round=>
  obtain⟨i,hi,aA,rfl,rfl,HP⟩:=hrel;by_cases z:i=m\/i=300
  ·have HE:Hid (∀b,(b=true->m<=n)->Q (.returned (.bool b)) wr):=λb hb=>HF.out b λh=>⟨hb h,λj hj aF=>HP.out j (by omega)⟩
   clear HF HG HP;by_cases Uo:m<=n
   ·have h1:(m:Int)<=(n:Int):=by omega
    rcases dF i m with U|U
    ·have aa:(i:Int)<(m:Int):=by omega
     have h3:decide ((i:Int)<300)=false:=aP (by omega);clear z;go_wp2
     first|exact HE.out true (λ_=>Uo)|(go_ret;exact HE.out true (λ_=>Uo))
    ·have aa:decide ((i:Int)<(m:Int))=false:=aP (by omega)
     clear z;go_wp2
     first|exact HE.out true (λ_=>Uo)|(go_ret;exact HE.out true (λ_=>Uo))
   ·have h1:decide ((m:Int)<=(n:Int))=false:=aP (by omega)
    rcases dF i m with U|U
    ·have aa:(i:Int)<(m:Int):=by omega
     have h3:decide ((i:Int)<300)=false:=aP (by omega);clear z;go_wp2
     first|exact J.out|(go_ret;exact J.out)
    ·have aa:decide ((i:Int)<(m:Int))=false:=aP (by omega)
     clear z;go_wp2
     first|exact J.out|(go_ret;exact J.out)
  ·have af:i<m:=by omega
   have aD:i<300:=by omega
   have aa:(i:Int)<(m:Int):=by omega
   have aK:(i:Int)<300:=by omega
   have aI:(0:Int)<=(i:Int):=by omega
   obtain⟨gg,rfl⟩:∃gg,gk=gg+1:=⟨gk-1,by omega⟩;obtain⟨off,rfl,ap,cp,aq,cq,ad,cd,c1,c2,c5,hp,hq,l1,l2,l3⟩:=HG.out i af;obtain⟨Bv,Ik⟩:=hh2 hp hq;have W:Hid (R3 (oT l i)->∀j,j<i+1->R3 (oT l j)):=λh j hj=>by
    by_cases e:j=i
    ·rw[e];exact h
    ·exact HP.out j (by omega)
   have Ma:Hid ((oT l i).P.length<=10->(oT l i).Q.length<=10->(oT l i).D.length<=900->(∀k,k<(oT l i).P.length->(lq (oT l i).P k).size<=30)->(∀k,k<(oT l i).Q.length->(lq (oT l i).Q k).size<=30)->R3 (oT l i)):=λh1 U h3 h4 h5=>⟨⟨h1,U,h3⟩,h4,h5⟩
   clear z HP HG hp hq HF;generalize (oT l i).P=P,(oT l i).Q=R,(oT l i).D.length=ld at *;generalize ak:P.length=lp,ah:R.length=lr at *;clear ak ah;by_cases h1:lp<=10
   ·have e1:decide ((10:Int)<(lp:Int))=false:=aP (by omega)
    by_cases U:lr<=10
    ·have e2:decide ((10:Int)<(lr:Int))=false:=aP (by omega)
     by_cases h3:ld<=900
     ·have e3:decide ((900:Int)<(ld:Int))=false:=aP (by omega)
      go_wp2_with fail;go_loopg [6] lp (λgh s6 wx=>∃k:Nat,k+gh=lp/\s6= .int .i64 (k:Int)/\wr=wx/\Hid (∀j,j<k->(lq P j).size<=30))
      case atStart=>exact⟨0,by omega,rfl,rfl,λj hj=>by omega⟩
      case round=>
       obtain⟨k,hk,rfl,rfl,HI⟩:=hrel;cases gk with
       |succ g2=>
        have FW:k<lp:=by omega
        have xa:(k:Int)<(lp:Int):=by omega
        have cM:(0:Int)<=(k:Int):=by omega
        obtain⟨gp,V,rfl,d1⟩:=Bv.out k FW;by_cases G:(lq P k).size<=30
        ·have e4:decide ((30:Int)<((lq P k).size:Int))=false:=aP (by omega)
         have ai:Hid (∀j,j<k+1->(lq P j).size<=30):=λj hj=>by
          by_cases e:j=k
          ·rw[e];exact G
          ·exact HI.out j (by omega)
         clear HI W Ma Bv Ik G;generalize lq P k=nk at *;go_wp2;go_roundg g2;case measure=>omega
         case rel=>exact⟨k+1,by omega,by go_num,rfl,ai.out⟩
        ·have e4:(30:Int)<((lq P k).size:Int):=by omega
         clear HI W Ma Bv Ik G;generalize lq P k=nk at *;go_wp2
         first|exact J.out|(go_ret;exact J.out)
       |zero=>
        obtain rfl:k=lp:=by omega
        have aJ:¬(k:Int)<(k:Int):=by omega
        go_wp2_with fail;go_loopg [7] lr (λgh s7 wx=>∃q:Nat,q+gh=lr/\s7= .int .i64 (q:Int)/\wr=wx/\Hid (∀j,j<q->(lq R j).size<=30))
        case atStart=>exact⟨0,by omega,rfl,rfl,λj hj=>by omega⟩
        case round=>
         obtain⟨q,aL,rfl,rfl,HJ⟩:=hrel;cases gk with
         |succ g3=>
          have au:q<lr:=by omega
          have aB:(q:Int)<(lr:Int):=by omega
          have aH:(0:Int)<=(q:Int):=by omega
          obtain⟨gq,oq,rfl,d1⟩:=Ik.out q au;by_cases G:(lq R q).size<=30
          ·have e4:decide ((30:Int)<((lq R q).size:Int))=false:=aP (by omega)
           have ax:Hid (∀j,j<q+1->(lq R j).size<=30):=λj hj=>by
            by_cases e:j=q
            ·rw[e];exact G
            ·exact HJ.out j (by omega)
           clear HI HJ W Ma Bv Ik G;generalize lq R q=nk at *;go_wp2;go_roundg g3;case measure=>omega
           case rel=>exact⟨q+1,by omega,by go_num,rfl,ax.out⟩
          ·have e4:(30:Int)<((lq R q).size:Int):=by omega
           clear HI HJ W Ma Bv Ik G;generalize lq R q=nk at *;go_wp2
           first|exact J.out|(go_ret;exact J.out)
         |zero=>
          obtain rfl:q=lr:=by omega
          have NP:=ar (W.out (Ma.out h1 U h3 HI.out HJ.out));clear HI HJ W Ma Bv Ik;go_wp2;go_roundg gg;case measure=>omega
          case rel=>exact⟨i+1,by omega,by omega,by go_num,rfl,NP.out⟩
     ·have e3:(900:Int)<(ld:Int):=by omega
      clear W Ma Bv Ik;go_wp2
      first|exact J.out|(go_ret;exact J.out)
    ·have e2:(10:Int)<(lr:Int):=by omega
     clear W Ma Bv Ik;go_wp2
     first|exact J.out|(go_ret;exact J.out)
   ·have e1:(10:Int)<(lp:Int):=by omega
    clear W Ma Bv Ik;go_wp2
    first|exact J.out|(go_ret;exact J.out)
theorem Live.le(h:Live z f b gn gl gf M X n w)(U:n<=n'):Live z f b gn gl gf M X n' w:=by
 obtain⟨d,J,G⟩:=h.pm;exact⟨h.fs,h.ws,⟨d,by omega,G⟩,h.keeps,h.new,h.off⟩
theorem wY.op2{a:Option Addr}{n cap:Nat}(h:wY w (.slice a n cap) g l){k:Nat}(hk:k<l.length)(hf:R3 (oT l k)):
  ∃off J vq vd,a=some ⟨g,off,none⟩/\∀z,ay [] w z->(BO z (oT l k) J vq vd/\(loadVar 42 ⟨g,off+k*6,none⟩).run prog z= .ok (.agg (pJ (oT l k) J vq vd)) z)/\aeX z (oT l k) (pJ (oT l k) J vq vd)/\z.cell? ⟨g,off+k*6,none⟩=some (.int .i64 (oT l k).K):=by
 obtain⟨a',c',e,-,-,W⟩:=h;cases e;obtain⟨hg,off,ha,Z,V,aa⟩:=W k hk;obtain⟨J,vq,vd,rfl,hp,hq,hd⟩:=V.cells;have s1:∀s∈(oT l k).P,s.size<=9223372036854775807:=λs hs=>by
  obtain⟨j,G,rfl⟩:=b9 hs;have :=hf.path j G;rw[lq,show(oT l k).P.getD j ByteArray.empty=(oT l k).P[j] by simp[G]] at this;omega
 have s2:∀s∈(oT l k).Q,s.size<=9223372036854775807:=λs hs=>by
  obtain⟨j,G,rfl⟩:=b9 hs;have :=hf.dest j G;rw[lq,show(oT l k).Q.getD j ByteArray.empty=(oT l k).Q[j] by simp[G]] at this;omega
 have WS:∀z,ay [] w z->∀j,j<6->z.cell? ⟨g,off+k*6+j,none⟩=(pJ (oT l k) J vq vd)[j]? :=λz U j G=>by
  rw[aO (w:=w) (a:=⟨g,off+k*6+j,none⟩) (U.block g hg (by simp)),aa j G]
 refine⟨off,J,vq,vd,ha,λz U=>⟨⟨BO.keep ⟨hp,s1,hq,s2,hd,V.bytes⟩ U,?_⟩,(V.keep U).at s1 s2,WS z U 0 (by omega)⟩⟩;exact bX g (off+k*6) (pJ (oT l k) J vq vd).toList underlying42 rfl (by kernel_rfl) λj G=>by
  rw[WS z U j (by simpa[pJ] using G),dw]
def szM (n:Nd):Int:=if n.K=1 then n.D.length else n.E.length
theorem l6.size{T:List (bS×Value)}{own:Nat->List Nat}{U:List Nat}(h:l6 X T own U M)(i:Nat):(nT T i).S=szM (M i):=by
 rw[h.abs];unfold szM sA
 dsimp only
 rcases h.st.gots.form i with ⟨-,-,J⟩|⟨-,V,-⟩
 ·rcases J.right.2.2 with ⟨G,z⟩|⟨G,z⟩
  ·have :=z.1
   rw[aB G,aB G,mM];omega
  ·rw[aA]
   exact z.2.1
 ·rw[V]
  rfl
def aij (M:Nat->Nd) (i:Nat) (w:World) (e:Ending) (w':World):Prop:=
 ∃n v h cap a,e= .returned (.tuple #[aL n v,h,(if (M i).K=0 then 2 else 0:Int)])/\n.B.length=13/\v= .slice a (M i).E.length cap/\(n.K=(M i).K/\n.L=(M i).L/\n.S=szM (M i))/\v.oneCell'=true/\ay [] w w'
theorem TC (h:Live W0 f b gn gl gf M X n w){i:Nat}(hi:i<32):
  Calls prog 16 #[f] w λe U=>∃G,e=(G:Nat)/\Hid (ay [] w U/\Calls prog 30 #[(G:Nat),(i:Int)] U (aij M i U)):=by
 obtain⟨d,-,hp⟩:=h.pm;have xm:=Fi (d:=d) h.ws.len h.ws.w64;refine(Ht h.fs hp xm.1 xm.2.2).mono ?_;rintro e U ⟨G,rfl,-,z,hk⟩;refine⟨G,rfl,hk,?_⟩;obtain⟨-,T,own,J⟩:=h.ws;have aa:gK U G G X [] T own:=⟨z,J.st.w64,J.st.gots,z.raw.lt,z.raw.lt⟩;refine(aa.get hi).mono ?_;rintro e w2 ⟨v,g,va,ga,r,rfl,hB,hE,hg,-,-,ac,hr⟩;have hM:=J.abs i;have ae:(nT T i).E=(M i).E:=by rw[hM];rfl
 have V:=hE.one;obtain⟨a,cap,rfl,-,-,-⟩:=hE;refine⟨nT T i,_,va,cap,a,?_,hB,by rw[ae],⟨by rw[hM];rfl,by rw[hM];rfl,J.size i⟩,V,ac⟩;rw[show r=if (M i).K=0 then 2 else 0 from ?_];have hf:=J.free hi;rcases J.st.each hi with ⟨W,h2⟩|⟨W,h2,-⟩
 ·have :(M i).K≠0:=λe=>h2.notFree (hf.2 e)
  rw[aA this];rcases hr with h|h|h
  ·exact h.1
  ·exact absurd h.2.1 W
  ·exact absurd h.2.1 W
 ·rw[aB (hf.1 W)]
  rcases hr with h|h|h
  ·rw[h2] at h;exact absurd rfl h.2
  ·exact h.1
  ·exact absurd W h.2.2
def ac4 (D:List Int):ByteArray:=D.foldl (λr n=>r.push (UInt8.ofNat n.toNat)) ByteArray.empty
theorem Kw{D:List Int}(h:Reads w v g (ky D)):(convert 29 9 v).run prog w= .ok (.string (ac4 D)) w:=by
 obtain⟨a,cap,rfl,h1,h2,h3⟩:=h;have V: prog.underlying 29 =some (.slice 5):=by kernel_rfl
 have he: prog.underlying 5 =some (.int .u8):=by kernel_rfl
 have W: prog.underlying 9 =some .string:=by kernel_rfl
 rw[run_convert_bytes_string w _ _ _ a _ cap V he W];by_cases J:D=[]
 ·subst J
  cases a with
  |none=>rfl
  |some ad=>exact run_bytesToString w ad 0 cap [] (by rfl)
 ·obtain⟨hg,off,rfl,U⟩:=h3 (λe=>J (bg (by have :=cP List.length e;rwa[fq,cD] at this)))
  have hl:=run_loadCells_list (P:= prog) w ⟨g,off,none⟩ (ky D) (λj u G=>by
   have z:j<(ky D).length:=(List.getElem?_eq_some_iff.1 G).1;rw[add_plain,U j z,G])
  exact run_bytesToString w ⟨g,off,none⟩ _ cap D hl
theorem WM{ZO Z1 Z2:Array Value}{r1 r2:lX}(hO:aeX w o ZO)(h1:Db w r1 Z1)(h2:Db w r2 Z2)(hN:r1.N=r2.N\/o.K=12)(he:r1={ r2 with N:=r1.N }):
  Calls prog 14 #[ZO,Z1,Z2] w λe w'=>e=true/\ay [] w w':=by
 obtain⟨vp,vq,vd,rfl,-⟩:=hO.cells;obtain⟨ae,aV,rfl,⟨bh,aj⟩,aH,aG⟩:=h1;obtain⟨ac,bb,rfl,⟨ba,ak⟩,av,aK⟩:=h2;obtain⟨E1,N1,V,L1,I1,U,G⟩:=r1;obtain⟨E2,N2,K2,L2,I2,D2,S2⟩:=r2;simp only[lX.mk.injEq] at he;obtain⟨rfl,-,rfl,rfl,rfl,rfl,rfl⟩:=he
 dsimp only at *
 obtain⟨a1,c1,rfl,bf,SN,tP⟩:=aG.open;obtain⟨a2,c2,rfl,aW,aR,ry⟩:=aK.open;obtain⟨W,hW⟩:∃W,((w.alloc (.cells (pJ o vp vq vd) 42)).alloc (.cells (tU ⟨E1,N1,V,L1,I1,U,G⟩ ae (.slice a1 G.length c1)) 38)).alloc (.cells (tU ⟨E1,N2,V,L1,I1,U,G⟩ ac (.slice a2 G.length c2)) 38)=W:=⟨_,rfl⟩;have b0:=bc.new w (pJ o vp vq vd) 42;have b1:=bc.new (w.alloc (.cells (pJ o vp vq vd) 42)) (tU ⟨E1,N1,V,L1,I1,U,G⟩ ae (.slice a1 G.length c1)) 38;have b2:=bc.new ((w.alloc (.cells (pJ o vp vq vd) 42)).alloc (.cells (tU ⟨E1,N1,V,L1,I1,U,G⟩ ae (.slice a1 G.length c1)) 38)) (tU ⟨E1,N2,V,L1,I1,U,G⟩ ac (.slice a2 G.length c2)) 38;have s0:=λ(x:World) (ob:Obj)=>aU x ob
 have k0:=λ(x:World) (ob:Obj)=>(ay.refl [] x).alloc ob
 rw[s0] at b1;rw[s0,s0] at b2;have af:=(b0.keep (k0 _ (.cells (tU ⟨E1,N1,V,L1,I1,U,G⟩ ae (.slice a1 G.length c1)) 38))).keep (k0 _ (.cells (tU ⟨E1,N2,V,L1,I1,U,G⟩ ac (.slice a2 G.length c2)) 38));have au:=b1.keep (k0 _ (.cells (tU ⟨E1,N2,V,L1,I1,U,G⟩ ac (.slice a2 G.length c2)) 38));have tV:ay [] w W:=by rw[<-hW];exact((k0 _ _).alloc _).alloc _
 rw[hW] at af au b2;have fG:=ar tV;have HO:Hid (∀z,ay [] W z->z.cell? w.heap.size=some (.int .i64 o.K)):=λz hk=>by rw[(af.keep hk).cell];rfl
 have HA:Hid (∀z,ay [] W z->z.cell? (w.heap.size+1:Nat)=some (.int .i64 E1)/\z.cell? ⟨w.heap.size+1,1,none⟩=some (.int .i64 N1)/\z.cell? ⟨w.heap.size+1,2,none⟩=some (.int .i64 V)/\z.cell? ⟨w.heap.size+1,3,none⟩=some (.int .i64 L1)/\z.cell? ⟨w.heap.size+1,4,none⟩=some (.int .i64 I1)/\z.cell? ⟨w.heap.size+1,5,none⟩=some ae/\z.cell? ⟨w.heap.size+1,6,none⟩=some (.slice a1 G.length c1)):=λz hk=>by
  have hb:=au.keep hk;refine⟨?_,?_,?_,?_,?_,?_,?_⟩<;>(rw[hb.cell];rfl)
 have HB:Hid (∀z,ay [] W z->z.cell? (w.heap.size+1+1:Nat)=some (.int .i64 E1)/\z.cell? ⟨w.heap.size+1+1,1,none⟩=some (.int .i64 N2)/\z.cell? ⟨w.heap.size+1+1,2,none⟩=some (.int .i64 V)/\z.cell? ⟨w.heap.size+1+1,3,none⟩=some (.int .i64 L1)/\z.cell? ⟨w.heap.size+1+1,4,none⟩=some (.int .i64 I1)/\z.cell? ⟨w.heap.size+1+1,5,none⟩=some ac/\z.cell? ⟨w.heap.size+1+1,6,none⟩=some (.slice a2 G.length c2)):=λz hk=>by
  have hb:=b2.keep hk;refine⟨?_,?_,?_,?_,?_,?_,?_⟩<;>(rw[hb.cell];rfl)
 obtain⟨az,aI,rfl,-⟩:=id aj;obtain⟨aB,aL,rfl,-⟩:=id ak;rw[fq] at *;have WW:Hid (∀z,ay [] W z->(convert 29 9 (.slice az U.length aI)).run prog z= .ok (.string (ac4 U)) z):=λz hk=>Kw (aj.keep (tV.trans' hk))
 have aD:Hid (∀z,ay [] W z->(convert 29 9 (.slice aB U.length aL)).run prog z= .ok (.string (ac4 U)) z):=λz hk=>Kw (ak.keep (tV.trans' hk))
 have q0:=HO.out W (ay.refl _ _);obtain⟨p0,p1,p2,p3,p4,p5,p6⟩:=HA.out W (ay.refl _ _);obtain⟨r0,r1,r2,r3,r4,r5,r6⟩:=HB.out W (ay.refl _ _);have t1:=WW.out W (ay.refl _ _);have t2:=aD.out W (ay.refl _ _);have HW:=ar hW;have aZ:=YZ;have aX:=NS;unfold maxLen at SN aR;clear hO aj ak b0 af b1 au b2 s0 k0 tV aG aK WW aD hW;generalize ac4 U=sd,U.length=ld at *;generalize tU ⟨E1,N1,V,L1,I1,U,G⟩ (.slice az ld aI) (.slice a1 G.length c1)=Z1,tU ⟨E1,N2,V,L1,I1,U,G⟩ (.slice aB ld aL) (.slice a2 G.length c2)=Z2,pJ o vp vq vd=Z0 at *;have aN:(N1 != N2)=false\/((N1 != N2)=true/\(o.K != 12)=false):=by
  by_cases h:N1=N2
  ·exact .inl (by simpa using h)
  ·exact .inr ⟨by simpa using h,by rcases hN with h'|h';exact absurd h' h;simpa using h'⟩
 clear hN;generalize hm:G.length=m at *;clear hm;have aC:=HW.out.symm;rw[aC] at q0 p0 p1 p2 p3 p4 p5 p6 r0 r1 r2 r3 r4 r5 r6 t1 t2;clear aC;rcases aN with aQ|⟨aQ,aY⟩
 all_goals
  go_in
  skip
  go_wp2_with fail;rw[HW.out];clear q0 p0 p1 p2 p3 p4 p5 p6 r0 r1 r2 r3 r4 r5 r6 t1 t2 HW;go_loopg [7] m (λgh s7 z=>∃k:Nat,k+gh=m/\s7= .int .i64 (k:Int)/\Hid (ay [] W z))
  case atStart=>exact⟨0,by omega,rfl,ay.refl _ _⟩
  case round=>
   obtain⟨k,hk,rfl,HP⟩:=hrel;have p6:=(HA.out wr HP.out).2.2.2.2.2.2;have r6:=(HB.out wr HP.out).2.2.2.2.2.2;cases gk with
   |zero=>
    obtain rfl:k=m:=by omega
    have aP:=ar (fG.out.trans' HP.out);clear HP HA HB;go_wp2;go_ret;exact⟨rfl,aP.out⟩
   |succ gg=>
    have FW:k<m:=by omega
    have bg:(k:Int)<(m:Int):=by omega
    have cM:(0:Int)<=(k:Int):=by omega
    obtain⟨ax,aF,rfl,d1,d2⟩:=tP.out k FW;obtain⟨Vj,aJ,rfl,d3,d4⟩:=ry.out k FW;have aM:=fG.out.trans' HP.out;have aa:∀z,ay [] wr z->∀g off,g<w.heap.size->z.cell? ⟨g,off,none⟩=w.cell? ⟨g,off,none⟩:=λz J g off hg=>aO ((aM.trans' J).block g hg (by simp))
    have aT:Hid (∀z,ay [] wr z->(loadVar 99 ⟨aH,aF+k*2,none⟩).run prog z= .ok (.agg #[.string (eY G k),(jq G k:Int)]) z):=λz J=>tv ((aa z J _ _ ax).trans d1) ((aa z J _ _ ax).trans d2)
    have Nf:Hid (∀z,ay [] wr z->(loadVar 99 ⟨av,aJ+k*2,none⟩).run prog z= .ok (.agg #[.string (eY G k),(jq G k:Int)]) z):=λz J=>tv ((aa z J _ _ Vj).trans d3) ((aa z J _ _ Vj).trans d4)
    clear aa d1 d2 d3 d4 aM;generalize eY G k=s,jq G k=x at *;have aA:Hid (∀z,ay [] wr z->z.cell? ⟨w.heap.size+1,6,none⟩=some (.slice (some ⟨aH,aF,none⟩) m c1)/\z.cell? ⟨w.heap.size+1+1,6,none⟩=some (.slice (some ⟨av,aJ,none⟩) m c2)):=λz J=>⟨(HA.out z (HP.out.trans' J)).2.2.2.2.2.2,(HB.out z (HP.out.trans' J)).2.2.2.2.2.2⟩
    go_wp2_with fail;refine iW (S:=λz=>ay [] wr z) ((ay.refl _ _).drew) ?_;repeat (
     (first
     |(refine aS.cons (.agg #[.string s,x]) (bG.load rfl 99 (.tmp 74) rfl _ rfl λz hx=>aT.out z hx) ?_)
     |(refine aS.cons (.agg #[.string s,x]) (bG.load rfl 99 (.tmp 79) rfl _ rfl λz hx=>Nf.out z hx) ?_)
     |(refine aS.cons ?_ (bG.val rfl ?h) ?_;(case h=>(intro z hx;have q1:=(aA.out z hx).1;have q2:=(aA.out z hx).2;clear hx;go_simp;rfl))));simp only[Act.put,ag,ah,ai])
    refine aS.done λz hx=> ?_
    have tT:=ar (HP.out.trans' hx);clear hx;go_wp2;go_roundg gg;case measure=>omega
    case rel=>exact⟨k+1,by omega,by go_num,tT.out⟩
def WN (M:Nat->Nd) (p:(Nat->Nd)×lX):Prop:=p.2.E≠0->p=(M,cW p.2.E)
theorem aaV:WN M (BB M o):=by
 unfold BB
 repeat' split
 all_goals first|exact λ_=>rfl|exact λh=>absurd rfl h
theorem aaW:WN M (yo M o):=by
 unfold yo
 repeat' split
 all_goals first|exact λ_=>rfl|exact λh=>absurd rfl h
theorem R4:WN M (qE M o):=by
 unfold qE
 repeat' split
 all_goals first|exact λ_=>rfl|exact λh=>absurd rfl h
theorem R5:WN M (qF M o):=by
 unfold qF
 repeat' split
 all_goals first|exact λ_=>rfl|exact λh=>absurd rfl h
theorem aaX:WN M (zM M o):=by
 unfold zM
 repeat' split
 all_goals first|exact λ_=>rfl|exact λh=>absurd rfl h
theorem aaY:WN M (iJ M o):=by
 unfold iJ;split
 ·exact aaV
 split
 ·exact aaW
 split
 ·exact R4
 split
 ·exact R5
 split
 ·exact aaX
 unfold zN
 repeat' split
 all_goals first|exact λ_=>rfl|exact λh=>absurd rfl h
theorem Tx.plenty{W:World}{e:Ending}(h:Tx W f b gn gl gf M X n o w e w')(hf:40<=(aY X).length)(_:0<=n):
  ∃r Z,e= .returned (.agg Z)/\tO w.heap.size w' r Z/\ay [b,gn,gl,gf] w w'/\(r=(iJ M o).2\/(o.K=12/\r.E=(iJ M o).2.E))/\∃U,Live W f b gn gl gf (iJ M o).1 U (n+3000) w':=by
 obtain⟨r,Z,rfl,hr,hk,h⟩:=h;refine⟨r,Z,rfl,hr,hk,?_⟩;have V:r=(iJ M o).2->r.E≠0->Live W f b gn gl gf M X n w'->(r=(iJ M o).2\/(o.K=12/\r.E=(iJ M o).2.E))/\∃U,Live W f b gn gl gf (iJ M o).1 U (n+3000) w':=λe1 J G=>by
  rw[e1] at J;refine⟨.inl e1,X,?_⟩;rw[aaY J];exact G.le (by omega)
 rcases h with ⟨J,G,⟨z,h3,-,-,h5⟩|z⟩|⟨J,aa,z,U,G⟩
 ·have h7:(iJ M o).2.E=7:=h5.resolve_left (by omega)
  exact V (by rw[h3,aaY (by omega),h7]) J G
 ·exact V z J G
 ·refine⟨?_,U,G⟩
  rcases z with z|⟨z,x,-,h3⟩
  ·exact .inl z
  ·exact .inr ⟨z,by rw[h3]⟩
def Two (h:World) (f b gn gl gf f' z U G J:Nat) (M:Nat->Nd) (X Y:List Int) (n:Int) (w:World):Prop:=
 Live h f b gn gl gf M X n w/\Live h f' z U G J M Y n w
def Part (f b gn gl gf f' h U G J:Nat):Prop:=∃z,(f<z/\b<z/\gn<z/\gl<z/\gf<z)/\(z<=f'/\z<=h/\z<=U/\z<=G/\z<=J)
theorem Two.keep0{G:Nat}(h:Two z f b gn gl gf f' G W U V M X Y n w)(J:ay [] w w'):Two z f b gn gl gf f' G W U V M X Y n w':=⟨h.1.keep0 J,h.2.keep0 J⟩
theorem Two.left(h:Two G f b gn gl gf f' b' yF U V M X Y n w)(hp:Part f b gn gl gf f' b' yF U V)(hX:60<=(aY X).length)(hT:ku G)(h0:0<=n)(hn:n<=1000000000){o:iP}{vp vq vd:Value}(hI:BO w o vp vq vd):
  Calls prog 11 #[f,pJ o vp vq vd] w λe w'=>∃r Z,e= .returned (.agg Z)/\tO w.heap.size w' r Z/\ay [] G w'/\(r=(iJ M o).2\/(o.K=12/\r.E=(iJ M o).2.E))/\w.heap.size<=w'.heap.size/\∃W,Live G f b gn gl gf (iJ M o).1 W (n+3000) w'/\Live G f' b' yF U V M Y n w':=by
 refine(Dt h.1 hT hn hI).mono ?_;intro e w' aa;obtain⟨r,Z,rfl,hr,hk,J,W,hl⟩:=aa.plenty (by omega) h0;obtain⟨z,ae,af⟩:=hp;have ac:=h.1.new;exact⟨r,Z,rfl,hr,hl.keeps,J,hk.size,W,hl,h.2.keep hk λy hy=>by simp only[aM,aK,bC] at hy ⊢;omega⟩
theorem Two.right{M':Nat->Nd}(h:Live G f b gn gl gf M' X n' w)(h':Live G f' W yF U V M Y n w)(hp:Part f b gn gl gf f' W yF U V)(hY:60<=(aY Y).length)(hT:ku G)(h0:0<=n)(hn:n<=1000000000){o:iP}{vp vq vd:Value}(hI:BO w o vp vq vd):
  Calls prog 11 #[f',pJ o vp vq vd] w λe w'=>∃r Z,e= .returned (.agg Z)/\tO w.heap.size w' r Z/\ay [W,yF,U,V] w w'/\(r=(iJ M o).2\/(o.K=12/\r.E=(iJ M o).2.E))/\∃Y',Live G f b gn gl gf M' X n' w'/\Live G f' W yF U V (iJ M o).1 Y' (n+3000) w':=by
 refine(Dt h' hT hn hI).mono ?_;intro e w' aa;obtain⟨r,Z,rfl,hr,hk,J,X',hl⟩:=aa.plenty (by omega) h0;obtain⟨z,ae,af⟩:=hp;have ac:=h'.new;exact⟨r,Z,rfl,hr,hk,J,X',h.keep hk (λy hy=>by simp only[aM,aK,bC] at hy ⊢;omega),hl⟩
theorem Live.since{J:World}(h:Live J f b gn gl gf M X n w)(G:ay [] z J):Live z f b gn gl gf M X n w:=by
 have :=G.size;have :=h.new;exact⟨h.fs,h.ws,h.pm,G.trans' h.keeps,⟨by omega,by omega,by omega,by omega,by omega⟩,h.off⟩
end
section
variable{G W0 w w' z:World}{o:iP}{Z:Array Value}{v:Value}{U V W b b' f f' g gf gl gn yF yH:Nat}{l:List iP}{M:Nat->Nd}{X Y:List Int}{n n':Int}
section
variable {P:Program} {ops:Array Oper} {Q:Exit->Act->World->Prop} {md:Region.Mode}
def Du (P:Program) (md:Region.Mode) (ops:Array Oper) (Q:Exit->Act->World->Prop) (S:Option Value->World->Prop) (F L:Nat):Nat->Array Bool->Option Value->Act->Prop
 |0,listed,s,a=>Region.ready md ops listed=[]/\∀w,S s w->Q .normal a w
 |fuel+1,listed,s,a=>
  (Region.ready md ops listed=[]->∀w,S s w->Q .normal a w)/\
  (∀i∈Region.ready md ops listed,i≠L->∀w,S s w->wpOp P ops Q i (λh w'=>∃t,S t w'/\Du P md ops Q S F L fuel (listed.setIfInBounds i true) t h) a w)/\
  (L∈Region.ready md ops listed->∀w,S s w->wpOp P ops Q L (wpAny P md ops Q fuel (listed.setIfInBounds L true)) a w)
theorem Ia {S:Option Value->World->Prop}{F L:Nat}:∀(fuel:Nat) (z:Array Bool) (s:Option Value) (a:Act),Du P md ops Q S F L fuel z s a->∀w,S s w->wpAny P md ops Q fuel z a w
 |0,_,_,_,h,w,hS=>⟨h.1,h.2 w hS⟩
 |fuel+1,z,s,a,h,w,hS=>by
  refine⟨λV=>h.1 V w hS,λi J=> ?_⟩;by_cases G:i=L
  ·subst G
   exact h.2.2 J w hS
  ·exact wpOp_mono (λW w' ⟨t,U,h2⟩=>Ia fuel _ t W h2 w' U) (h.2.1 i J G w hS)
theorem L3 {S:Option Value->World->Prop}{i F L:Nat}{V:Oper}{v:Value}(hi:ops[i]? =some V)(ak:i≠L)(XN:∀(j:Nat) (o:Oper) cs b,ops[j]? =some o->o.op≠.select cs b)
  (hQ:∀c a w,Q (.panic c) (a.put V.dst v) w->Q (.panic c) a w) (hL:leads md ops ops.size i L=true):
  ∀(fuel:Nat) (z:Array Bool) (s:Option Value) (a:Act),uA md ops z->
   (∀j W,ops[j]? =some W->j≠i->z.getD j true=false->(∀e∈W.after,Region.binds md e=true->e.on≠i)->V.apart ops W=true)->
   i∈Region.ready md ops z->(∀t,bG P ops (S t) V v a)->
   Du P md ops Q S F L fuel (z.setIfInBounds i true) s (a.put V.dst v)->Du P md ops Q S F L (fuel+1) z s a:=by
 have ag:∀z:Array Bool,uA md ops z->i∈Region.ready md ops z->L∉Region.ready md ops z:=λz hc J hm=>
  DT hc _ i L hL (mem_ready.1 J).1 hm
 intro fuel;induction fuel with
 |zero=>
  intro z s a hc _ J hy H;refine⟨λh=>(by rw[h] at J;cases J),λj hj _ w hS=> ?_,λhm=>absurd hm (ag z hc J)⟩;by_cases U:j=i
  ·subst U;exact(hy s).wpOp hi hS λw' WR=>⟨s,WR,H⟩
  ·have :=ready_mono hj U
   rw[H.1] at this;cases this
 |succ fuel ih=>
  intro z s a hc G J hy H;refine⟨λh=>(by rw[h] at J;cases J),λj hj aj w hS=> ?_,λhm=>absurd hm (ag z hc J)⟩;by_cases U:j=i
  ·subst U;exact(hy s).wpOp hi hS λw' WR=>⟨s,WR,H⟩
  ·have h1:=H.2.1 j (ready_mono hj U) aj w hS
   obtain⟨XO,W,aa,ae⟩:=mem_ready.1 hj;have XP:∀e∈W.after,Region.binds md e=true->e.on≠i:=λe he hb ai=>by
    have h1:=ae e he hb;have h0:=(mem_ready.1 J).1;rw[ai] at h1;rw[Ct h0] at h1;cases h1
   have Qb:∀k ok,ops[k]? =some ok->k≠i->(z.setIfInBounds j true).getD k true=false->
     (∀e∈ok.after,Region.binds md e=true->e.on≠i)->V.apart ops ok=true:=λk ok hk xa af ah=>by
    refine G k ok hk xa ?_ ah;by_cases ac:j=k
    ·subst ac;exact XO
    ·rw[Go.getD_set_ne true ac] at af;exact af
   -- what is there of the value, whatever F's answer is
   have h2:=Ba (S:=S) aa (G j W aa U XO XP) (λcs b=>XN i V cs b hi) (λcs b=>XN j W cs b aa) hQ hy h1;refine wpOp_mono (λa' w' h3=> ?_) h2;obtain⟨h4,t,h5,h6⟩:=h3;rw[Array.setIfInBounds_comm _ _ (cV U)] at h6;exact⟨t,h5,ih (z.setIfInBounds j true) t a' (vU hc hj) Qb (ready_mono J (cV U)) h4 h6⟩
def nN (P:Program) (ops:Array Oper) (S:Option Value->World->Prop) (E:Act->Prop):List Oper->Act->Prop
 | [],a=>E a
 |o::rest,a=>∃v,(∀t,bG P ops (S t) o v a)/\nN P ops S E rest (a.put o.dst v)
theorem nN.cons{S:Option Value->World->Prop}{E:Act->Prop}{o:Oper}{rest:List Oper}{a:Act}(v:Value)(h:∀t,bG P ops (S t) o v a)(z:nN P ops S E rest (a.put o.dst v)):nN P ops S E (o::rest) a:=⟨v,h,z⟩
theorem ain {S:Option Value->World->Prop}{F L:Nat}(aa:Region.noSelect ops=true)(hQ:∀d v c a w,Q (.panic c) (Act.put a d v) w->Q (.panic c) a w){E:Act->Prop}(m:Nat)(done:Array Bool)
  (V:∀a,E a->Du P md ops Q S F L m done none a):∀(J:List Nat) (l:List Oper) (z:Array Bool) (a:Act),uA md ops z->SE md ops F L z J=true->nv z J=done->
   l=J.filterMap (λi=>ops[i]?)->l.length=J.length->nN P ops S E l a->Du P md ops Q S F L (m+J.length) z none a:=by
 intro J;induction J with
 |nil=>
  intro l z a _ _ hd W _ h;have ac:l=[]:=by rw[W];rfl
  subst ac;have ae:z=done:=hd;subst ae;exact V a h
 |cons i J ih=>
  intro l z a hc hp hd W G h;unfold SE at hp;simp only[fF,bne_iff_ne,ne_eq] at hp;obtain⟨⟨⟨⟨⟨c1,c2⟩,c3⟩,c4⟩,c5⟩,c6⟩:=hp;cases ho:ops[i]? with
  |none=>
   exfalso
   rw[W,gV,ho] at G;have :=List.length_filterMap_le (λi=>ops[i]?) J;simp only[cA] at G;omega
  |some o=>
   rw[gV,ho] at W;subst W;obtain⟨v,hv,hr⟩:=h;have BV:i∈Region.ready md ops z:=by simpa using c2
   have U:=ih _ (z.setIfInBounds i true) (a.put o.dst v) (vU hc BV) c6 hd rfl (by simpa using G) hr;rw[cA,<-Nat.add_assoc];exact L3 ho c4 (Region.noSelect_spec aa) (hQ o.dst v) c5 _ _ _ a hc (Region.free_spec ho c1) BV hv U
theorem Dv {S:Option Value->World->Prop}{id:Nat}{a:Act}{w:World}(path:List Nat)(F L:Nat){l:List Oper}{f o:Oper}{tl:List Oper}(V:P.follows .mixedOrders=true)(ai:Region.noSelect ops=true)
  (hp:SE .any ops F L (dG ops.size 0) path=true) (hl:l=path.filterMap (λi=>ops[i]?)) (aj:l.length=path.length) (hf:ops[F]? =some f) (U:Region.ready .any ops (nv (dG ops.size 0) path)=[F]) (ah:F≠L)
  (av:(nv (dG ops.size 0) path).setIfInBounds F true=dG ops.size L) (ay:path.length+1=L) (pj:ops.toList.drop L=o::tl) (ak:((List.range (tl.length+1)).all λk=>Region.ready .any ops (dG ops.size (L+k)) == [L+k])=true) (af:Region.ready .any ops (dG ops.size ops.size)=[])
  (hQ:∀d v c a w,Q (.panic c) (Act.put a d v) w->Q (.panic c) a w) (z:S none w.drew) (fn:Nat)
  (h:nN P ops S (λa=>Region.wanted f (yielded ops a.tmps)=true/\∃args,(∀w,(execOp a.eval f).run P w= .ok (.enter fn args) w)/\∀w,S none w->Calls P fn args w λe w'=>∃u,e=(u:Value)/\S (some u) w'/\∀w,S (some u) w->wpList P ops Q (o::tl) (a.put f.dst u) w) l a):(Code.region id ops true).wp P Q a w:=by
 have W:ops.size=L+(tl.length+1):=by
  have h1:=cP List.length pj;rw[bV,dK,cA] at h1;omega
 have lj:=vV ak;rw[<-W] at lj;refine wp_region_any V ?_;rw[<-kF];refine Ia (S:=S) (F:=F) (L:=L) _ _ none _ ?_ _ z;have ac:∀k,k<(o::tl).length->ops[L+k]? =(o::tl)[k]? :=λk _=>by rw[<-pj,cj,dw]
 have hn:ops.size=(tl.length+2)+path.length:=by omega
 have ar:uA .any ops (dG ops.size 0):=by
  intro k o ho hl;rw[kF] at hl;have hk:k<ops.size:=(Array.getElem?_eq_some_iff.1 ho).1;simp[hk] at hl
 have aa:=ain (md:= .any) (Q:=Q) (S:=S) (F:=F) (L:=L) ai hQ (tl.length+2) (nv (dG ops.size 0) path) (λa h=>by
  obtain⟨hw,args,he,G⟩:=h;refine⟨λh0=>(by rw[U] at h0;cases h0),λi hi ae w z=> ?_,λV=> ?_⟩
  ·rw[U,au] at hi
   subst hi;unfold Go.wpOp;simp only[hf,hw,if_true];refine .inl ?_;unfold Oper.wp;rw[he w,Oper.upon_enter];refine(G w z).mono λe w' ag=> ?_
   obtain⟨u,rfl,ax,J⟩:=ag;refine⟨some u,ax,?_⟩;rw[av];have h2:=lj L (aI _) (by omega);have MS:∀w,S (some u) w->wpAny P .any ops Q (ops.size-L) (dG ops.size L) (a.put f.dst u) w:=λw z=>
    FP (o::tl) L _ w (by rw[W];simp) ac (λj hj Sq=>lj j hj Sq) af (J w z)
   rw[show ops.size-L=tl.length+1 by omega] at MS;refine⟨λh0=>(by rw[h2] at h0;cases h0),λi hi ae=> ?_,λV w z=>(MS w z).2 _ V⟩;rw[h2,au] at hi;exact absurd hi ae
  ·rw[U,au] at V
   exact absurd V.symm ah) path l (dG ops.size 0) a ar hp rfl hl aj h
 rw[<-hn] at aa;exact aa
end
end
section
open Go.RowKit
variable{G W0 w w' z:World}{o:iP}{Z:Array Value}{v:Value}{U V W b b' f f' g gf gl gn yF yH:Nat}{l:List iP}{M:Nat->Nd}{X Y:List Int}{n n':Int}
def aaZ (f f':Nat) (M:Nat->Nd) (i:Nat) (w:World):Prop:=
 Calls prog 16 #[f] w λe W=>∃G,e=(G:Nat)/\Hid (Calls prog 30 #[(G:Nat),(i:Int)] W λe z=>∃n v va,e= .returned (.tuple #[aL n v,va,(if (M i).K=0 then 2 else 0:Int)])/\
  Hid (∃V,(storeVar 75 z.heap.size (.agg (aL n v))).run prog (z.alloc (.cells (aL bY (.slice none 0 0)) 75))= .ok () V/\
   Calls prog 16 #[f'] V λe w4=>∃G,e=(G:Nat)/\Hid (Calls prog 30 #[(G:Nat),(i:Int)] w4 λe w5=>∃n' U J,e= .returned (.tuple #[aL n' U,J,(if (M i).K=0 then 2 else 0:Int)])/\
    Hid (∃h,(storeVar 75 w5.heap.size (.agg (aL n' U))).run prog (w5.alloc (.cells (aL bY (.slice none 0 0)) 75))= .ok () h/\ay [] w h/\
     (∃a cap,h.cell? ⟨z.heap.size,17,none⟩=some (.slice a (M i).E.length cap))/\(∃a cap,h.cell? ⟨w5.heap.size,17,none⟩=some (.slice a (M i).E.length cap))/\
     (h.cell? ⟨z.heap.size,1,none⟩=some (.int .i64 (M i).K)/\h.cell? ⟨z.heap.size,2,none⟩=some (.int .i64 (M i).L)/\h.cell? ⟨z.heap.size,3,none⟩=some (.int .i64 (szM (M i))))/\
     (h.cell? ⟨w5.heap.size,1,none⟩=some (.int .i64 (M i).K)/\h.cell? ⟨w5.heap.size,2,none⟩=some (.int .i64 (M i).L)/\h.cell? ⟨w5.heap.size,3,none⟩=some (.int .i64 (szM (M i))))))))
theorem ac5{yG:Nat}(h:Two W0 f b gn gl gf f' b' yF yG yH M X Y n w){i:Nat}(hi:i<32):aaZ f f' M i w:=by
 refine(TC h.1 hi).mono ?_;rintro e w1 ⟨bs,rfl,hq⟩;obtain⟨aa,hg⟩:=hq.out;refine⟨bs,rfl,?_⟩;show Calls _ _ _ _ _;refine hg.mono ?_;rintro e w2 ⟨n1,v,va,cap,a,rfl,hB,rfl,⟨e1,e2,e3⟩,U,ac⟩;refine⟨n1,_,va,rfl,?_⟩;obtain⟨w3,p1,p2,p3⟩:=cr (n:=n1) (v:= .slice a (M i).E.length cap) (bc.new w2 (aL bY (.slice none 0 0)) 75) rfl hB U;have ai:ay [] w2 w3:=((ay.refl [] w2).alloc _).trans p3 (by intro x hx;rw[au] at hx;omega);refine⟨w3,p1,?_⟩;have EE:=(aa.trans' ac).trans' ai;refine(TC (h.keep0 EE).2 hi).mono ?_;rintro e w4 ⟨ah,rfl,ag⟩;obtain⟨W,af⟩:=ag.out;refine⟨ah,rfl,?_⟩;show Calls _ _ _ _ _;refine af.mono ?_;rintro e w5 ⟨n2,v',ae,z,a',rfl,V,rfl,⟨d1,d2,d3⟩,J,kr⟩;refine⟨n2,_,ae,rfl,?_⟩;obtain⟨w6,q1,q2,q3⟩:=cr (n:=n2) (v:= .slice a' (M i).E.length z) (bc.new w5 (aL bY (.slice none 0 0)) 75) rfl V J;have jE:ay [] w5 w6:=((ay.refl [] w5).alloc _).trans q3 (by intro x hx;rw[au] at hx;omega);have G:=p2.keep ((W.trans' kr).trans' jE);have i1:=fT (.slice a (M i).E.length cap) hB;have i2:=fT (.slice a' (M i).E.length z) V;refine⟨w6,q1,EE.trans' ((W.trans' kr).trans' jE),⟨a,cap,?_⟩,⟨a',z,?_⟩,⟨?_,?_,?_⟩,?_,?_,?_⟩
 ·rw[G.cell,i1.f5]
 ·rw[q2.cell,i2.f5]
 ·rw[G.cell,i1.f1,e1]
 ·rw[G.cell,i1.f2,e2]
 ·rw[G.cell,i1.f3,e3]
 ·rw[q2.cell,i2.f1,d1]
 ·rw[q2.cell,i2.f2,d2]
 ·rw[q2.cell,i2.f3,d3]
theorem ac6 (h:o.K=11\/o.K=12):(iJ M o).1=M/\(iJ M o).2.E≠7:=by
 unfold iJ;rw[aA,aA,aA,aA,aA,aA];split
 ·refine⟨rfl,?_⟩
  dsimp only
  split<;>decide
 ·rw[aB]
  exact⟨rfl,by show(0:Int)≠7;decide⟩
theorem aa0 (h:Two G f b gn gl gf f' b' yF W yH M X Y n w)(hp:Part f b gn gl gf f' b' yF W yH)(hX:60<=(aY X).length)(hT:ku G)(h0:0<=n)(hn:n<=1000000000){o:iP}{vp vq vd:Value}(hI:BO w o vp vq vd):
  Calls prog 11 #[f,pJ o vp vq vd] w λe w'=>∃r Z,e= .returned (.agg Z)/\Hid ((r=(iJ M o).2\/(o.K=12/\r.E=(iJ M o).2.E))/\∃z,(storeVar 38 w'.heap.size (.agg Z)).run prog (w'.alloc (.cells (tU fh (.slice none 0 0) (.slice none 0 0)) 38))= .ok () z/\
   ay [] G z/\tO w.heap.size z r Z/\bc z w'.heap.size Z 38/\(∃X',Live G f b gn gl gf (iJ M o).1 X' (n+3000) z)/\Live G f' b' yF W yH M Y n z/\w.heap.size<=w'.heap.size):=by
 refine(h.left hp hX hT h0 hn hI).mono ?_;rintro e w' ⟨r,Z,rfl,hr,hk,J,V,X',hl,aa⟩;refine⟨r,Z,rfl,J,?_⟩;obtain⟨z,p1,p2,p3⟩:=yu (bc.new w' (tU fh (.slice none 0 0) (.slice none 0 0)) 38) rfl hr.at;have U:ay [] w' z:=((ay.refl [] w').alloc _).trans p3 (by intro x hx;rw[au] at hx;omega);exact⟨z,p1,hk.trans' U,hr.keep U,p2,⟨X',hl.keep0 U⟩,aa.keep0 U,V⟩
theorem L4 (hT:ku w){v:Value}{g:Nat}{l:List iP}(hL:wY w v g l):
  Calls prog 5 #[v] w λe w'=>e=true/\ay [] w w':=by
 obtain⟨aB,aG,zL,W9,PA⟩:=hh5 (λz (G:ay [] w z)=>WL (hT.keep G)) (λz (G:ay [] w z)=>aaU (hL.keep G) 40 (by omega)) (λz (G:ay [] w z)=>Pq (hT.keep G) (k:=1) (.inl rfl)) hT hL;obtain⟨a,cap,rfl,bj,aR,aa⟩:=hL;unfold maxLen at aR;have bt:l.length<=9223372036854775807:=by omega
 clear hT aa bj aR;unfold BS at aG;go_in;go_wp2_with fail;refine Rr (aB.out w (ay.refl _ _)) λw1 aH=> ?_;obtain⟨jv,ac⟩:=hh2 aH (aG.out w1 aH);clear aH aG;go_wp2_with fail;refine ac.out.mono ?_;rintro e w' ⟨fb,rfl,aN,rfl⟩;have U:=ar aN;have aI:Hid (Calls prog 18 #[] w1 λe w2=>e=true/\Hid (ay [] w w2)):=(aB.out w1 jv.out).mono λe w2 h=>⟨h.1,jv.out.trans' h.2⟩
 clear aN ac aB;cases fb
 ·clear zL U
  go_wp2_with fail;refine Rr aI.out λw2 fC=> ?_;go_wp2;go_ret;exact⟨rfl,fC.out⟩
 have aO:=ar (zL.out w1 jv.out);have aX:Hid (∀z,ay [] w1 z->Calls prog 9 #[(1:Int)] z (LZ z)):=λz G=>zL.out z (jv.out.trans' G)
 clear zL aI;go_wp2_with fail;refine aO.out.mono ?_;rintro e w3 ⟨f,b,gn,gl,gf,Y,rfl,hl,-⟩;obtain⟨uk,aU⟩:=hh2 hl (aX.out w3 hl.keeps);clear hl aO aX;go_wp2_with fail;refine aU.out.mono ?_;rintro e w4 ⟨f',b',yF,yG,yH,Y',rfl,af,-⟩;have XY:Hid (Part f b gn gl gf f' b' yF yG yH/\Two w1 f b gn gl gf f' b' yF yG yH Dj Y Y' (3520+3000*((0:Nat):Int)) w4):=by
  obtain⟨d,-,hp⟩:=uk.out.pm;have aJ:=hp.old (by show Y.length≠0;have :=uk.out.ws.len;omega);have bk:=af.new;have bo:=uk.out.fs.lt;refine⟨⟨w3.heap.size,?_,by omega⟩,(uk.out.keep0 af.keeps).le (by omega),(af.since uk.out.keeps).le (by omega)⟩;omega
 clear af uk aU;go_wp2_with fail;go_loopg [7] l.length (λgh s7 z=>∃k:Nat,k+gh=l.length/\s7= .int .i64 (k:Int)/\Hid (∃M X Y,Two w1 f b gn gl gf f' b' yF yG yH M X Y (3520+3000*(k:Int)) z))
 case atStart=>exact⟨0,by omega,rfl,_,_,_,XY.out.2⟩
 case round=>
  obtain⟨k,G,rfl,HI⟩:=hrel;have br:l.length<=40:=(U.out trivial).1;cases gk with
  |zero=>
   obtain rfl:k=l.length:=by omega
   have bq:¬(l.length:Int)<(l.length:Int):=by omega
   obtain⟨M,X,Z,ht⟩:=HI.out;have ax:=ar ht;have rq:=dC;clear HI PA U XY ht G;go_wp2_with fail;go_loopg [9] 32 (λgh s9 z=>∃i:Nat,i+gh=32/\s9= .int .i64 (i:Int)/\Hid (ay [] wr z))
   case atStart=>exact⟨0,by omega,rfl,ay.refl _ _⟩
   case round=>
    obtain⟨i,hi,rfl,mK⟩:=hrel;cases gk with
    |zero=>
     obtain rfl:i=32:=by omega
     have HF:Hid (ay [] w wr):=(jv.out.trans' ax.out.1.keeps).trans' mK.out;clear mK ax;go_wp2;go_ret;exact⟨rfl,HF.out⟩
    |succ gg=>
     have jr:(i:Int)<32:=by omega
     have HG:=ar (ac5 (ax.out.keep0 mK.out) (i:=i) (by omega));unfold aaZ at HG;generalize (if (M i).K=0 then (2:Int) else 0)=e0 at *;generalize (M i).K=nk,(M i).L=nl,szM (M i)=ns,(M i).E.length=ne,aL bY (.slice none 0 0)=Z0 at *;have bD:(0:Int)<=(i:Int):=by omega
     clear ax;go_wp2_with fail;refine HG.out.mono ?_;rintro e w5 ⟨bs,rfl,W6⟩;clear HG;go_wp2_with fail;refine W6.out.mono ?_;rintro e w6 ⟨n1,v1,bw,rfl,hq⟩;obtain⟨w7,p1,hc⟩:=hq.out;obtain⟨HS,HC⟩:=hh2 p1 hc;clear hq p1 hc W6;generalize aL n1 v1=Z1 at *;go_wp2_with(with_reducible refine gS 75 HS.out ?_);refine HC.out.mono ?_;rintro e w8 ⟨bu,rfl,aQ⟩;clear HC HS;go_wp2_with fail;refine aQ.out.mono ?_;rintro e w9 ⟨n2,v2,bp,rfl,hq⟩;obtain⟨WX,q1,G,⟨a1,c1,t1⟩,⟨a2,c2,t2⟩,⟨t3,t4,t5⟩,t6,t7,t8⟩:=hq.out;obtain⟨jh,HK⟩:=hh2 q1 (mK.out.trans' G);clear hq q1 G aQ mK;generalize aL n2 v2=Z2 at *;go_wp2_with(with_reducible refine gS 75 jh.out ?_);go_roundg gg;case measure=>omega
     case rel=>exact⟨i+1,by omega,by go_num,HK.out⟩
  |succ gg=>
   have bA:(k:Int)<(l.length:Int):=by omega
   have cM:(0:Int)<=(k:Int):=by omega
   obtain⟨M,X,Z0,ht⟩:=HI.out;obtain⟨off,vp,vq,vd,rfl,aa⟩:=PA.out.op2 (k:=k) (by omega) ((U.out trivial).2 k (by omega) (by omega));obtain⟨V,av,ac,Ow⟩:=hh4 aa (jv.out.trans' ht.1.keeps) (Ps ht.1) (λz (G:ay [] wr z)=>(Ps (ht.2.keep0 G)));have aj:Hid (60<=(aY X).length->∀z,ay [] wr z->Calls prog 11 #[f,pJ (oT l k) vp vq vd] z _):=λhX z G=>aa0 (ht.keep0 G) XY.out.1 hX (W9.out.keep jv.out) (by omega) (by omega) (aa z (av.out.trans' G)).1.1
   have xX:Hid (60<=(aY Z0).length->∀(X':List Int) z,Live w1 f b gn gl gf (iJ M (oT l k)).1 X' (3520+3000*((k:Nat):Int)+3000) z->Live w1 f' b' yF yG yH M Z0 (3520+3000*((k:Nat):Int)) z->ay [] w z->Calls prog 11 #[f',pJ (oT l k) vp vq vd] z _):=λhY X' z h1 h2 h3=>Two.right h1 h2 XY.out.1 hY (W9.out.keep jv.out) (by omega) (by omega) (aa z h3).1.1
   have aZ:Hid (∀y∈[b',yF,yG,yH],w.heap.size<=y):=λy J=>by have :=ht.2.new;have :=jv.out.size;simp only[aM,aK,bC] at J;omega
   have K5:Hid (∀y∈[b',yF,yG,yH],y<wr.heap.size):=by
    obtain⟨d,-,hp⟩:=ht.2.pm;have aJ:=hp.old (by show Z0.length≠0;have :=ht.2.ws.len;omega);intro y J;simp only[aM,aK,bC] at J;omega
   generalize hx:(aY X).length=x,J:(aY Z0).length=y,oT l k=o at *;clear aa HI hx J XY W9 ht;go_wp2_with fail;refine Rr ac.out λw5 kr=> ?_;obtain⟨pU,Ow⟩:=hh2 kr (Ow.out w5 kr);clear kr ac;by_cases bl:x<60
   ·have K9:(x:Int)<60:=by omega
    have HF:=ar (av.out.trans' pU.out);clear Ow aj xX V PA U;go_wp2;go_ret;exact⟨rfl,HF.out⟩
   have K9:decide ((x:Int)<60)=false:=aP (by omega);go_wp2_with fail;refine Rr Ow.out λw6 jE=> ?_;have rX:=ar (pU.out.trans' jE);clear jE Ow pU;by_cases bz:y<60
   ·have bf:(y:Int)<60:=by omega
    have HF:=ar (av.out.trans' rX.out);clear aj xX V PA U;go_wp2;go_ret;exact⟨rfl,HF.out⟩
   have bf:decide ((y:Int)<60)=false:=aP (by omega);have mO:=ar (V.out w6 (av.out.trans' rX.out)).1.2;have HD:=ar (aj.out (by omega) w6 rX.out);have EU:=lD;clear aj PA U;go_wp2_with(first|(with_reducible refine gL 42 mO.out ?_));refine HD.out.mono ?_;rintro e w7 ⟨r,Z,rfl,hq⟩;obtain⟨aA,w8,p1,rM,wm,Yn,⟨X',WQ⟩,MV,bg⟩:=hq.out;have nP:Hid ((∀y∈[b',yF,yG,yH],y<w6.heap.size)/\w6.heap.size<=w7.heap.size):=⟨λy J=>bQ (K5.out y J) rX.out.size,bg⟩;obtain⟨HS,PB,BU,Qy,D5,az,ak⟩:=hh7 p1 (jv.out.trans' rM) wm Yn WQ MV aA;have cE:w8.cell? w7.heap.size=some (.int .i64 r.E):=by
    obtain⟨vd,ve,rfl,-⟩:=wm.at;rw[Yn.cell];rfl
   have cK:=(V.out w8 PB.out).2.2;clear hq p1 rM wm Yn WQ MV aA HD mO;generalize ba:tU fh (.slice none 0 0) (.slice none 0 0)=R0 at *;clear ba;by_cases hK:o.K=11\/o.K=12
   ·obtain⟨t1,t2⟩:=ac6 (M:=M) hK
    have h7:(r.E==7)=false:=by
     rw[cg];rcases ak.out with h|h
     ·rw[h];exact t2
     ·rw[h.2];exact t2
    have mV:Hid (∃M X Y,Two w1 f b gn gl gf f' b' yF yG yH M X Y (3520+3000*((k+1:Nat):Int)) w8):=⟨M,X',Z0,by have :=D5.out;rw[t1] at this;exact this.le (by omega),az.out.le (by omega)⟩;clear t1 t2 ak D5 az xX BU Qy;generalize r.E=re at *;rcases hK with hK|hK
    all_goals
     rw[hK] at cK;go_wp2_with(first|(with_reducible refine gS 38 HS.out ?_));go_roundg gg;try exact⟨k+1,by omega,by go_num,mV.out⟩
     try omega
   ·have bn:(o.K==11)=false:=by rw[cg];omega
    have bv:(o.K==12)=false:=by rw[cg];omega
    have aC:(∀y∈[b',yF,yG,yH],y<w6.heap.size)/\w6.heap.size<=w7.heap.size:=nP.out;obtain⟨US,au,ae⟩:∃US:Option Value->World->Prop,Hid (∀z,US none z↔ay [] w8 z)/\Hid (∀u z,US (some u) z↔(∃W,u= .agg W/\Db z (iJ M o).2 W)/\ay [b',yF,yG,yH] w8 z/\∃X Y,Two w1 f b gn gl gf f' b' yF yG yH (iJ M o).1 X Y (3520+3000*((k+1:Nat):Int)) z):=
     ⟨@Option.rec _ (λ_=>World->Prop) _ _,λ_=>Iff.rfl,λ_ _=>Iff.rfl⟩
    have aF:Hid (∀t z,US t z->ay [b',yF,yG,yH] w8 z):=λt z h=>by
     cases t with
     |none=>exact ay.mono ((au.out _).1 h) (by simp)
     |some u=>exact((ae.out _ _).1 h).2.1
    have JO:Hid (∀t z,US t z->(loadVar 42 ⟨g,off+k*6,none⟩).run prog z= .ok (.agg (pJ o vp vq vd)) z):=λt z h=>(V.out z (PB.out.trans (aF.out t z h) λy J=> .inr (aZ.out y J))).1.2
    have aV:Hid (∀t z,US t z->(loadVar 38 w7.heap.size).run prog z= .ok (.agg Z) z):=λt z h=>wQ (Qy.out.keep (aF.out t z h) λhm=>by have :=aC.1 _ hm;omega) BU.out.at
    have Ii:r=(iJ M o).2:=ak.out.resolve_right λh=>hK (.inr h.1)
    have aW:Hid (∀z,US none z->Calls prog 11 #[f',pJ o vp vq vd] z λe w9=>∃u,e=(u:Value)/\US (some u) w9):=λz G=>by
     have G:=(au.out _).1 G;refine(xX.out (by omega) X' z (D5.out.keep0 G) (az.out.keep0 G) (PB.out.trans' G)).mono ?_;rintro e w9 ⟨r9,W,rfl,aD,IK,bh,Y9,bc,bb⟩;have h9:r9=(iJ M o).2:=bh.resolve_right λh=>hK (.inr h.1)
     exact⟨_,rfl,(ae.out _ _).2 ⟨⟨W,rfl,by rw[<-h9];exact aD.at⟩,(G.mono).trans' IK,X',Y9,bc.le (by omega),bb.le (by omega)⟩⟩
    have aT:Hid (∀W z,US (some (.agg W)) z->Calls prog 14 #[pJ o vp vq vd,Z,.agg W] z λe WX=>e=true/\Hid (∃M X Y,Two w1 f b gn gl gf f' b' yF yG yH M X Y (3520+3000*((k+1:Nat):Int)) WX)):=λW z h=>by
     obtain⟨⟨bB,e9,aD⟩,IK,X9,Y9,h1,h2⟩:=(ae.out _ _).1 h;cases e9;refine(WM (V.out z (PB.out.trans IK λy J=> .inr (aZ.out y J))).2.1 ((BU.out.keep IK λy J=>aC.1 y J).at) (by rw[Ii];exact aD) (.inl rfl) rfl).mono ?_;rintro e WX ⟨rfl,Gr⟩;exact⟨rfl,_,X9,Y9,h1.keep0 Gr,h2.keep0 Gr⟩
    have M0:Hid (∀u z,US (some u) z->∃W,u= .agg W):=λu z h=>by
     obtain⟨⟨W,e,-⟩,-⟩:=(ae.out _ _).1 h;exact⟨W,e⟩
    have Sv:Hid (US none w8.drew):=(au.out _).2 (ay.refl [] w8).drew;clear au ae xX aF aC Ii ak D5 az BU Qy V;generalize pJ o vp vq vd=ZO at *;go_wp2_with(first|(with_reducible refine gS 38 HS.out ?_));refine Dv (S:=US) [0,1,2,3,4,5,6,7,8,9] 10 11 (l:=[_,_,_,_,_,_,_,_,_,_]) (f:=_) (o:=_) (tl:=[_]) (by kernel_rfl) (by kernel_rfl) (by kernel_rfl) rfl rfl rfl (by kernel_rfl) (by decide) (by kernel_rfl) rfl rfl (by kernel_rfl) (by kernel_rfl) (λd _ _ _ _ h=>by cases d<;>exact h) Sv.out 11 ?_;simp only[fZ,gN,gQ];repeat (
     (first
     |(refine nN.cons (.agg ZO) (λt=>bG.load rfl 42 _ rfl _ rfl (JO.out t)) ?_)
     |(refine nN.cons (.agg Z) (λt=>bG.load rfl 38 _ rfl _ rfl (aV.out t)) ?_)
     |(refine nN.cons ?_ (λt=>bG.val rfl ?h) ?_;(case h=>(intro wz hz;clear hz;go_simp;rfl))));simp only[Act.put,ag,ah,ai])
    refine⟨rfl,#[f',ZO],(λwz=>by go_simp),λwz hz=>(aW.out wz hz).mono ?_⟩;rintro e w9 ⟨u,rfl,hu⟩;refine⟨u,rfl,hu,λwy J=> ?_⟩;obtain⟨W,rfl⟩:=M0.out u wy J;have aS:=ar (aT.out W wy J);clear hu J hz aT aW JO aV Sv M0;simp only[ag,ah,ai];go_wp2_with fail;refine Rr aS.out λWX mV=> ?_;clear aS;go_wp2;go_roundg gg;case measure=>omega
    case rel=>exact⟨k+1,by omega,by go_num,mV.out⟩
end
section
open Go.ChangeShapes Go.WideShapes Go.ChangeAt Go.RowKit
variable{G W0 w w' z:World}{o:iP}{Z:Array Value}{v:Value}{U V W b b' f f' g gf gl gn yF yH:Nat}{l:List iP}{M:Nat->Nd}{X Y:List Int}{n n':Int}
section
variable {P:Program} {H:Type} {enc:TypeId×Value->H} {W:World} {base:Nat} {spare:Nat->Bool} {held:Bool}
theorem Pt {t e:TypeId}{k:IntKind}{fuel:Nat}{cs:List Value}{x:DataW H×List MemPlace}(ht:P.underlying t=some (.slice e))(he:P.underlying e=some (.int k))(hc:P.cellsOf e=1)
  (h:DataW.trod enc P W base spare held fuel t cs=some x):∃(v:Value) (g:Nat) (zs:List Int),cs=[v]/\Reads W v g (zs.map (Value.int k))/\∀n∈zs,(Lit.int k n).wf=true:=by
 rcases open_ints ht he hc h with ⟨rfl,-⟩|⟨a,len,cap,zs,rfl,-,hl,hm,hz,-,z,J⟩
 ·exact⟨_,0,[],rfl,⟨none,0,rfl,by simp,by simp[maxLen],λh=>absurd rfl h⟩,by simp⟩
 ·have aa:len<=zs.length:=by rw[hz];split<;>omega
  have U:((zs.take len).map (Value.int k)).length=len:=by simp;omega
  by_cases h0:len=0
  ·subst h0
   exact⟨_,0,[],rfl,⟨some a,cap,rfl,by simp,hm,λh=>absurd rfl h⟩,by simp⟩
  ·have G:=z 0 (by omega)
   obtain⟨g,off,rfl⟩:=Fk G rfl;refine⟨_,g,zs.take len,rfl,⟨some ⟨g,off,none⟩,cap,by rw[U],by rw[U];exact hl,hm,λ_=>⟨by simpa[add_plain] using lt_of_cell G,off,rfl,λj V=> ?_⟩⟩,λn hn=>J n (bL hn)⟩;rw[U] at V;have :=z j (by omega);rw[add_plain] at this;rw[this];simp[V,show j<zs.length by omega]
theorem open_strs{fuel:Nat}{cs:List Value}{x:DataW H×List MemPlace}(h:DataW.trod enc prog W base spare held fuel 40 cs=some x):∃v g P,cs=[v]/\fU W v g P:=by
 obtain⟨a,len,cap,rfl,h1,h2,h3⟩:=Jh (sz:=1) underlying40 (by kernel_rfl) (by omega) h;by_cases h0:len=0
 ·subst h0
  exact⟨_,0,[],rfl,⟨a,cap,rfl,by simp,h2,λh=>absurd rfl h⟩⟩
 ·obtain⟨g,off,rfl,hg,hx⟩:=h3 h0
  have G:∀i,i<len->∃s:ByteArray,W.cell? ⟨g,off+i,none⟩=some (.string s):=λi J=>by
   obtain⟨U,y,n,hl,hc,ht⟩:=hx i J
   match U,hl with
   | [c0],_=>
    obtain⟨s,V,-⟩:=DataW.trod_string underlying9 ht;simp only[List.cons.injEq,and_true] at V;subst V;have :=hc 0 (by omega);rw[iE,dE] at this;exact⟨s,this⟩
  obtain⟨f,hf⟩:∃f:Nat->ByteArray,∀i,i<len->W.cell? ⟨g,off+i,none⟩=some (.string (f i)):=
   ⟨λi=>if h:i<len then Classical.choose (G i h) else ByteArray.empty,λi J=>by simp only[dif_pos J];exact Classical.choose_spec (G i J)⟩
  refine⟨_,g,(List.range len).map f,rfl,⟨some ⟨g,off,none⟩,cap,by simp,by simpa using h1,h2,λ_=>⟨hg,off,rfl,λj hj=> ?_⟩⟩⟩;have z:j<len:=by simpa using hj
  rw[hf j z];simp[z]
theorem aa1 {fuel:Nat}{cs:List Value}{x:DataW H×List MemPlace}(h:DataW.trod enc prog W base spare held fuel 42 cs=some x):∃(o:iP) (Z:Array Value),cs=Z.toList/\BR W o Z:=by
 obtain⟨xs,n,-,-,hl,G,z⟩:=DataW.trod_struct underlying42 h;rw[show prog.cellsOf 42 =6 by kernel_rfl] at hl
 match cs,hl with
 | [c0,c1,c2,c3,c4,c5],_=>
  have f0:DataW.trod enc prog W base spare held n 3 (([c0,c1,c2,c3,c4,c5].drop 0).take (prog.cellsOf 3))=xs[0]? :=z 0 _ rfl;have f1:DataW.trod enc prog W base spare held n 40 (([c0,c1,c2,c3,c4,c5].drop 1).take (prog.cellsOf 40))=xs[1]? :=z 1 _ rfl;have f2:DataW.trod enc prog W base spare held n 40 (([c0,c1,c2,c3,c4,c5].drop 2).take (prog.cellsOf 40))=xs[2]? :=z 2 _ rfl;have f3:DataW.trod enc prog W base spare held n 3 (([c0,c1,c2,c3,c4,c5].drop 3).take (prog.cellsOf 3))=xs[3]? :=z 3 _ rfl;have f4:DataW.trod enc prog W base spare held n 3 (([c0,c1,c2,c3,c4,c5].drop 4).take (prog.cellsOf 3))=xs[4]? :=z 4 _ rfl;have f5:DataW.trod enc prog W base spare held n 29 (([c0,c1,c2,c3,c4,c5].drop 5).take (prog.cellsOf 29))=xs[5]? :=z 5 _ rfl;simp only[show prog.cellsOf 3 =1 by kernel_rfl,show prog.cellsOf 40 =1 by kernel_rfl,show prog.cellsOf 29 =1 by kernel_rfl,List.drop_zero,List.drop_succ_cons,List.take_succ_cons,eW] at f0 f1 f2 f3 f4 f5
  match xs,G with
  | [y0,y1,y2,y3,y4,y5],_=>
   simp only[ju,iu] at f0 f1 f2 f3 f4 f5;obtain⟨n0,e0,-,w0⟩:=DataW.trod_int underlying3 f0;obtain⟨vp,gp,P,U,hP⟩:=open_strs f1;obtain⟨vq,gq,Q,e2,hQ⟩:=open_strs f2;obtain⟨n3,e3,-,w3⟩:=DataW.trod_int underlying3 f3;obtain⟨V,e4,-,w4⟩:=DataW.trod_int underlying3 f4;obtain⟨vd,gd,D,J,hD,hw⟩:=Pt (P:= prog) underlying29 underlying5 (by kernel_rfl) f5;simp only[List.cons.injEq,and_true] at e0 U e2 e3 e4 J;subst e0 U e2 e3 e4 J;refine⟨⟨n0,P,Q,n3,V,D⟩,pJ ⟨n0,P,Q,n3,V,D⟩ c1 c2 c5,rfl,⟨⟨c1,c2,c5,rfl,⟨gp,hP⟩,⟨gq,hQ⟩,gd,hD⟩,⟨bounds_i64 w0,bounds_i64 w3,bounds_i64 w4⟩,λy hy=> ?_⟩⟩;have :=bounds_u8 (hw y hy);omega
theorem WO {fuel:Nat}{cs:List Value}{x:DataW H×List MemPlace}(h:DataW.trod enc prog W base spare held fuel 22 cs=some x):∃v g l,cs=[v]/\wY W v g l:=by
 obtain⟨a,len,cap,rfl,h1,h2,h3⟩:=Jh (sz:=6) underlying22 (by kernel_rfl) (by omega) h;by_cases h0:len=0
 ·subst h0
  exact⟨_,0,[],rfl,a,cap,rfl,by simp,h2,λj J=>by simp at J⟩
 ·obtain⟨g,off,rfl,hg,hx⟩:=h3 h0
  have G:∀i,i<len->∃p:iP×Array Value,BR W p.1 p.2/\∀c,c<6->W.cell? ⟨g,off+(i*6+c),none⟩=p.2[c]? :=λi U=>by
   obtain⟨aa,y,n,hl,hc,V⟩:=hx i U;obtain⟨o,Z,rfl,ho⟩:=aa1 V;exact⟨(o,Z),ho,λc h=>by rw[hc c h,dw]⟩
  obtain⟨f,hf⟩:∃f:Nat->iP×Array Value,∀i,i<len->BR W (f i).1 (f i).2/\∀c,c<6->W.cell? ⟨g,off+(i*6+c),none⟩=(f i).2[c]? :=
   ⟨λi=>if h:i<len then Classical.choose (G i h) else (⟨0,[],[],0,0,[]⟩,#[]),λi U=>by simp only[dif_pos U];exact Classical.choose_spec (G i U)⟩
  refine⟨_,g,(List.range len).map λi=>(f i).1,rfl,_,cap,by simp,by simpa using h1,h2,λj J=>⟨hg,off,rfl,(f j).2,?_,λt V=> ?_⟩⟩
  ·have z:j<len:=by simpa using J
   have e1:oT ((List.range len).map λi=>(f i).1) j=(f j).1:=by simp[oT,z]
   rw[e1];exact(hf j z).1
  ·have z:j<len:=by simpa using J
   rw[Nat.add_assoc];exact(hf j z).2 t V
end
end
end Go.Proofs.YtimcfdnbpkiniaaGreatDoor
