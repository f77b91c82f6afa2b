/- Lemmas. -/
import Derived.Test.YtepbpdipenedhaaGreatDoorR01
import Derived.BigRegion
import Derived.StillTailTactics
import Derived.Lib.TrailingZeros
import Derived.IntWalk
import Derived.WalkMore
import Derived.RangeFuncWrites
import Derived.RangeFuncLeaves
import Derived.RangeFuncCalls
import Derived.RangeFuncRecord
import Derived.OrdersIn
import Derived.TacticsIn
set_option maxHeartbeats 4000000
set_option maxRecDepth 100000
namespace Go.Proofs.YtepbpdipenedhaaGreatDoor
open Go.Proofs.Tryz
open Go.RowKit
variable{J w w':World}{G K U a b c d e f g gp h j n x y z:Nat}{B X:List Int}{ps qs:List (Int×Int)}{l own:List Nat}{v:Value}{o:Oper}{next:Act->World->Prop}{row:Option Nat}
theorem kp.setW{J:List (Int×Int)}(h:kp w b z B X J)(i:Nat)(hi:i<3128)(x:Int):kp (w.setCell ⟨b,3128+i,none⟩ (.int .u64 x)) b z B (X.set i x) J:=by
 obtain⟨lb,lx,W,U,G,h3⟩:=h;refine⟨lb,by rw[cT];exact lx,W,?_,?_,h3⟩
 ·have :=U.set (3128+i) (.int .u64 x)
  rwa[Ag _ lb (by omega)] at this
 ·refine dB G (l:=[b]) ((az.refl [b] _).setCell (by simp) _) λk V=> ?_
  have :=cZ G k V;simp;omega
theorem kp.drew{z:List (Int×Int)}(h:kp w b G B X z):kp w.drew b G B X z:=h.keep ((az.refl [] w).drew) (by simp) (by simp)
theorem kp.note{z:List (Int×Int)}(h:kp w b G B X z){k:Nat}(J:k<z.length):
  ∃cap,w.cell? ⟨b,6256,none⟩=some (.slice (some ⟨G,0,none⟩) z.length cap)/\z.length<=cap/\cap<=maxLen/\w.cell? ⟨G,k*2,none⟩=some (.int .i64 (jS z k))/\w.cell? ⟨G,k*2+1,none⟩=some (.int .u64 (qD z k)):=by
 obtain⟨lb,lx,vp,V,h2,h3⟩:=h;obtain⟨g,ho,hg⟩:=fp.of_row h2;obtain⟨aa,⟨cap,W,q1,q2⟩,U,-⟩:=ho.cell (by omega);obtain rfl:g=G:=h3 g (hg (by omega)).2;subst W;refine⟨cap,by rw[V.cell,tE _ lb lx],q1,q2,?_,?_⟩
 ·rw[U _ (by omega)];exact(pk z k J).1
 ·rw[U _ (by omega)];exact(pk z k J).2
theorem kp.slice{J:Nat}{z:List (Int×Int)}(h:kp w b J B X z):
  ∃a cap,w.cell? ⟨b,6256,none⟩=some (.slice a z.length cap)/\w.frozen? ⟨b,6256,none⟩=false/\z.length<=cap/\cap<=maxLen:=by
 obtain⟨lb,lx,V,G,U,W⟩:=h;obtain⟨a,cap,rfl,q1,q2⟩:=iV U;exact⟨a,cap,by rw[G.cell,tE _ lb lx],G.frozen _,q1,q2⟩
theorem Li (z:List (Int×Int))(m:Nat)(h:m<=z.length):(je z).take (m*2)=je (z.take m):=by
 have e:je z=je (z.take m)++je (z.drop m):=by rw[<-sU,eI]
 rw[e,List.take_left' (by rw[rD,aJ,cC h])]
theorem kp.cut{V:Nat}{U:List (Int×Int)}(h:kp w b V B X U)(m:Nat)(J:m<=U.length){a:Option Addr}{n cap:Nat}(hc:w.cell? ⟨b,6256,none⟩=some (.slice a n cap)):
  kp (w.setCell ⟨b,6256,none⟩ (.slice a m cap)) b V B X (U.take m):=by
 obtain⟨lb,lx,vp,h1,h2,h3⟩:=h;rw[h1.cell,tE _ lb lx] at hc;cases hc;refine⟨lb,lx,.slice a m cap,?_,?_,?_⟩
 ·have :=h1.set 6256 (.slice a m cap)
  rwa[Ah _ lb lx] at this
 ·have z:az [b] w (w.setCell ⟨b,6256,none⟩ (.slice a m cap)):=(az.refl [b] _).setCell (by simp) _
  obtain⟨h4,h5⟩:=h2;rw[aJ,cC J];refine⟨by rw[rD,aJ,cC J],?_⟩;rcases h5 with ⟨e,e'⟩|⟨g,aa,G,e,hg,W,q2,q3,q4,q5⟩
  ·cases e
   obtain rfl:m=0:=by omega
   exact .inl ⟨rfl,rfl⟩
  ·cases e
   refine .inr ⟨g,cap,G,rfl,hg,?_,by omega,q3,q4,?_⟩
   ·rw[<-W]
    exact z.block g (Array.getElem?_eq_some_iff.1 W).1 (by simp;omega)
   ·rw[<-Li _ _ J,<-q5,List.take_take,cC (by omega)]
 ·intro k z
  cases a with
  |none=>cases z
  |some ad=>exact h3 k z
def Lj (w:World) (b h:Nat) (B:List Int) (ps:List (Int×Int)) (e:Ending) (w':World):Prop:=
 e= .returned (.tuple #[])/\eO w' b h B ps/\az [b] w w'
theorem Sg (h:eO w b gp B ps)(m:Int):
  Calls prog 101 #[.pointer (some ⟨b,0,none⟩),.int .i64 m] w (Lj w b gp B (ps.take (CN m ps.length))):=by
 have D3:=au h.inp;have ac:Hid (kp w b gp B (aA B (ps.take ps.length)) (ko B ps)):=by rw[aV (aI _)];exact h.raw
 obtain⟨a,cap,G,f0,q1,q2⟩:=h.raw.slice;have hm:=VR m ps.length;have ar:=Ie m ps.length;clear h;rw[rE] at *;unfold maxLen at q2;generalize CN m ps.length=q at *;generalize af:ps.length=n at *;have V:=au af;clear af;have W:Hid ((ko B ps).length=n):=by rw[<-V.out];exact rE B ps
 have ai:(m<0/\q=0)\/(0<=m/\m<=(n:Int)/\m=(q:Int))\/((n:Int)<m/\0<=m/\q=n):=by omega
 clear ar;rcases ai with ⟨k1,rfl⟩|⟨k1,k2,rfl⟩|⟨k1,k2,rfl⟩
 ·go_enter func101,ntmps101
  go_wp2_with fail;clear G f0;go_loopg [5] (n-0) (λgh s5 wx=>∃k:Nat,k=0+gh/\k<=n/\s5= .int .i64 ((k:Int)-1)/\Hid (kp wx b gp B (aA B (ps.take k)) (ko B ps)/\az [b] w wx))
  case atStart=>exact⟨n,by omega,by omega,rfl,ac.out,az.refl _ _⟩
  case round=>
   obtain⟨k,hk,ag,rfl,U⟩:=hrel;cases gk with
   |zero=>
    obtain rfl:k=0:=by omega
    have aa:¬((0:Int)<=((0:Nat):Int)-1):=by omega
    obtain⟨z,J⟩:=U.out;obtain⟨a,cap,G,f0,q1,q2⟩:=z.slice;have HC:=au (z.cut 0 (by rw[W.out];omega) G);rw[W.out] at G q1;unfold maxLen at q2;rw[wU _ _ _ (by rw[V.out];omega)] at HC;have HT:=au (Ey D3.out 0);have iZ:=au J;have b1:(0:Int)<=(n:Int):=by omega
    have b2:(0:Int)<=(cap:Int):=by omega
    clear z J U hk;go_wp2_with fail;go_end0;exact⟨rfl,⟨HC.out,HT.out⟩,iZ.out.setCell (by simp) _⟩
   |succ g=>
    obtain⟨k,rfl⟩:∃k',k=k'+1:=⟨k-1,by omega⟩;have ek:((k+1:Nat):Int)-1=(k:Int):=by omega
    rw[ek];clear ek;have aa:(0:Int)<=(k:Int):=by omega
    have dt:(0:Int)<=(k:Int):=by omega
    have ak:(k:Int)<(n:Int):=by omega
    obtain⟨z,J⟩:=U.out;obtain⟨ah,G,q1,q2,c1,c2⟩:=z.note (k:=k) (by rw[W.out];omega);obtain⟨e1,e2⟩:=Ez B ps k (by rw[V.out];omega);obtain⟨x0,x1⟩:=Ab D3.out (k:=k) (by rw[V.out];omega);have HU:=au (Lg B ps k (by rw[V.out];omega));rw[e1] at c1;rw[e2] at c2;clear e1 e2;rw[W.out] at G q1;unfold maxLen at q2;generalize jS ps k=x at *;generalize (aA B (ps.take k)).getD x.toNat 0=ae at *;obtain⟨j,rfl⟩:=cu x0;rw[aH] at HU;have x2:(j:Int)<3128:=x1;have hj:j<3128:=by omega
    have d1:=z.cell1 hj;have d2:wr.frozen? ⟨b,3128+j,none⟩=false:=by obtain⟨lb,lx,vp,h1,h2,h3⟩:=z;exact h1.frozen _
    have HS:=au (z.drew.setW j hj ae);have iZ:=au J;generalize (aA B (ps.take (k+1))).getD j 0=aj at *;clear z J U x1;go_wp2_with fail
    go_still_tail 20,(by kernel_rfl)
    go_wp2_with fail;go_roundg g;case measure=>omega
    case rel=>
     refine⟨k,by omega,by omega,by first|rfl|go_num,?_,iZ.out.drew.setCell (by simp) _⟩;have :=HS.out;rw[HU.out] at this;exact this
 ·go_enter func101,ntmps101
  go_wp2_with fail;clear G f0;go_loopg [5] (n-q) (λgh s5 wx=>∃k:Nat,k=q+gh/\k<=n/\s5= .int .i64 ((k:Int)-1)/\Hid (kp wx b gp B (aA B (ps.take k)) (ko B ps)/\az [b] w wx))
  case atStart=>exact⟨n,by omega,by omega,rfl,ac.out,az.refl _ _⟩
  case round=>
   obtain⟨k,hk,ag,rfl,U⟩:=hrel;cases gk with
   |zero=>
    obtain rfl:q=k:=by omega
    have aa:¬((q:Int)<=(q:Int)-1):=by omega
    obtain⟨z,J⟩:=U.out;obtain⟨a,cap,G,f0,q1,q2⟩:=z.slice;have HC:=au (z.cut q (by rw[W.out];omega) G);rw[W.out] at G q1;unfold maxLen at q2;rw[wU _ _ _ (by rw[V.out];omega)] at HC;have HT:=au (Ey D3.out q);have iZ:=au J;have b1:(q:Int)<=(n:Int):=by omega
    have b2:(q:Int)<=(cap:Int):=by omega
    clear z J U hk;go_wp2_with fail;go_end0;exact⟨rfl,⟨HC.out,HT.out⟩,iZ.out.setCell (by simp) _⟩
   |succ g=>
    obtain⟨k,rfl⟩:∃k',k=k'+1:=⟨k-1,by omega⟩;have ek:((k+1:Nat):Int)-1=(k:Int):=by omega
    rw[ek];clear ek;have aa:(q:Int)<=(k:Int):=by omega
    have dt:(0:Int)<=(k:Int):=by omega
    have ak:(k:Int)<(n:Int):=by omega
    obtain⟨z,J⟩:=U.out;obtain⟨ah,G,q1,q2,c1,c2⟩:=z.note (k:=k) (by rw[W.out];omega);obtain⟨e1,e2⟩:=Ez B ps k (by rw[V.out];omega);obtain⟨x0,x1⟩:=Ab D3.out (k:=k) (by rw[V.out];omega);have HU:=au (Lg B ps k (by rw[V.out];omega));rw[e1] at c1;rw[e2] at c2;clear e1 e2;rw[W.out] at G q1;unfold maxLen at q2;generalize jS ps k=x at *;generalize (aA B (ps.take k)).getD x.toNat 0=ae at *;obtain⟨j,rfl⟩:=cu x0;rw[aH] at HU;have x2:(j:Int)<3128:=x1;have hj:j<3128:=by omega
    have d1:=z.cell1 hj;have d2:wr.frozen? ⟨b,3128+j,none⟩=false:=by obtain⟨lb,lx,vp,h1,h2,h3⟩:=z;exact h1.frozen _
    have HS:=au (z.drew.setW j hj ae);have iZ:=au J;generalize (aA B (ps.take (k+1))).getD j 0=aj at *;clear z J U x1;go_wp2_with fail
    go_still_tail 20,(by kernel_rfl)
    go_wp2_with fail;go_roundg g;case measure=>omega
    case rel=>
     refine⟨k,by omega,by omega,by first|rfl|go_num,?_,iZ.out.drew.setCell (by simp) _⟩;have :=HS.out;rw[HU.out] at this;exact this
 ·go_enter func101,ntmps101
  go_wp2_with fail;clear G f0;go_loopg [5] (q-q) (λgh s5 wx=>∃k:Nat,k=q+gh/\k<=q/\s5= .int .i64 ((k:Int)-1)/\Hid (kp wx b gp B (aA B (ps.take k)) (ko B ps)/\az [b] w wx))
  case atStart=>exact⟨q,by omega,by omega,rfl,ac.out,az.refl _ _⟩
  case round=>
   obtain⟨k,hk,ag,rfl,U⟩:=hrel;cases gk with
   |zero=>
    obtain rfl:q=k:=by omega
    have aa:¬((q:Int)<=(q:Int)-1):=by omega
    obtain⟨z,J⟩:=U.out;obtain⟨a,cap,G,f0,q1,q2⟩:=z.slice;have HC:=au (z.cut q (by rw[W.out];omega) G);rw[W.out] at G q1;unfold maxLen at q2;rw[wU _ _ _ (by rw[V.out];omega)] at HC;have HT:=au (Ey D3.out q);have iZ:=au J;have b1:(q:Int)<=(q:Int):=by omega
    have b2:(q:Int)<=(cap:Int):=by omega
    clear z J U hk;go_wp2_with fail;go_end0;exact⟨rfl,⟨HC.out,HT.out⟩,iZ.out.setCell (by simp) _⟩
   |succ g=>omega
theorem Oz{z:List (Int×Int)}(h:kp w b U B X z):
  Calls prog 98 #[.pointer (some ⟨b,0,none⟩)] w λe w'=>e= .returned (.int .i64 (z.length:Int))/\w=w':=by
 obtain⟨lb,lx,V,G,J,W⟩:=h;have hc:w.cell? ⟨b,6256,none⟩=some V:=by rw[G.cell,tE _ lb lx]
 obtain⟨a,cap,rfl,q1,q2⟩:=iV J;clear G J W lb lx;generalize z.length=n at *;go_enter func98,ntmps98;go_wp2;go_ret;exact⟨rfl,rfl⟩
theorem Si (h:eO w b z B ps):
  Calls prog 98 #[.pointer (some ⟨b,0,none⟩)] w λe w'=>e= .returned (.int .i64 (ps.length:Int))/\w=w':=by
 have :=Oz h.raw;rw[rE] at this;exact this
end Go.Proofs.YtepbpdipenedhaaGreatDoor
namespace Go.Proofs.YtepbpdipenedhaaGreatDoor
open Go.Proofs.Tryz
variable{J w w':World}{G K U a b c d e f g gp h j n x y z:Nat}{B X:List Int}{ps qs:List (Int×Int)}{l own:List Nat}{v:Value}{o:Oper}{next:Act->World->Prop}{row:Option Nat}
def ones (n x:Nat):Nat:=((List.range n).filter λj=>x.testBit j).length
def yt (x:Nat):List Nat:=(List.range 64).filter λj=>x.testBit j
theorem Sj (x:Nat):ones 64 x=(yt x).length:=rfl
theorem oF (b a j:Nat)(h:b<256):(b+256*a).testBit j=if j<8 then b.testBit j else a.testBit (j-8):=by
 have :=Nat.testBit_two_pow_mul_add a (b:=b) (i:=8) (by simpa using h) j;rw[Nat.add_comm];simpa using this
theorem wW (b m a M:Nat)(z:b<256)(G:m<256):(b+256*a) &&& (m+256*M)=(b &&& m)+256*(a &&& M):=by
 apply Nat.eq_of_testBit_eq;intro j;have h:b &&& m<256:=jI Nat.and_le_left z;rw[jN,oF b a j z,oF m M j G,oF _ _ j h];split<;>simp
theorem iW (p:Nat->Bool)(m n:Nat):(List.range (m+n)).filter p=(List.range m).filter p++((List.range n).filter λj=>p (m+j)).map (m+·):=by
 rw[List.range_add,ft,List.filter_map];rfl
theorem nQ (n b a:Nat)(z:b<256):ones (8+n) (b+256*a)=ones 8 b+ones n a:=by
 unfold ones;rw[iW,aD,bS]
 congr 1
 ·congr 1
  apply iE;intro j h;rw[bX] at h;rw[oF b a j z,aC h]
 ·congr 1
  apply iE;intro j _;rw[oF b a _ z,aB (by omega),cY]
def rep (m:Nat):Nat->Nat
 |0=>0
 |n+1=>m+256*rep m n
def q1 (b:Nat):Nat:=(b/2 &&& 85)+(b &&& 85)
def q2 (b:Nat):Nat:=(b/4 &&& 51)+(b &&& 51)
def q3 (b:Nat):Nat:=(b/16+b)%16
def st1 (n x:Nat):Nat:=(x/2 &&& rep 85 n)+(x &&& rep 85 n)
def st2 (n x:Nat):Nat:=(x/4 &&& rep 51 n)+(x &&& rep 51 n)
def st3 (n x:Nat):Nat:=(x/16+x) &&& rep 15 n
theorem VT:∀b:Fin 256,∀c:Fin 2,(b.val/2+128*c.val) &&& 85=b.val/2 &&& 85:=by decide+kernel
theorem VU:∀b:Fin 256,∀c:Fin 4,(b.val/4+64*c.val) &&& 51=b.val/4 &&& 51:=by decide+kernel
theorem CQ:∀b:Fin 256,q1 b.val<256/\q2 (q1 b.val)<256/\q2 (q1 b.val)/16<=4/\q2 (q1 b.val)%16<=4/\q3 (q2 (q1 b.val))=ones 8 b.val/\ones 8 b.val<=8:=by decide+kernel
theorem qb (n b a:Nat)(h:b<256):st1 (n+1) (b+256*a)=q1 b+256*st1 n a:=by
 unfold st1 q1;have e:(b+256*a)/2=(b/2+128*(a%2))+256*(a/2):=by omega
 have c:=VT ⟨b,h⟩ ⟨a%2,by omega⟩;simp only at c;rw[e,rep,wW _ _ _ _ (by omega) (by omega),wW _ _ _ _ h (by omega),c];omega
theorem qc (n b a:Nat)(h:b<256):st2 (n+1) (b+256*a)=q2 b+256*st2 n a:=by
 unfold st2 q2;have e:(b+256*a)/4=(b/4+64*(a%4))+256*(a/4):=by omega
 have c:=VU ⟨b,h⟩ ⟨a%4,by omega⟩;simp only at c;rw[e,rep,wW _ _ _ _ (by omega) (by omega),wW _ _ _ _ h (by omega),c];omega
theorem aem (x:Nat):x &&& 15=x%16:=by
 have :=dU x 4;simpa using this
theorem qd (n b a:Nat)(h:b/16<=4)(z:b%16<=4)(G:a%16<=4):st3 (n+1) (b+256*a)=q3 b+256*st3 n a:=by
 unfold st3 q3;have e:(b+256*a)/16+(b+256*a)=(b/16+b+16*(a%16))+256*(a/16+a):=by omega
 rw[e,rep,wW _ _ _ _ (by omega) (by omega),aem];omega
theorem VV:st1 0 0=0:=rfl
theorem VW:st2 0 0=0:=rfl
theorem VX:st3 0 0=0:=rfl
def JF (a b c d e f g h:Nat):Nat:=a+256*(b+256*(c+256*(d+256*(e+256*(f+256*(g+256*(h+256*0)))))))
theorem Sk (x:Nat)(z:x<18446744073709551616):∃a b c d e f g h,(a<256/\b<256/\c<256/\d<256/\e<256/\f<256/\g<256/\h<256)/\x=JF a b c d e f g h:=by
 refine⟨x%256,x/256%256,x/65536%256,x/16777216%256,x/4294967296%256,x/1099511627776%256,x/281474976710656%256,x/72057594037927936,?_,?_⟩
 ·omega
 ·unfold JF;omega
theorem sD (z:a<256)(h:y<K):a+256*y<256*K:=by omega
theorem sF (z:a<=68)(h:y<=K):a+256*y<=68+256*K:=by omega
theorem acv (V:a<256)(J:b<256)(hc:c<256)(hd:d<256)(G:e<256)(W:f<256)(z:g<256)(U:h<256):JF a b c d e f g h<18446744073709551616:=
 bL (sD V (sD J (sD hc (sD hd (sD G (sD W (sD z (sD U (Nat.zero_lt_one))))))))) (by decide)
theorem acw (V:a<=68)(J:b<=68)(hc:c<=68)(hd:d<=68)(G:e<=68)(W:f<=68)(z:g<=68)(U:h<=68):JF a b c d e f g h<=4919131752989213764:=
 cD (sF V (sF J (sF hc (sF hd (sF G (sF W (sF z (sF U (aI 0))))))))) (by decide)
theorem aab (a3 W V U J f3 G h:Nat)(A6:a3<=8)(B6:W<=8)(C6:V<=8)(D6:U<=8)(E6:J<=8)(F6:f3<=8)(G6:G<=8)(H6:h<=8):∃x4 x5 x6,JF a3 W V U J f3 G h+JF a3 W V U J f3 G h/256=x4/\x4+x4/65536=x5/\x5+x5/4294967296=x6/\
  x4<9223372036854775808/\x5<9223372036854775808/\x6<9223372036854775808/\x6%128=a3+(W+(V+(U+(J+(f3+(G+(h+0))))))):=by
 refine⟨_,_,_,rfl,rfl,rfl,?_⟩;unfold JF;have k3:(a3+256*(W+256*(V+256*(U+256*(J+256*(f3+256*(G+256*(h+256*0))))))))/256=W+256*(V+256*(U+256*(J+256*(f3+256*(G+256*h))))):=by omega
 rw[k3];clear k3;generalize hy:a3+256*(W+256*(V+256*(U+256*(J+256*(f3+256*(G+256*(h+256*0)))))))+(W+256*(V+256*(U+256*(J+256*(f3+256*(G+256*h))))))=y;have aa:y=(a3+W+256*(W+V))+65536*((V+U+256*(U+J))+65536*((J+f3+256*(f3+G))+65536*(G+h+256*h))):=by omega
 clear hy;have k4:y/65536=(V+U+256*(U+J))+65536*((J+f3+256*(f3+G))+65536*(G+h+256*h)):=by omega
 rw[k4];subst aa;clear k4;generalize hz:a3+W+256*(W+V)+65536*(V+U+256*(U+J)+65536*(J+f3+256*(f3+G)+65536*(G+h+256*h)))+(V+U+256*(U+J)+65536*(J+f3+256*(f3+G)+65536*(G+h+256*h)))=z;have ac:z=(a3+W+V+U+256*(W+V+U+J)+65536*(V+U+J+f3+256*(U+J+f3+G)))+4294967296*((J+f3+G+h)+256*(f3+G+h)+65536*(G+h+256*h)):=by omega
 clear hz;have k5:z/4294967296=(J+f3+G+h)+256*(f3+G+h)+65536*(G+h+256*h):=by omega
 rw[k5];refine⟨by omega,by omega,by omega,?_⟩;omega
theorem Ll (x:Nat)(hx:x<18446744073709551616):∃x1 x2 x3 W V x6,st1 8 x=x1/\st2 8 x1=x2/\st3 8 x2=x3/\x3+x3/256=W/\W+W/65536=V/\V+V/4294967296=x6/\
  x1<18446744073709551616/\x2<18446744073709551616/\x2/16+x2<18446744073709551616/\x3<18446744073709551616/\W<9223372036854775808/\V<9223372036854775808/\x6<9223372036854775808/\x6%128=ones 64 x:=by
 obtain⟨a,b,c,d,e,f,g,h,⟨ha,hb,hc,hd,he,hf,hg,hh⟩,rfl⟩:=Sk x hx;have A:=CQ ⟨a,ha⟩;have B:=CQ ⟨b,hb⟩;have C:=CQ ⟨c,hc⟩;have D:=CQ ⟨d,hd⟩;have E:=CQ ⟨e,he⟩;have F:=CQ ⟨f,hf⟩;have G:=CQ ⟨g,hg⟩;have H:=CQ ⟨h,hh⟩;simp only at A B C D E F G H;have z:st1 8 (JF a b c d e f g h)=JF (q1 a) (q1 b) (q1 c) (q1 d) (q1 e) (q1 f) (q1 g) (q1 h):=by
  unfold JF;rw[qb _ _ _ ha,qb _ _ _ hb,qb _ _ _ hc,qb _ _ _ hd,qb _ _ _ he,qb _ _ _ hf,qb _ _ _ hg,qb _ _ _ hh,VV]
 have J:st2 8 (JF (q1 a) (q1 b) (q1 c) (q1 d) (q1 e) (q1 f) (q1 g) (q1 h))=JF (q2 (q1 a)) (q2 (q1 b)) (q2 (q1 c)) (q2 (q1 d)) (q2 (q1 e)) (q2 (q1 f)) (q2 (q1 g)) (q2 (q1 h)):=by
  unfold JF;rw[qc _ _ _ A.1,qc _ _ _ B.1,qc _ _ _ C.1,qc _ _ _ D.1,qc _ _ _ E.1,qc _ _ _ F.1,qc _ _ _ G.1,qc _ _ _ H.1,VW]
 have U:st3 8 (JF (q2 (q1 a)) (q2 (q1 b)) (q2 (q1 c)) (q2 (q1 d)) (q2 (q1 e)) (q2 (q1 f)) (q2 (q1 g)) (q2 (q1 h)))=JF (ones 8 a) (ones 8 b) (ones 8 c) (ones 8 d) (ones 8 e) (ones 8 f) (ones 8 g) (ones 8 h):=by
  unfold JF;rw[qd _ _ _ A.2.2.1 A.2.2.2.1 (by omega),qd _ _ _ B.2.2.1 B.2.2.2.1 (by omega),qd _ _ _ C.2.2.1 C.2.2.2.1 (by omega),qd _ _ _ D.2.2.1 D.2.2.2.1 (by omega),
   qd _ _ _ E.2.2.1 E.2.2.2.1 (by omega),qd _ _ _ F.2.2.1 F.2.2.2.1 (by omega),qd _ _ _ G.2.2.1 G.2.2.2.1 (by omega),qd _ _ _ H.2.2.1 H.2.2.2.1 (by omega),VX,
   A.2.2.2.2.1,B.2.2.2.2.1,C.2.2.2.2.1,D.2.2.2.2.1,E.2.2.2.2.1,F.2.2.2.2.1,G.2.2.2.2.1,H.2.2.2.2.1]
 have ho:ones 64 (JF a b c d e f g h)=ones 8 a+(ones 8 b+(ones 8 c+(ones 8 d+(ones 8 e+(ones 8 f+(ones 8 g+(ones 8 h+0))))))):=by
  unfold JF;rw[show(64:Nat)=8+(8+(8+(8+(8+(8+(8+(8+0))))))) from rfl,nQ _ _ _ ha,nQ _ _ _ hb,nQ _ _ _ hc,nQ _ _ _ hd,nQ _ _ _ he,nQ _ _ _ hf,nQ _ _ _ hg,nQ _ _ _ hh];rfl
 obtain⟨W,V,x6,p4,p5,p6,b4,b5,b6,hm⟩:=aab _ _ _ _ _ _ _ _ A.2.2.2.2.2 B.2.2.2.2.2 C.2.2.2.2.2 D.2.2.2.2.2 E.2.2.2.2.2 F.2.2.2.2.2 G.2.2.2.2.2 H.2.2.2.2.2;have l2:JF (q2 (q1 a)) (q2 (q1 b)) (q2 (q1 c)) (q2 (q1 d)) (q2 (q1 e)) (q2 (q1 f)) (q2 (q1 g)) (q2 (q1 h))<=4919131752989213764:=by
  apply acw
  ·have :=A.2.2.1;have :=A.2.2.2.1;omega
  ·have :=B.2.2.1;have :=B.2.2.2.1;omega
  ·have :=C.2.2.1;have :=C.2.2.2.1;omega
  ·have :=D.2.2.1;have :=D.2.2.2.1;omega
  ·have :=E.2.2.1;have :=E.2.2.2.1;omega
  ·have :=F.2.2.1;have :=F.2.2.2.1;omega
  ·have :=G.2.2.1;have :=G.2.2.2.1;omega
  ·have :=H.2.2.1;have :=H.2.2.2.1;omega
 refine⟨_,_,_,W,V,x6,z,J,U,p4,p5,p6,acv A.1 B.1 C.1 D.1 E.1 F.1 G.1 H.1,?_,?_,?_,b4,b5,b6,?_⟩
 ·clear A B C D E F G H z J U ho p4 p5 p6 hm;omega
 ·clear A B C D E F G H z J U ho p4 p5 p6 hm;omega
 ·clear A B C D E F G H z J U ho p5 p6 hm;omega
 ·rw[ho];exact hm
theorem BC (p q:Nat->Bool)(n c:Nat)(hc:c<n)(J:∀j,j<c->p j=false/\q j=false)(W:p c=true)(hq:q c=false)(z:∀j,c<j->p j=q j):
  (List.range n).filter p=c::(List.range n).filter q:=by
 obtain⟨d,rfl⟩:∃d,n=c+(1+d):=⟨n-c-1,by omega⟩;have U:∀r:Nat->Bool,(∀j,j<c->r j=false)->(List.range c).filter r=[]:=by
  intro r V;rw[List.filter_eq_nil_iff];intro j G;rw[bX] at G;simp[V j G]
 rw[iW p,iW q,U p λj h=>(J j h).1,U q λj h=>(J j h).2,iW _ 1 d,iW _ 1 d];have s1:(List.range 1).filter (λj=>p (c+j))=[0]:=by simp[dS,W]
 have s2:(List.range 1).filter (λj=>q (c+j))=[]:=by simp[dS,hq]
 have s3:(List.range d).filter (λj=>p (c+(1+j)))=(List.range d).filter (λj=>q (c+(1+j))):=iE λj _=>z _ (by omega)
 rw[s1,s2,s3];simp
theorem vW (k m j:Nat):(2^k*m).testBit j=(decide (k<=j)&&m.testBit (j-k)):=by
 rw[Nat.mul_comm,Nat.testBit_mul_two_pow]
theorem Ii (x:Nat)(h0:x≠0)(hx:x<18446744073709551616):Lib.ctz 64 x<64/\yt x=Lib.ctz 64 x::yt (x &&& (x-1)):=by
 have V:x<2^64:=hx;obtain⟨m,hm,W⟩:=Lib.ctzFrom_spec 64 x (by omega) V;have e:Lib.ctz 64 x=Lib.ctzFrom 64 x:=by simp[Lib.ctz,h0]
 rw[e];refine⟨W,?_⟩;generalize Lib.ctzFrom 64 x=k at *;clear e;have hp:0<2^k:=Nat.two_pow_pos k;have e1:x-1=2^k*(2*m)+(2^k-1):=by
  rw[hm,Nat.mul_add,iq];omega
 have t0:∀j,(2^k*(2*m)).testBit j=(decide (k<j)&&m.testBit (j-k-1)):=by
  intro j;rw[vW];by_cases h:k<j
  ·obtain⟨d,rfl⟩:∃d,j=k+(d+1):=⟨j-k-1,by omega⟩
   have G:k+(d+1)-k=d+1:=by omega
   rw[G,Nat.testBit_succ,show 2*m/2=m by omega];simp
  ·have :k<=j->(2*m).testBit (j-k)=false:=by
    intro aa;rw[show j-k=0 by omega,Nat.testBit_zero];simp
   by_cases z:k<=j
   ·simp[this z,h]
   ·simp[z,h]
 have U:∀j,x.testBit j=(decide (j=k)||(decide (k<j)&&m.testBit (j-k-1))):=by
  intro j;rw[hm,vW];by_cases h:k<j
  ·obtain⟨d,rfl⟩:∃d,j=k+(d+1):=⟨j-k-1,by omega⟩
   have G:k+(d+1)-k=d+1:=by omega
   rw[G,Nat.testBit_succ,show(2*m+1)/2=m by omega];simp
  ·by_cases z:k=j
   ·subst z;simp[Nat.testBit_zero]
   ·have J:¬k<=j:=by omega
    have h4:¬j=k:=by omega
    simp[h,J,h4]
 have ty:∀j,(x &&& (x-1)).testBit j=(decide (k<j)&&m.testBit (j-k-1)):=by
  intro j;rw[jN,U,e1,Nat.testBit_two_pow_mul_add _ (by omega)];by_cases h:j<k
  ·have z:¬j=k:=by omega
   have J:¬k<j:=by omega
   simp[z,J]
  ·rw[aB h]
   by_cases z:k<j
   ·obtain⟨d,rfl⟩:∃d,j=k+(d+1):=⟨j-k-1,by omega⟩
    have G:k+(d+1)-k=d+1:=by omega
    rw[G,Nat.testBit_succ,show 2*m/2=m by omega];simp
   ·obtain rfl:j=k:=by omega
    simp[Nat.testBit_zero]
 unfold yt;refine BC _ _ 64 k W ?_ ?_ ?_ ?_
 ·intro j hj
  rw[U,ty];have z:¬j=k:=by omega
  have J:¬k<j:=by omega
  simp[z,J]
 ·rw[U];simp
 ·rw[ty];simp
 ·intro j hj
  rw[U,ty];have z:¬j=k:=by omega
  simp[z]
theorem Ij:yt 0=[]:=by simp[yt]
def In64 (X:List Int):Prop:=∀i,0<=X.getD i 0/\X.getD i 0<18446744073709551616
theorem In64.set(h:In64 X)(i:Nat)(x:Int)(G:0<=x)(z:x<18446744073709551616):In64 (X.set i x):=by
 intro j;rw[aj,fg];split
 ·split
  ·exact⟨G,z⟩
  ·exact⟨by simp,by simp⟩
 ·rw[<-aj];exact h j
theorem In64.put:∀{X:List Int},In64 X->(∀p∈ps,0<=p.2/\p.2<18446744073709551616)->In64 (aA X ps):=by
 induction ps with
 |nil=>intro X h _;exact h
 |cons p ps ih=>
  intro X h z;show In64 (aA (X.set p.1.toNat p.2) ps);have :=z p (by simp);exact ih (h.set _ _ this.1 this.2) λq G=>z q (by simp[G])
def bw (X:List Int) (k:Nat):Nat:=(X.getD (816+k) 0).toNat
theorem ED (h:In64 X)(k:Nat):bw X k<18446744073709551616:=by have :=h (816+k);unfold bw;omega
theorem aac (h:In64 X)(k:Nat):((bw X k:Nat):Int)=X.getD (816+k) 0:=by have :=h (816+k);unfold bw;omega
def dC (X:List Int) (b:Nat):Bool:=(bw X (b/64)).testBit (b%64)
def Ik (X:List Int) (k:Nat):Nat:=if k=0 then (18446744073709551615-bw X 0) &&& (18446744073709551615-1) else 18446744073709551615-bw X k
theorem qf (x j:Nat)(h:x<18446744073709551616):(18446744073709551615-x).testBit j=(decide (j<64) && !x.testBit j):=by
 have :=Nat.testBit_two_pow_sub_succ (x:=x) (n:=64) h j;rw[<-this]
 congr 1
 show _=18446744073709551616-(x+1);omega
theorem VY (X:List Int)(k:Nat):Ik X k<18446744073709551616:=by
 unfold Ik;split
 ·have :(18446744073709551615-bw X 0) &&& (18446744073709551615-1)<=18446744073709551615-bw X 0:=Nat.and_le_left
  omega
 ·omega
theorem Lm (h:In64 X)(k j:Nat):(Ik X k).testBit j=(decide (j<64) && !(bw X k).testBit j && !(decide (k=0)&&decide (j=0))):=by
 unfold Ik;split
 ·rename_i hk
  subst hk;rw[jN,qf _ _ (ED h 0),qf _ _ (by omega),show(1:Nat)=2^0 from rfl,Nat.testBit_two_pow];by_cases z:j<64<;>by_cases G:j=0<;>simp[z,G]<;>(intro;omega)
 ·rename_i hk
  rw[qf _ _ (ED h k)];simp[hk]
def gW (X:List Int) (n:Nat):List Nat:=(List.range n).filter λb=>b != 0 && !dC X b
def aZ (X:List Int):List Nat:=gW X 256
theorem wY (h:In64 X)(k:Nat):gW X (64*(k+1))=gW X (64*k)++(yt (Ik X k)).map (64*k+·):=by
 unfold gW yt;rw[show 64*(k+1)=64*k+64 by omega,iW]
 congr 2
 apply iE;intro j J;rw[bX] at J;rw[Lm h,dC,show(64*k+j)/64=k by omega,show(64*k+j)%64=j by omega];by_cases z:k=0<;>by_cases G:j=0
 ·subst z;subst G;simp
 ·simp[z,G,J]
 ·have U:¬(64*k=0):=by omega
  simp[z,G,U]
 ·have :¬(64*k+j=0):=by omega
  simp[z,G,J]
theorem jT:b∈gW X n↔b<n/\b≠0/\dC X b=false:=by
 unfold gW;rw[List.mem_filter,bX];simp
theorem qU (X:List Int)(n:Nat):(gW X n).Nodup:=List.Pairwise.filter _ List.nodup_range
theorem BD (X:List Int):(aZ X).length<=255:=by
 unfold aZ gW;rw[show(256:Nat)=1+255 from rfl,iW,aD];have h:((List.range 1).filter λb=>b != 0 && !dC X b).length=0:=by simp[dS]
 have z:=fQ (λj=>(1+j) != 0 && !dC X (1+j)) (List.range 255);rw[bS,h];simp only[eN] at z;omega
theorem OA (h:In64 X)(k:Nat):(gW X (64*(k+1))).length=(gW X (64*k)).length+ones 64 (Ik X k):=by
 rw[wY h,aD,bS,Sj]
def setW (x j:Nat) (u:Bool):Nat:=if u=true then (x &&& (18446744073709551615-2^j)) ||| 2^j else x &&& (18446744073709551615-2^j)
theorem EE (h:j<64):2^j<18446744073709551616:=bL (Nat.pow_lt_pow_right (by decide) h) (by decide)
theorem aad (z:x<18446744073709551616)(G:j<64)(u:Bool):setW x j u<18446744073709551616:=by
 have h:x &&& (18446744073709551615-2^j)<2^64:=jI Nat.and_le_left z;unfold setW;split
 ·exact Nat.or_lt_two_pow h (EE G)
 ·exact h
theorem JG (U:x<18446744073709551616)(V:j<64)(u:Bool)(i:Nat):(setW x j u).testBit i=if i=j then u else x.testBit i:=by
 have G:¬i<64->x.testBit i=false:=by
  intro h;apply Nat.testBit_lt_two_pow;exact bL U (jc (n:=2) (i:=64) (by decide) (by omega))
 have J:(x &&& (18446744073709551615-2^j)).testBit i=(x.testBit i && !decide (i=j)):=by
  rw[jN,qf _ _ (EE V),Nat.testBit_two_pow];by_cases h:i<64
  ·by_cases z:i=j
   ·simp[z]
   ·have :¬j=i:=λe=>z e.symm
    simp[h,z,this]
  ·simp[G h]
 unfold setW;split
 ·rename_i hu
  rw[Nat.testBit_or,J,Nat.testBit_two_pow,hu];by_cases z:i=j
  ·simp[z]
  ·have :¬j=i:=λe=>z e.symm
   simp[z,this]
 ·rename_i hu
  rw[J];have :u=false:=by simpa using hu
  subst this;by_cases z:i=j<;>simp[z]
def eJ (X:List Int) (b:Nat) (u:Bool):List (Int×Int):=if b=0\/256<=b then [] else [((816+b/64:Nat),(setW (bw X (b/64)) (b%64) u:Nat))]
theorem Lp (h:In64 X)(b:Nat)(u:Bool):∀p∈eJ X b u,0<=p.2/\p.2<18446744073709551616:=by
 intro p z;unfold eJ at z;split at z
 ·simp at z
 ·rw[ay] at z
  subst z;have :=aad (ED h (b/64)) (iw b (by decide:0<64)) u;exact⟨by simp,by show((_:Nat):Int)<_;omega⟩
theorem jk (l:List Int)(i j:Nat)(x:Int)(h:i<l.length):(l.set i x).getD j 0=if i=j then x else l.getD j 0:=by
 rw[aj,fg];by_cases e:i=j
 ·subst e;simp[h]
 ·rw[aB e,aB e,aj]
theorem BF (h:In64 X)(V:X.length=3128)(b:Nat)(J:b≠0)(U:b<256)(u:Bool)(c:Nat):dC (aA X (eJ X b u)) c=if c=b then u else dC X c:=by
 unfold eJ;rw[aB (by omega),nC,aH];unfold dC bw;rw[jk _ _ _ _ (by omega)];by_cases e:816+b/64=816+c/64
 ·rw[aC e,aH,show(X.getD (816+b/64) 0).toNat=bw X (b/64) from rfl,JG (ED h (b/64)) (iw b (by decide:0<64))]
  have G:c/64=b/64:=by omega
  rw[G];by_cases z:c=b
  ·rw[aC z,aC (by rw[z])]
  ·rw[aB z,aB (by omega)];rfl
 ·rw[aB e,aB (by intro G;subst G;exact e rfl)]
def mi (b k:Nat):List (Int×Int):=(List.range k).map λ(j:Nat)=>(((1080+b*8+j:Nat):Int),(0:Int))
def gT (b:Nat):List (Int×Int):=mi b 8
theorem Aj (b k:Nat):mi b (k+1)=mi b k++[(((1080+b*8+k:Nat):Int),(0:Int))]:=by
 unfold mi;rw[dS,eX];rfl
theorem CR (b k:Nat):(mi b k).length=k:=by simp[mi]
theorem wZ{p:Int×Int}(h:p∈gT b):∃j,j<8/\p=(((1080+b*8+j:Nat):Int),(0:Int)):=by
 unfold gT mi at h;rw[bH] at h;obtain⟨j,z,rfl⟩:=h;exact⟨j,bX.1 z,rfl⟩
theorem Lq (h:∀p∈ps,1080<=p.1)(c:Nat)(G:c<256):dC (aA X ps) c=dC X c:=by
 unfold dC bw;rw[ey _ _ _ λp z=>by have :=h p z;omega]
def cW (X:List Int):List Nat->List (Int×Int)
 | []=>[]
 |b::l=>(eJ X b true++gT b)++cW (aA X (eJ X b true++gT b)) l
theorem VZ (h:In64 X)(b:Nat):∀p∈eJ X b true++gT b,0<=p.2/\p.2<18446744073709551616:=by
 intro p z;rw[aU] at z;rcases z with z|z
 ·exact Lp h b true p z
 ·obtain⟨j,-,rfl⟩:=wZ z
  exact⟨Int.le_refl 0,by show(0:Int)<_;omega⟩
theorem Lr (h:In64 X)(U:X.length=3128)(b:Nat)(z:b≠0)(J:b<256)(c:Nat)(V:c<256):dC (aA X (eJ X b true++gT b)) c=(dC X c||decide (c=b)):=by
 rw[bD,Lq (λp G=>by obtain⟨j,-,rfl⟩:=wZ G;show(1080:Int)<=((_:Nat):Int);omega) c V,BF h U b z J];by_cases e:c=b<;>simp[e]
theorem Il (X:List Int)(b:Nat)(h:b≠0)(z:b<256)(u:Bool):(eJ X b u).length=1:=by
 unfold eJ;rw[aB (by omega)];rfl
theorem po (l:List Nat):∀X:List Int,(∀b∈l,b≠0/\b<256)->(cW X l).length=9*l.length:=by
 induction l with
 |nil=>intro X _;rfl
 |cons b l ih=>
  intro X h;obtain⟨G,z⟩:=h b (by simp);show((eJ X b true++gT b)++cW _ l).length=_;rw[aD,aD,Il X b G z,gT,CR,ih _ λc J=>h c (by simp[J])];simp only[bQ];omega
theorem Lt (l:List Nat)(b:Nat):∀X:List Int,cW X (l++[b])=cW X l++(eJ (aA X (cW X l)) b true++gT b):=by
 induction l with
 |nil=>intro X;show(eJ X b true++gT b)++[]=[]++_;rw[bu];rfl
 |cons c l ih=>
  intro X;have e:aA X (cW X (c::l))=aA (aA X (eJ X c true++gT c)) (cW (aA X (eJ X c true++gT c)) l):=bD _ _ _;rw[e];show(eJ X c true++gT c)++cW (aA X (eJ X c true++gT c)) (l++[b])=((eJ X c true++gT c)++cW (aA X (eJ X c true++gT c)) l)++_;rw[ih,ba (eJ X c true++gT c)]
theorem mN (l:List Nat):∀X:List Int,In64 X->X.length=3128->(∀b∈l,b≠0/\b<256)->
  In64 (aA X (cW X l))/\(aA X (cW X l)).length=3128/\∀c,c<256->dC (aA X (cW X l)) c=(dC X c||decide (c∈l)):=by
 induction l with
 |nil=>intro X h z _;exact⟨h,z,λc _=>by simp[cW,aA]⟩
 |cons b l ih=>
  intro X h z J;obtain⟨h0,U⟩:=J b (by simp);have V:In64 (aA X (eJ X b true++gT b)):=h.put (VZ h b);obtain⟨k1,k2,k3⟩:=ih (aA X (eJ X b true++gT b)) V (by rw[b7];exact z) λc G=>J c (by simp[G])
  have e:aA X (cW X (b::l))=aA (aA X (eJ X b true++gT b)) (cW (aA X (eJ X b true++gT b)) l):=bD _ _ _;rw[e];refine⟨k1,k2,λc G=> ?_⟩;rw[k3 c G,Lr h z b h0 U c G];by_cases e1:c=b<;>by_cases W:c∈l<;>simp[e1,W]
theorem BG (G:l.Nodup)(n:Nat):l.filter (λc=> !decide (c∈l.take n))=l.drop n:=by
 have J:l.filter (λc=> !decide (c∈l.take n))=(l.take n++l.drop n).filter (λc=> !decide (c∈l.take n)):=by rw[eI]
 rw[J,ft];have hd:∀c,c∈l.take n->c∈l.drop n->False:=by
  rw[<-eI n l] at G;intro c W V;exact(List.nodup_append.1 G).2.2 c W c V rfl
 have e1:(l.take n).filter (λc=> !decide (c∈l.take n))=[]:=by
  rw[List.filter_eq_nil_iff];intro c z;simp[z]
 have U:(l.drop n).filter (λc=> !decide (c∈l.take n))=l.drop n:=by
  rw[List.filter_eq_self];intro c z;have :c∉l.take n:=λh=>hd c h z
  simp[this]
 rw[e1,U,bY]
theorem EF (h:In64 X)(hl:X.length=3128)(n:Nat):In64 (aA X (cW X ((aZ X).take n)))/\(aA X (cW X ((aZ X).take n))).length=3128/\aZ (aA X (cW X ((aZ X).take n)))=(aZ X).drop n:=by
 have U:∀b∈(aZ X).take n,b≠0/\b<256:=λb hb=>by
  have :=jT.1 (bM hb);exact⟨this.2.1,this.1⟩
 obtain⟨J,G,V⟩:=mN ((aZ X).take n) X h hl U;refine⟨J,G,?_⟩;have hd:=BG (qU X 256) n;have e:∀Y,gW Y 256=(List.range 256).filter (λb=>b != 0 && !dC Y b):=λ_=>rfl
 have z:∀c,c<256->dC (aA X (cW X (List.take n (gW X 256)))) c=(dC X c||decide (c∈List.take n (gW X 256))):=V;clear V J G U;show gW (aA X (cW X (List.take n (gW X 256)))) 256=List.drop n (gW X 256);generalize List.take n (gW X 256)=L at *;rw[<-hd,e X,e,List.filter_filter];apply iE;intro c W;rw[bX] at W;rw[z c W];by_cases e1:c∈L<;>simp[e1]
end Go.Proofs.YtepbpdipenedhaaGreatDoor
namespace Go.Proofs.YtepbpdipenedhaaGreatDoor
open Go.Proofs.Tryz
open Go.RowKit
variable{J w w':World}{G K U a b c d e f g gp h j n x y z:Nat}{B X:List Int}{ps qs:List (Int×Int)}{l own:List Nat}{v:Value}{o:Oper}{next:Act->World->Prop}{row:Option Nat}
def iL (b:Int):Int:=if b<0\/256<=b then -1 else 1080+b*8
theorem jU (b:Int)(w:World):Calls prog 149 #[.int .i64 b] w λe w'=>e= .returned (.int .i64 (iL b))/\w=w':=by
 rcases (show b<0\/256<=b\/(0<=b/\b<256) by omega) with h|h|⟨z,J⟩
 ·rw[iL,aC (.inl h)]
  go_enter func149,ntmps149;go_wp2;go_ret;exact⟨rfl,rfl⟩
 ·rw[iL,aC (.inr h)]
  have G:¬b<0:=by omega
  go_enter func149,ntmps149;go_wp2;go_ret;exact⟨rfl,rfl⟩
 ·rw[iL,aB (by omega)]
  go_enter func149,ntmps149;go_wp2;go_ret;exact⟨rfl,rfl⟩
theorem Lu{k:IntKind}{a b:Int}(h:a=b):Ending.returned (.int k a)= .returned (.int k b):=by rw[h]
def GL (b:Int):Bool:=decide (0<=b)&&decide (b<256)
theorem xa{b:Int}:GL b=true↔0<=b/\b<256:=by simp[GL]
theorem Ak (i:Int)(w:World):Calls prog 164 #[.int .i64 i] w λe w'=>e= .returned (.bool (GL i))/\w=w':=by
 by_cases z:0<=i
 ·by_cases h:i<256
  ·rw[xa.2 ⟨z,h⟩]
   go_enter func164,ntmps164;go_wp2;go_ret;exact⟨rfl,rfl⟩
  ·rw[show GL i=false by simp[GL];omega]
   go_enter func164,ntmps164;go_wp2;go_ret;exact⟨rfl,rfl⟩
 ·rw[show GL i=false by simp[GL];omega]
  go_enter func164,ntmps164;go_wp2;go_ret;exact⟨rfl,rfl⟩
theorem CS (b:Nat)(G:b<256)(w:World):Calls prog 165 #[.int .i64 (b:Int)] w λe w'=>e= .returned (.int .i64 ((816+b/64:Nat):Int))/\w=w':=by
 have z:(0:Int)<=(b:Int):=by omega
 have h:(b:Int)<256:=by omega
 go_enter func165,ntmps165;go_wp2;go_ret;exact⟨Lu (by omega),rfl⟩
def oG (b:Nat):Nat:=2^(b%64)
theorem JH (b:Nat):oG b<18446744073709551616:=EE (iw _ (by decide))
theorem V2 (b:Nat):IntKind.u64.wrap (2^(b%64))=((oG b:Nat):Int):=by
 have h:=JH b;have e:((2:Int)^(b%64))=((2^(b%64):Nat):Int):=by simp
 rw[gi,e];unfold oG at *;generalize 2^(b%64)=x at *;omega
theorem xb (b:Nat)(G:b<256)(w:World):Calls prog 166 #[.int .i64 (b:Int)] w λe w'=>e= .returned (.int .u64 ((oG b:Nat):Int))/\w=w':=by
 have z:(0:Int)<=(b:Int):=by omega
 have h:(b:Int)<256:=by omega
 have H:=au (V2 b);go_enter func166,ntmps166;go_wp2;go_ret;exact⟨Lu H.out,rfl⟩
theorem aae (x j:Nat):x &&& 2^j=if x.testBit j=true then 2^j else 0:=by
 apply Nat.eq_of_testBit_eq;intro i;rw[jN,Nat.testBit_two_pow];by_cases e:j=i
 ·subst e
  cases h:x.testBit j<;>simp
 ·cases h:x.testBit j<;>simp[e]
theorem V3 (x b:Nat):(x &&& oG b≠0)↔x.testBit (b%64)=true:=by
 unfold oG;rw[aae];have :=Nat.two_pow_pos (b%64);cases x.testBit (b%64)<;>simp<;>omega
theorem BH (h:In64 (aA B ps))(k:Nat)(z:k<2000):Ae B ps ((816+k:Nat):Int)=((bw (aA B ps) k:Nat):Int):=by
 unfold Ae;rw[aC (by omega),aac h,aH]
theorem Sl (x b:Nat):setW x (b%64) false=x &&& (18446744073709551615-oG b)/\setW x (b%64) true=(x &&& (18446744073709551615-oG b)) ||| oG b:=⟨rfl,rfl⟩
theorem Lv (h:eO w b U B ps)(J:In64 (aA B ps))(hn:ps.length<=1000000)(i:Int)(u:Bool):
  Calls prog 142 #[.pointer (some ⟨b,0,none⟩),.int .i64 i,.bool u] w (jE w b U B (ps++eJ (aA B ps) i.toNat u)):=by
 have HI:=au (Ak i w);by_cases hz:i=0
 ·subst hz
  have V:Hid (jE w b U B (ps++eJ (aA B ps) (0:Int).toNat u) (.returned (.tuple #[])) w):=by
   show jE _ _ _ _ _ _ _;rw[show eJ (aA B ps) (0:Int).toNat u=[] by simp[eJ],bu];exact⟨rfl,U,.inl rfl,h,az.refl _ _⟩
  clear h;go_enter func142,ntmps142;go_wp2_with fail;go_end0;exact V.out
 have e0:(i==0)=false:=by simpa using hz
 cases hi:GL i
 ·rw[hi] at HI
  have V:Hid (jE w b U B (ps++eJ (aA B ps) i.toNat u) (.returned (.tuple #[])) w):=by
   show jE _ _ _ _ _ _ _;have :¬(0<=i/\i<256):=λe=>by rw[xa.2 e] at hi;cases hi
   rw[show eJ (aA B ps) i.toNat u=[] by unfold eJ;rw[aC (by omega)],bu];exact⟨rfl,U,.inl rfl,h,az.refl _ _⟩
  clear hi h hz;go_enter func142,ntmps142;go_wp2_with fail;refine HI.out.mono ?_;rintro e w' ⟨rfl,rfl⟩;go_wp2_with fail;go_end0;exact V.out
 ·rw[hi] at HI
  obtain⟨h0,h1⟩:=xa.1 hi;clear hi;obtain⟨j,rfl⟩:=cu h0;have hj:j<256:=by omega
  have BI:¬(j=0\/256<=j):=by omega
  clear hz;have HB:=au (CS j hj w);have V:=au (xb j hj w);have HG:=au (oC h ((816+j/64:Nat):Int));rw[BH J (j/64) (by omega)] at HG;have hx:=ED J (j/64);have hm:=JH j;have ha:=u64_andNot_nat (bw (aA B ps) (j/64)) (oG j) hx hm;have hy:bw (aA B ps) (j/64) &&& (18446744073709551615-oG j)<18446744073709551616:=jI Nat.and_le_left hx;have G:QL ((816+j/64:Nat):Int)=true:=sB.2 ⟨by omega,by omega⟩;obtain⟨s0,s1⟩:=Sl (bw (aA B ps) (j/64)) j;cases u
  ·have HP:Hid (Calls prog 48 #[.pointer (some ⟨b,0,none⟩),.int .i64 ((816+j/64:Nat):Int),.int .u64 ((bw (aA B ps) (j/64) &&& (18446744073709551615-oG j):Nat):Int)] w (jE w b U B (ps++eJ (aA B ps) (j:Int).toNat false))):=by
    have :=oD h hn ((816+j/64:Nat):Int) ((bw (aA B ps) (j/64) &&& (18446744073709551615-oG j):Nat):Int);unfold zj at this;rw[aC G] at this;unfold eJ;rw[aH,aB BI,s0];exact this
   clear h J hn hx hm G s0 s1 BI hy;generalize ps++eJ (aA B ps) (j:Int).toNat false=qs at *;generalize bw (aA B ps) (j/64) &&& (18446744073709551615-oG j)=y at *;generalize bw (aA B ps) (j/64)=x at *;generalize oG j=m at *;go_enter func142,ntmps142;go_wp2_with fail;refine HI.out.mono ?_;rintro e w' ⟨rfl,rfl⟩;go_wp2_with fail;refine HB.out.mono ?_;rintro e w' ⟨rfl,rfl⟩;go_wp2_with fail;refine HG.out.mono ?_;rintro e w' ⟨rfl,rfl⟩;go_wp2_with fail;refine V.out.mono ?_;rintro e w' ⟨rfl,rfl⟩;go_wp2_with fail;refine HB.out.mono ?_;rintro e w' ⟨rfl,rfl⟩;go_wp2_with fail;refine HP.out.mono ?_;rintro e w' W;have HQ:=au W;obtain⟨rfl,-⟩:=W;go_wp2_with fail;go_end0;exact HQ.out
  ·have ho:=u64_or_nat (bw (aA B ps) (j/64) &&& (18446744073709551615-oG j)) (oG j) hy hm
   have HP:Hid (Calls prog 48 #[.pointer (some ⟨b,0,none⟩),.int .i64 ((816+j/64:Nat):Int),.int .u64 (((bw (aA B ps) (j/64) &&& (18446744073709551615-oG j)) ||| oG j:Nat):Int)] w (jE w b U B (ps++eJ (aA B ps) (j:Int).toNat true))):=by
    have :=oD h hn ((816+j/64:Nat):Int) (((bw (aA B ps) (j/64) &&& (18446744073709551615-oG j)) ||| oG j:Nat):Int);unfold zj at this;rw[aC G] at this;unfold eJ;rw[aH,aB BI,s1];exact this
   clear h J hn hx hm G s0 s1 BI hy;generalize ps++eJ (aA B ps) (j:Int).toNat true=qs at *;generalize (bw (aA B ps) (j/64) &&& (18446744073709551615-oG j)) ||| oG j=z at *
   generalize bw (aA B ps) (j/64) &&& (18446744073709551615-oG j)=y at *;generalize bw (aA B ps) (j/64)=x at *;generalize oG j=m at *;go_enter func142,ntmps142;go_wp2_with fail;refine HI.out.mono ?_;rintro e w' ⟨rfl,rfl⟩;go_wp2_with fail;refine HB.out.mono ?_;rintro e w' ⟨rfl,rfl⟩;go_wp2_with fail;refine HG.out.mono ?_;rintro e w' ⟨rfl,rfl⟩;go_wp2_with fail;refine V.out.mono ?_;rintro e w' ⟨rfl,rfl⟩;go_wp2_with fail;refine V.out.mono ?_;rintro e w' ⟨rfl,rfl⟩;go_wp2_with fail;refine HB.out.mono ?_;rintro e w' ⟨rfl,rfl⟩;go_wp2_with fail;refine HP.out.mono ?_;rintro e w' W;have HQ:=au W;obtain⟨rfl,-⟩:=W;go_wp2_with fail;go_end0;exact HQ.out
theorem aaf (x:Nat)(z:x<18446744073709551616):18446744073709551615 ^^^ x=18446744073709551615-x:=by
 apply Nat.eq_of_testBit_eq;intro j;rw[Nat.testBit_xor,qf x j z,show(18446744073709551615:Nat)=2^64-1 from rfl,Nat.testBit_two_pow_sub_one];by_cases h:j<64
 ·simp[h]
 ·have :x.testBit j=false:=by
   apply Nat.testBit_lt_two_pow;exact bL z (jc (n:=2) (i:=64) (by decide) (by omega))
  simp[h,this]
theorem aag (x:Nat)(h:x<18446744073709551616):bits .xor .u64 IntKind.u64.max (x:Int)=((18446744073709551615-x:Nat):Int):=by
 rw[<-aaf x h];exact u64_xor_nat 18446744073709551615 x (by decide) h
theorem CU{W:Nat}(h:eO w b W B ps)(z:In64 (aA B ps))(k:Nat)(hk:k<4):
  Calls prog 203 #[.pointer (some ⟨b,0,none⟩),.int .i64 (k:Int)] w λe w'=>e= .returned (.int .u64 ((Ik (aA B ps) k:Nat):Int))/\w=w':=by
 have G:=au (oC h ((816+k:Nat):Int));rw[BH z k (by omega)] at G;have hx:=aag _ (ED z k);have ek:IntKind.i64.wrap (816+(k:Int))=((816+k:Nat):Int):=by rw[eW _ (by omega)];omega
 by_cases J:k=0
 ·subst J
  have V:Hid (Calls prog 166 #[.int .i64 0] w (λe w'=>e= .returned (.int .u64 1)/\w=w')):=xb 0 (by decide) w;have ha:bits .andNot .u64 (((18446744073709551615-bw (aA B ps) 0:Nat)):Int) 1=((Ik (aA B ps) 0:Nat):Int):=by
   rw[Ik,aC rfl];exact u64_andNot_nat (18446744073709551615-bw (aA B ps) 0) 1 (by omega) (by decide)
  generalize Ik (aA B ps) 0=f at *;generalize 18446744073709551615-bw (aA B ps) 0=y at *;generalize bw (aA B ps) 0=x at *;clear h z;go_enter func203,ntmps203;go_wp2_with fail;refine G.out.mono ?_;rintro e w' ⟨rfl,rfl⟩;go_wp2_with fail;refine V.out.mono ?_;rintro e w' ⟨rfl,rfl⟩;go_wp2_with fail;go_ret;exact⟨rfl,rfl⟩
 ·have e0:((k:Int)==0)=false:=by simp;omega
  have U:18446744073709551615-bw (aA B ps) k=Ik (aA B ps) k:=by rw[Ik,aB J]
  rw[U] at hx;clear U;generalize Ik (aA B ps) k=f at *;generalize bw (aA B ps) k=x at *;clear h z;go_enter func203,ntmps203;go_wp2_with fail;refine G.out.mono ?_;rintro e w' ⟨rfl,rfl⟩;go_wp2_with fail;go_ret;exact⟨rfl,rfl⟩
theorem acx:rep 85 8=6148914691236517205:=by decide
theorem acy:rep 51 8=3689348814741910323:=by decide
theorem acz:rep 15 8=1085102592571150095:=by decide
theorem Im (n:Nat)(h:n<18446744073709551616):IntKind.u64.wrap (n:Int)=(n:Int):=by rw[gi];omega
theorem Lx (x d m:Nat)(h:x<18446744073709551616)(z:m<18446744073709551616):bits .and .u64 ((x:Int)/(d:Int)) (m:Int)=((x/d &&& m:Nat):Int):=
 iu (x/d) m (jI (Nat.div_le_self x d) h) z
theorem i64_and127(x:Nat)(h:x<9223372036854775808):bits .and .i64 (x:Int) 127=((x%128:Nat):Int):=by
 show IntKind.i64.wrap ((BitVec.ofInt 64 (x:Int) &&& BitVec.ofInt 64 127).toNat:Int)=_;have z:BitVec.ofInt 64 127=BitVec.ofNat 64 127:=by decide
 rw[BitVec.toNat_and,ofInt_u64 x (by omega),z,BitVec.toNat_ofNat,show(127%2^64:Nat)=2^7-1 from rfl,dU];rw[eW _ (by omega)]
theorem OB (x:Nat)(hx:x<18446744073709551616):∃z h U J G V:Nat,
  IntKind.u64.wrap (bits .and .u64 ((x:Int)/2) 6148914691236517205+bits .and .u64 (x:Int) 6148914691236517205)=(z:Int)/\
  IntKind.u64.wrap (bits .and .u64 ((z:Int)/4) 3689348814741910323+bits .and .u64 (z:Int) 3689348814741910323)=(h:Int)/\
  bits .and .u64 (IntKind.u64.wrap ((h:Int)/16+(h:Int))) 1085102592571150095=(U:Int)/\
  IntKind.u64.wrap ((U:Int)+(U:Int)/256)=(J:Int)/\
  IntKind.u64.wrap ((J:Int)+(J:Int)/65536)=(G:Int)/\
  IntKind.u64.wrap ((G:Int)+(G:Int)/4294967296)=(V:Int)/\
  IntKind.i64.wrap (V:Int)=(V:Int)/\bits .and .i64 (V:Int) 127=((ones 64 x:Nat):Int):=by
 obtain⟨z,h,U,J,G,V,s1,s2,s3,s4,s5,s6,b1,b2,W,b3,b4,b5,b6,hm⟩:=Ll x hx;unfold st1 at s1;unfold st2 at s2;unfold st3 at s3;rw[acx] at s1;rw[acy] at s2;rw[acz] at s3;refine⟨z,h,U,J,G,V,?_,?_,?_,?_,?_,?_,?_,?_⟩
 ·rw[show(bits .and .u64 ((x:Int)/2) 6148914691236517205)=_ from Lx x 2 6148914691236517205 hx (by decide),show(bits .and .u64 (x:Int) 6148914691236517205)=_ from iu x 6148914691236517205 hx (by decide),<-Int.natCast_add,s1]
  exact Im _ b1
 ·rw[show(bits .and .u64 ((z:Int)/4) 3689348814741910323)=_ from Lx z 4 3689348814741910323 b1 (by decide),show(bits .and .u64 (z:Int) 3689348814741910323)=_ from iu z 3689348814741910323 b1 (by decide),<-Int.natCast_add,s2]
  exact Im _ b2
 ·rw[show(h:Int)/16+(h:Int)=((h/16+h:Nat):Int) by omega,Im _ W,<-s3]
  exact iu (h/16+h) 1085102592571150095 W (by decide)
 ·rw[show(U:Int)+(U:Int)/256=((J:Nat):Int) by omega]
  exact Im _ (by omega)
 ·rw[show(J:Int)+(J:Int)/65536=((G:Nat):Int) by omega]
  exact Im _ (by omega)
 ·rw[show(G:Int)+(G:Int)/4294967296=((V:Nat):Int) by omega]
  exact Im _ (by omega)
 ·exact eW _ (by omega)
 ·rw[i64_and127 _ b6,hm]
theorem aah (x:Nat)(h:x<18446744073709551616)(w:World):Calls prog 202 #[.int .u64 (x:Int)] w λe w'=>e= .returned (.int .i64 ((ones 64 x:Nat):Int))/\w=w':=by
 obtain⟨V,U,J,x4,x5,x6,E1,E2,G,E4,W,z,E7,E8⟩:=OB x h;generalize ones 64 x=r at *;clear h;go_enter func202,ntmps202;go_wp2;go_ret;exact⟨rfl,rfl⟩
def kg (w:World):Prop:=∀j,j<64->w.cell? ⟨0,j,none⟩=some (.int .u8 ((Lib.deBruijn64tab.getD j 0:Nat):Int))
theorem acA (x a:Nat)(h:x<18446744073709551616)(J:x≠0)(G:x &&& (18446744073709551616-x)=a):
  IntKind.u64.wrap (bits .and .u64 (x:Int) (IntKind.u64.wrap (-(x:Int)))*285870213051353865)/288230376151711744=((a*285870213051353865%18446744073709551616/288230376151711744:Nat):Int):=by
 have z:IntKind.u64.wrap (-(x:Int))=((18446744073709551616-x:Nat):Int):=by rw[gi];omega
 rw[z,iu x _ h (by omega),G,gi];omega
theorem aai (x k h:Nat)(w:World)(J:((x:Int)==0)=false)
  (z:IntKind.u64.wrap (bits .and .u64 (x:Int) (IntKind.u64.wrap (-(x:Int)))*285870213051353865)/288230376151711744=(h:Int))
  (V:h<64) (U:k<64) (G:w.cell? ⟨0,h,none⟩=some (.int .u8 k)):
  Calls prog 204 #[.int .u64 (x:Int)] w λe w'=>e= .returned (.int .i64 (k:Int))/\w=w':=by
 go_enter func204,ntmps204;go_wp2_with(simp only[z]);go_ret;exact⟨rfl,rfl⟩
theorem aen (x:Nat)(U:x<18446744073709551616)(V:x≠0)(w:World)(W:kg w):Calls prog 204 #[.int .u64 (x:Int)] w λe w'=>e= .returned (.int .i64 ((Lib.ctz 64 x:Nat):Int))/\w=w':=by
 obtain⟨wX,G⟩:=Lib.lowest_bit 64 x V U;obtain⟨J,z⟩:=Lib.deBruijn64_at _ G;have h:=W _ J;rw[z] at h;exact aai x _ _ w (by simp;omega) (acA x _ U V wX) J G h
def Onto (w:World) (b z:Nat) (B:List Int) (ps:List (Int×Int)) (w':World):Prop:=
 ∃h,(h=z\/(w.heap.size<=h/\h<w'.heap.size))/\eO w' b h B ps/\az [b,z] w w'
theorem Onto.refl(h:eO w b z B ps):Onto w b z B ps w:=⟨z,.inl rfl,h,az.refl _ _⟩
theorem Onto.post(h:Onto w b z B ps w'):jE w b z B ps (.returned (.tuple #[])) w':=⟨rfl,h⟩
theorem Onto.trans{V:World}(hg:z=G\/(w.heap.size<=z/\z<J.heap.size))(U:az [b,G] w J)(h:Onto J b z B qs V):Onto w b G B qs V:=by
 obtain⟨pq,h1,h2,W⟩:=h;have z1:=U.size;have z2:=W.size;refine⟨pq,by omega,h2,U.trans W λx hx=> ?_⟩;simp only[aP,aM,bz] at hx ⊢;omega
theorem Onto.mono{U:World}(G:az [] w U)(Gz:z<w.heap.size)(h:Onto U b z B qs J):Onto w b z B qs J:=by
 obtain⟨W,h1,h2,h3⟩:=h;have z1:=G.size;exact⟨W,by omega,h2,(G.mono (by simp)).trans h3 λx V=> .inl V⟩
theorem V4 (ps:List (Int×Int))(c k:Nat)(z:c<256)(h:k<8):zj (ps++mi c k) ((1080+c*8+k:Nat):Int) 0=ps++mi c (k+1):=by
 unfold zj;rw[aC (sB.2 ⟨by omega,by omega⟩),Aj,ba]
theorem OC (h:eO w b z B ps)(U:ps.length<=999000)(c:Nat)(hc:c<256):
  Calls prog 177 #[.pointer (some ⟨b,0,none⟩),.int .i64 (c:Int)] w (jE w b z B (ps++gT c)):=by
 have HS:=au h;have HN:=au U;have V:∀w',Hid (Calls prog 149 #[.int .i64 (c:Int)] w' λe G=>e= .returned (.int .i64 ((1080+c*8:Nat):Int))/\w'=G):=λw'=>by
  have :=jU (c:Int) w';rw[show iL (c:Int)=((1080+c*8:Nat):Int) by unfold iL;rw[aB (by omega)];omega] at this;exact this
 clear h U;go_enter func177,ntmps177;go_wp2_with fail;go_loopg [5] 8 (λgh s5 wx=>∃k:Nat,k+gh=8/\s5= .int .i64 (k:Int)/\Hid (Onto w b z B (ps++mi c k) wx))
 case atStart=>exact⟨0,by omega,rfl,by show Onto _ _ _ _ _ _;rw[show mi c 0=[] from rfl,bu];exact Onto.refl HS.out⟩
 case round=>
  obtain⟨k,hk,rfl,J⟩:=hrel;cases gk with
  |zero=>
   obtain rfl:k=8:=by omega
   clear hk;go_wp2_with fail;go_end0;exact Onto.post J.out
  |succ gg=>
   have uS:k<8:=by omega
   have aa:(k:Int)<8:=by omega
   have dt:(0:Int)<=(k:Int):=by omega
   have HP:Hid (∀x:Int,x=((1080+c*8+k:Nat):Int)->Calls prog 48 #[.pointer (some ⟨b,0,none⟩),.int .i64 x,.int .u64 0] wr λe w'=>e= .returned (.tuple #[])/\Hid (Onto w b z B (ps++mi c (k+1)) w')):=by
    intro x hx;subst hx;obtain⟨kX,h1,h2,h3⟩:=J.out;refine(oD h2 (by rw[aD,CR];have :=HN.out;omega) _ 0).mono ?_;rintro e w' ⟨rfl,W⟩;rw[V4 ps c k hc uS] at W;exact⟨rfl,Onto.trans h1 h3 W⟩
   have HB:=V wr;clear J V;go_wp2_with fail;refine HB.out.mono ?_;rintro e w' ⟨rfl,rfl⟩;go_wp2_with fail;refine(HP.out _ (by omega)).mono ?_;rintro e w' ⟨rfl,HQ⟩;go_wp2_with fail;go_roundg gg;case measure=>omega
   case rel=>exact⟨k+1,by omega,by go_num,HQ⟩
theorem Io (X:List Int)(n:Nat):(gW X n).length<=n:=by
 unfold gW;have :=fQ (λb=>b != 0 && !dC X b) (List.range n);simpa using this
theorem Ip (h:eO w b gp B ps)(z:In64 (aA B ps)):
  Calls prog 175 #[.pointer (some ⟨b,0,none⟩)] w λe w'=>e= .returned (.int .i64 (((aZ (aA B ps)).length:Nat):Int))/\w=w':=by
 have HS:=au h;have V:=au z;clear h z;go_enter func175,ntmps175;go_wp2_with fail;go_loop [3,5] (λs3 s5=>∃k:Nat,k<=4/\s5= .int .i64 (k:Int)/\s3= .int .i64 (((gW (aA B ps) (64*k)).length:Nat):Int)) (λ_ s5=>4-(intOf s5).toNat)
 case atStart=>exact⟨0,by omega,rfl,rfl⟩
 case round=>
  obtain⟨k,hk,rfl,rfl⟩:=hrel;by_cases J:k<4
  ·have U:(k:Int)<4:=by omega
   have dt:(0:Int)<=(k:Int):=by omega
   have W:=au (OA V.out k);have aa:=Io (aA B ps) (64*k);have G:=Io (aA B ps) (64*(k+1));have e:=W.out;have HI:=au (CU HS.out V.out k J);have HO:=au (aah (Ik (aA B ps) k) (VY (aA B ps) k) w);have ho:ones 64 (Ik (aA B ps) k)<=256:=by omega
   rw[e] at G;clear e G;generalize ones 64 (Ik (aA B ps) k)=o at *;generalize hf:Ik (aA B ps) k=f at *;clear hf;generalize hq:(gW (aA B ps) (64*k)).length=q at *;clear hq;go_wp2_with fail;refine HI.out.mono ?_;rintro e w' ⟨rfl,rfl⟩;go_wp2_with fail;refine HO.out.mono ?_;rintro e w' ⟨rfl,rfl⟩;go_wp2_with fail
   go_round
   case rel=>exact⟨k+1,by omega,by go_num,by rw[W.out];go_num⟩
   case measure=>simp[intOf];omega
  ·obtain rfl:k=4:=by omega
   go_wp2_with fail;go_ret;exact⟨rfl,rfl⟩
def dE (l:List Nat):List Value:=l.map λx:Nat=>Value.int .i64 (x:Int)
theorem fI (l:List Nat):(dE l).length=l.length:=by simp[dE]
theorem np (h:j<l.length):(dE l)[j]? =some (.int .i64 ((l.getD j 0:Nat):Int)):=by simp[dE,h]
theorem sG (l m:List Nat):dE (l++m)=dE l++dE m:=by simp[dE]
theorem Tryz.info_int:(prog.info? 3).map (λi=>(i.zero,i.size,i.bytes))=some (some (.int .i64 0),1,8):=by kernel_rfl
theorem Sm (n:Nat)(V:n<=100000)(w:World):(Instr.makeSlice 141 (.int .i64 0) (.int .i64 (n:Int))).run prog w=
  .ok (.slice (some ⟨w.heap.size,0,none⟩) 0 n) (w.alloc (.cells (madeCells #[.int .i64 0] n) 3)):=by
 obtain⟨U,J,h,z,G⟩:=cP Tryz.info_int;have :=run_make (P:= prog) w 141 3 U _ underlying141 J h .i64 .i64 0 (n:Int) (by omega) (by omega) (by rw[G];omega) (by omega);rw[z,aH,iq] at this;exact this
theorem GM (X:List Int)(k m:Nat)(h:k<=m):∃r,gW X m=gW X k++r:=by
 obtain⟨d,rfl⟩:∃d,m=k+d:=⟨m-k,by omega⟩;exact⟨_,iW _ k d⟩
theorem Sn (G:y<18446744073709551616)(h:yt y=[]):y=0:=by
 by_cases z:y=0
 ·exact z
 ·have :=(Ii y z G).2
  rw[h] at this;cases this
def tF (w:World) (l:List Nat) (e:Ending) (w':World):Prop:=
 ∃v g,e= .returned v/\Reads w' v g (dE l)/\w.heap.size<=g/\g<w'.heap.size/\az [] w w'
def EG (w:World) (n:Nat) (l:List Nat) (v:Value) (h:World):Prop:=
 h.ownsRow w.heap.size 3 1 v l.length (dE l)/\az [] w h/\l.length<=n/\v≠.slice none 0 0
theorem EG.made(h:EG w n l v J):tF w l (.returned v) J:=by
 obtain⟨W,h2,h3,h4⟩:=h;obtain⟨h5,h6⟩:=W;rcases h6 with ⟨rfl,-⟩|⟨g,cap,U,rfl,hg,V,h7,h8,h9,z⟩
 ·exact absurd rfl h4
 ·have G:g<J.heap.size:=(Array.getElem?_eq_some_iff.1 V).1
  exact⟨_,g,rfl,fp.reads ⟨h5,_,cap,rfl,h7,h8,λ_=>⟨rfl,U,V,h9,z⟩⟩,hg,G,h2⟩
theorem kg.keep(h:kg w)(G:az [] w w'):kg w':=λj J=>by
 have z:=h j J;rw[aO (w:=w) (G.block _ (za z) (by simp))];exact z
theorem V5 (y:Nat)(h:y<18446744073709551616)(z:y≠0):bits .and .u64 (y:Int) (IntKind.u64.wrap ((y:Int)-1))=((y &&& (y-1):Nat):Int)/\y &&& (y-1)<18446744073709551616:=by
 have e:IntKind.u64.wrap ((y:Int)-1)=((y-1:Nat):Int):=by rw[gi];omega
 rw[e];exact⟨iu y (y-1) h (by omega),jI Nat.and_le_left h⟩
theorem EH (h:eO w b gp B ps)(ai:In64 (aA B ps))(hT:kg w)(n:Nat)(hn:n<=100000):
  Calls prog 176 #[.pointer (some ⟨b,0,none⟩),.int .i64 (n:Int)] w (tF w ((aZ (aA B ps)).take n)):=by
 obtain⟨i0,hi,aj,aD,aF⟩:=cP Tryz.info_int;have HS:=au h;have tu:=au ai;have HT:=au hT;clear h ai hT;have ak:=Sm n hn w;have aB:Hid (EG w n [] (.slice (some ⟨w.heap.size,0,none⟩) 0 n) (w.alloc (.cells (madeCells #[.int .i64 0] n) 3))):=by
  refine⟨⟨rfl,.inr ⟨w.heap.size,n,madeCells #[.int .i64 0] n,rfl,aI _,bh.new _ _ _,by simp,by unfold maxLen;omega,by simp[madeCells],by simp[dE]⟩⟩,(az.refl _ _).alloc _,by simp,by simp⟩
 go_enter func176,ntmps176;go_wp2_with fail;go_step3;go_wp2_with fail;go_step3;go_wp2_with fail;clear ak;go_loopg [5,10] 4 (λgh s5 Sq wx=>∃k:Nat,k+gh=4/\Sq= .int .i64 (k:Int)/\Hid (EG w n (gW (aA B ps) (64*k)) s5 wx))
 case atStart=>exact⟨0,by omega,rfl,aB.out⟩
 case round=>
  obtain⟨k,hk,rfl,V⟩:=hrel;cases gk with
  |zero=>
   obtain rfl:k=4:=by omega
   clear hk;have HM:Hid (tF w ((aZ (aA B ps)).take n) (.returned u5) wr):=by
    show tF _ _ _ _;have e:aZ (aA B ps)=gW (aA B ps) (64*4):=rfl;rw[e,aV V.out.2.2.1];exact V.out.made
   go_wp2_with fail;rw[Exit.noGoto_ret];go_ret;exact HM.out
  |succ gg=>
   have aC:k<4:=by omega
   have ag:(k:Int)<4:=by omega
   have dt:(0:Int)<=(k:Int):=by omega
   have HF:=au (CU (HS.out.keep V.out.2.1 (by simp) (by simp)) tu.out k aC);have HY:=au (VY (aA B ps) k);go_wp2_with fail;refine HF.out.mono ?_;rintro e w' ⟨rfl,rfl⟩;clear HF;go_wp2_with fail;clear dt ag;go_loopg [5,7] (yt (Ik (aA B ps) k)).length (λgh s5 s7 wx=>∃(y:Nat) (G:List Nat),gh=(yt y).length/\s7= .int .u64 (y:Int)/\
    Hid (y<18446744073709551616/\yt (Ik (aA B ps) k)=G++yt y/\EG w n (gW (aA B ps) (64*k)++G.map (64*k+·)) s5 wx))
   case atStart=>exact⟨_,[],rfl,rfl,HY.out,rfl,by rw[List.map_nil,bu];exact V.out⟩
   case round=>
    clear V HY;obtain⟨y,G,J,rfl,V⟩:=hrel;cases gk with
    |zero=>
     have hy:y=0:=Sn V.out.1 (bg J.symm);subst hy;have Zc:Hid (EG w n (gW (aA B ps) (64*(k+1))) u5 wr):=by
      show EG _ _ _ _ _;obtain⟨-,h2,h3⟩:=V.out;rw[wY tu.out,h2,Ij,bu];exact h3
     clear V J;have ag:(k:Int)<4:=by omega
     have dt:(0:Int)<=(k:Int):=by omega
     go_wp2_with fail;go_roundg gg;case measure=>omega
     case rel=>exact⟨k+1,by omega,by go_num,Zc⟩
    |succ g2=>
     have ac:y≠0:=by
      intro e;subst e;rw[Ij] at J;cases J
     obtain⟨hc,hb⟩:=Ii y ac V.out.1;have e0:((y:Int)==0)=false:=by simp;omega
     have e1:((y:Int) != 0)=true:=by simp;omega
     by_cases U:(gW (aA B ps) (64*k)++G.map (64*k+·)).length=n
     ·have HM:Hid (tF w ((aZ (aA B ps)).take n) (.returned u5) wr):=by
       show tF _ _ _ _;obtain⟨-,h2,h3⟩:=V.out;obtain⟨r,hr⟩:=GM (aA B ps) (64*(k+1)) 256 (by omega);have e:aZ (aA B ps)=gW (aA B ps) 256:=rfl;rw[wY tu.out,h2,eX] at hr;rw[e,hr,<-ba (gW (aA B ps) (64*k)),ba,List.take_left' U];exact h3.made
      obtain⟨a,cap,rfl,q1,q2⟩:=iV V.out.2.2.1;rw[U] at HM ⊢;clear V J hb hc ac;go_wp2_with fail;rw[Exit.noGoto_ret];go_ret;exact HM.out
     ·obtain⟨f1,f2,⟨f3,f4,f5,f6⟩⟩:=V.out
      have ay:=au (aen y f1 ac wr (HT.out.keep f4));obtain⟨wX,QN⟩:=V5 y f1 ac;have EI:=au QN;have ah:(gW (aA B ps) (64*k)++G.map (64*k+·)).length+1<=n:=by omega
      have tG:Hid (yt (Ik (aA B ps) k)=(G++[Lib.ctz 64 y])++yt (y &&& (y-1))):=by
       show _=_;rw[f2,hb,ba];rfl
      have ax:Hid (g2=(yt (y &&& (y-1))).length):=by
       show _=_;rw[hb,bQ] at J;omega
      have ar:Hid (gW (aA B ps) (64*k)++(G++[Lib.ctz 64 y]).map (64*k+·)=(gW (aA B ps) (64*k)++G.map (64*k+·))++[64*k+Lib.ctz 64 y]):=by
       show _=_;rw[eX,ba];rfl
      obtain⟨a,cap,rfl,q1,q2⟩:=iV f3;have af:=au f3;have iZ:=au f4;have aG:=f4.size;clear f1 f2 f3 f4 f5 f6 V J hb QN;generalize gW (aA B ps) (64*k)++G.map (64*k+·)=L at *;generalize y &&& (y-1)=z at *;generalize Lib.ctz 64 y=c at *;have HI:Hid (dE (L++[64*k+c])=dE L++[.int .i64 ((k:Int)*64+(c:Int))]):=by
       show _=_;rw[sG];have :((64*k+c:Nat):Int)=(k:Int)*64+(c:Int):=by omega
       simp only[dE,List.map_cons,List.map_nil,this]
      have EJ:Hid ((L++[64*k+c]).length=L.length+1):=by show _=_;simp
      have ag:(k:Int)<4:=by omega
      have dt:(0:Int)<=(k:Int):=by omega
      have aH:(0:Int)<=(c:Int):=by omega
      have aJ:(c:Int)<64:=by omega
      generalize L.length=q at *;have e2:(q==n)=false:=by simpa using U
      have e3:((q:Int)==(n:Int))=false:=by simp;omega
      go_wp2_with fail;refine ay.out.mono ?_;rintro e w' ⟨rfl,rfl⟩;go_wp2_with(at_builtin;refine dO _ rfl _ _ 141 rfl w.heap.size 3 i0 (.int .i64 0) 1 8 underlying141 hi aj aD aF rfl (by decide) (.slice a q cap) q _ rfl (af.out.alloc _) ⟨wr.heap.size,0,none⟩ 1 1 [.int .i64 ((k:Int)*64+(c:Int))] rfl rfl ?c1 ?c2 (by unfold maxLen;omega) (by omega) (by simp;omega) ?_);case c1=>exact jP _ [_] _ _ rfl
      case c2=>simp[Value.oneCell']
      intro v' w1 W aa ae;have Dv:=au W;have iU:=au ((iZ.out.alloc _).grown aa (cZ af.out));have av:Hid (v'≠.slice none 0 0):=ae;clear W aa ae;go_wp2_with fail;go_roundg g2;case measure=>omega
      case rel=>
       refine⟨z,G++[c],ax.out,rfl,EI.out,tG.out,?_⟩;rw[ar.out];refine⟨?_,iU.out,by rw[EJ.out];exact ah,av.out⟩;rw[HI.out,EJ.out];exact Dv.out
def lq (w:World) (v:Value) (g:Nat) (own:List Nat):Prop:=w.ownsRow g 3 1 v own.length (dE own)/\∀k,v.ownBlock=some k->k=g
theorem lq.reads(h:lq w v g own):Reads w v g (dE own):=by
 obtain⟨V,h2⟩:=h;obtain⟨h0,h5⟩:=V;rcases h5 with ⟨rfl,h6⟩|⟨U,cap,G,rfl,hg,hh,z,h8,W,J⟩
 ·have z:dE own=[]:=bg (by rw[fI];exact h6)
  exact⟨none,0,by rw[z];rfl,by simp[z],by simp[maxLen],λh=>absurd z h⟩
 ·obtain rfl:=h2 U rfl
  have :=fp.reads (w:=w) (g:=U) ⟨h0,_,cap,rfl,z,h8,λ_=>⟨rfl,G,hh,W,J⟩⟩;exact this
theorem lq.keep(h:lq w v g own){l:List Nat}(G:az l w w')(J:g∉l):lq w' v g own:=
 ⟨dB h.1 G λk z=>by rw[h.2 k z];exact J,h.2⟩
theorem lq.nil(w:World)(g:Nat):lq w (.slice none 0 0) g []:=⟨⟨rfl,.inl ⟨rfl,rfl⟩⟩,λk h=>by cases h⟩
theorem lq.of_row(h:w.ownsRow z 3 1 v own.length (dE own)):∃g,lq w v g own/\z<=g:=by
 obtain⟨W,h5⟩:=h;rcases h5 with ⟨rfl,h6⟩|⟨V,cap,J,rfl,hg,hh,h7,h8,h9,U⟩
 ·exact⟨z,⟨⟨W,.inl ⟨rfl,h6⟩⟩,λk G=>by cases G⟩,aI _⟩
 ·exact⟨V,⟨⟨W,.inr ⟨V,cap,J,rfl,aI _,hh,h7,h8,h9,U⟩⟩,λk G=>by cases G;rfl⟩,hg⟩
theorem lq.away(h:lq w v g own)(U:G<=g){l:List Nat}(J:az l w w')(hl:∀x∈l,w.heap.size<=x):∃z,lq w' v z own/\G<=z:=by
 have h1:=h.1;obtain⟨h0,h5⟩:=h1;rcases h5 with ⟨rfl,W⟩|⟨z,cap,V,rfl,hg,hh,h7,h8,h9,ac⟩
 ·exact⟨G,⟨⟨h0,.inl ⟨rfl,W⟩⟩,λk J=>by cases J⟩,aI _⟩
 ·obtain rfl:=h.2 z rfl
  have aa:z<w.heap.size:=(Array.getElem?_eq_some_iff.1 hh).1;exact⟨z,h.keep J (λhm=>by have :=hl _ hm;omega),U⟩
variable {P:Program} {n:Nat} {r:Option Nat} {ops:Array Oper} {Q:Exit->Act->World->Prop}
theorem EK{a:Act}{z:Result Next}(h:o.upon P a next Q z):o.uponIn { Fence.wide with round:=r } n P a next Q z:=by
 unfold Oper.upon at h;split at h<;>unfold Oper.uponIn<;>simp only
 ·exact h
 ·exact h
 ·exact h
 ·exact⟨λh=>(by cases h),callsIn_wide.2 h⟩
 ·refine⟨λh=>(by cases h),λc cs _=> ?_⟩
  obtain⟨v,w',G,J⟩:=h c cs;exact⟨v,w',G,stepsIn_wide.2 J⟩
 ·exact h
 ·exact h.elim
theorem uU{a:Act}(z:∀c,o.op≠.defer c)(h:o.wp P a w next Q):o.wpIn { Fence.wide with round:=r } n P a w next Q:=by
 refine⟨λ_ _=>trivial,?_⟩;rw[Oper.semAt_eq _ _ _ z];exact EK h
theorem Sr{K G:Act->World->Prop}(J:¬LetsOut Q)(U:∀(i:Nat) (o:Oper),ops[i]? =some o->∀c,o.op≠.defer c)(z:∀a w,K a w->G a w){i:Nat}{a:Act}{w:World}(h:wpOp P ops Q i K a w):wpOpIn { Fence.wide with round:=r } n P ops Q i G a w:=by
 unfold wpOp at h;unfold wpOpIn;cases ho:ops[i]? with
 |none=>rw[ho] at h;exact z _ _ h
 |some o=>
  rw[ho] at h;simp only at h ⊢;split
  ·rename_i hw
   rw[aC hw] at h;rcases h with h|h
   ·exact Oper.wpIn_mono z (uU (U i o ho) h)
   ·exact absurd h.2 J
  ·rename_i hw
   rw[aB hw] at h;exact⟨λ_ _=>trivial,z _ _ h⟩
theorem OD{md:Region.Mode}(J:¬LetsOut Q)(U:∀(i:Nat) (o:Oper),ops[i]? =some o->∀c,o.op≠.defer c):∀(fuel:Nat) (z:Array Bool) {a:Act} {w:World},wpAny P md ops Q fuel z a w->wpAnyIn { Fence.wide with round:=r } n P md ops Q fuel z a w:=by
 intro fuel;induction fuel with
 |zero=>intro z a w h;exact h
 |succ fuel ih=>
  intro z a w h;exact⟨h.1,λi G=>Sr J U (λa w h=>ih _ h) (h.2 i G)⟩
theorem xc{J:Nat}{a:Act}(z:P.follows .mixedOrders=true)(G:¬LetsOut Q)(U:∀(i:Nat) (o:Oper),ops[i]? =some o->∀c,o.op≠.defer c)
  (h:wpAny P .any ops Q ops.size (Array.replicate ops.size false) a { w with drawn:=w.drawn+1 }):(Code.region J ops true).wpIn { Fence.wide with round:=r } n P Q a w:=
 wpIn_region_any z (OD G U _ _ h)
theorem KeepsFrom.of_keeps{B:Nat}(h:az l w w')(W:∀k,k∈l->k<w.heap.size->k<B\/∃c T,bh w k c T):KeepsFrom B w w':=by
 refine⟨h.size,λk o hB G V=> ?_⟩;have z:=(Array.getElem?_eq_some_iff.1 G).1;refine(h.block k z λJ=> ?_).trans G;rcases W k J z with h1|⟨c,T,U⟩
 ·omega
 ·rw[U] at G
  cases G;cases V
theorem bh.turn{c:Array Value}{T:Nat}(h:bh w b c T)(J:w.grownBy w' row)(G:∀r,row=some r->∃o:Obj,w.heap[r]? =some o/\o.isCells=false):bh w' b c T:=by
 refine(J.block b h.lt λe=> ?_).trans h;obtain⟨o,z,U⟩:=G b e.symm;rw[h] at z;cases z;cases U
theorem az.turn{z:World}{B:Nat}(h:az l w z)(U:z.grownBy w' row)(G:∀r,row=some r->B<=r)(W:w.heap.size<=B):az l w w':=
 h.trans (l':=row.toList) (az.of_grown U λk J=> .inl (by rw[J];simp)) λx V=> .inr (by have :=G x (by simpa using V);omega)
end Go.Proofs.YtepbpdipenedhaaGreatDoor
