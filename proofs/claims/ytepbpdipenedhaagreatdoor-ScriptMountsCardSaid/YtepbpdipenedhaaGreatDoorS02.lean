/- Lemmas. -/
import Derived.Test.YtepbpdipenedhaaGreatDoorS01
import Derived.BigRegion
import Derived.StillTailTactics
import Derived.Lib.TrailingZeros
import Derived.IntWalk
import Derived.WalkMore
import Derived.RangeFuncWrites
import Derived.RangeFuncLeaves
import Derived.RangeFuncCalls
import Derived.RangeFuncRecord
import Derived.OrdersIn
import Derived.TacticsIn
set_option maxHeartbeats 4000000
set_option maxRecDepth 100000
namespace Go.Proofs.YtepbpdipenedhaaGreatDoor
open Go.Proofs.Tryz
open Go.RowKit
variable{w w':World}{G J K Z a b c d e f g gp h j n x y:Nat}{B X:List Int}{ps qs z:List (Int×Int)}{l own:List Nat}{v:Value}{o:Oper}{next:Act->World->Prop}{row:Option Nat}
theorem jo.setW(h:jo w b G B X z)(i:Nat)(Z:i<3128)(x:Int):jo (w.setCell ⟨b,3128+i,none⟩ (.int .u64 x)) b G B (X.set i x) z:=by
 obtain⟨lb,lx,U,W,y,J⟩:=h;refine⟨lb,by rw[dW];exact lx,U,?_,?_,J⟩
 ·have :=W.set (3128+i) (.int .u64 x)
  rwa[wZ _ lb (by omega)] at this
 ·refine ct y (l:=[b]) ((ay.refl [b] _).setCell (by simp) _) λk V=> ?_
  have :=cz y k V;simp;omega
theorem jo.drew(h:jo w b y B X z):jo w.drew b y B X z:=h.keep ((ay.refl [] w).drew) (by simp) (by simp)
theorem jo.note{z:Nat}{y:List (Int×Int)}(h:jo w b z B X y){k:Nat}(J:k<y.length):
  ∃cap,w.cell? ⟨b,6256,none⟩=some (.slice (some ⟨z,0,none⟩) y.length cap)/\y.length<=cap/\cap<=maxLen/\w.cell? ⟨z,k*2,none⟩=some (.int .i64 (ja y k))/\w.cell? ⟨z,k*2+1,none⟩=some (.int .u64 (nY y k)):=by
 obtain⟨lb,lx,vp,h1,U,V⟩:=h;obtain⟨g,ho,hg⟩:=eQ.of_row U;obtain⟨Z,⟨cap,W,q1,q2⟩,G,-⟩:=ho.cell (by omega);obtain rfl:g=z:=V g (hg (by omega)).2;subst W;refine⟨cap,by rw[h1.cell,qx _ lb lx],q1,q2,?_,?_⟩
 ·rw[G _ (by omega)];exact(mZ y k J).1
 ·rw[G _ (by omega)];exact(mZ y k J).2
theorem jo.slice{y:List (Int×Int)}(h:jo w b J B X y):
  ∃a cap,w.cell? ⟨b,6256,none⟩=some (.slice a y.length cap)/\w.frozen? ⟨b,6256,none⟩=false/\y.length<=cap/\cap<=maxLen:=by
 obtain⟨lb,lx,V,z,G,U⟩:=h;obtain⟨a,cap,rfl,q1,q2⟩:=ic G;exact⟨a,cap,by rw[z.cell,qx _ lb lx],z.frozen _,q1,q2⟩
theorem Hu (y:List (Int×Int))(m:Nat)(h:m<=y.length):(iz y).take (m*2)=iz (y.take m):=by
 have e:iz y=iz (y.take m)++iz (y.drop m):=by rw[<-qf,ey]
 rw[e,List.take_left' (by rw[o5,aI,cA h])]
theorem jo.cut{G:List (Int×Int)}(h:jo w b Z B X G)(m:Nat)(J:m<=G.length){a:Option Addr}{n cap:Nat}(U:w.cell? ⟨b,6256,none⟩=some (.slice a n cap)):
  jo (w.setCell ⟨b,6256,none⟩ (.slice a m cap)) b Z B X (G.take m):=by
 obtain⟨lb,lx,vp,V,h2,h3⟩:=h;rw[V.cell,qx _ lb lx] at U;cases U;refine⟨lb,lx,.slice a m cap,?_,?_,?_⟩
 ·have :=V.set 6256 (.slice a m cap)
  rwa[xa _ lb lx] at this
 ·have y:ay [b] w (w.setCell ⟨b,6256,none⟩ (.slice a m cap)):=(ay.refl [b] _).setCell (by simp) _
  obtain⟨h4,h5⟩:=h2;rw[aI,cA J];refine⟨by rw[o5,aI,cA J],?_⟩;rcases h5 with ⟨e,e'⟩|⟨g,aa,z,e,hg,W,q2,q3,q4,q5⟩
  ·cases e
   obtain rfl:m=0:=by omega
   exact .inl ⟨rfl,rfl⟩
  ·cases e
   refine .inr ⟨g,cap,z,rfl,hg,?_,by omega,q3,q4,?_⟩
   ·rw[<-W]
    exact y.block g (Array.getElem?_eq_some_iff.1 W).1 (by simp;omega)
   ·rw[<-Hu _ _ J,<-q5,List.take_take,cA (by omega)]
 ·intro k y
  cases a with
  |none=>cases y
  |some ad=>exact h3 k y
def Hv (w:World) (b h:Nat) (B:List Int) (ps:List (Int×Int)) (e:Ending) (w':World):Prop:=
 e= .returned (.tuple #[])/\eT w' b h B ps/\ay [b] w w'
theorem NC (h:eT w b gp B ps)(m:Int):
  Calls prog 101 #[.pointer (some ⟨b,0,none⟩),.int .i64 m] w (Hv w b gp B (ps.take (zt m ps.length))):=by
 have AH:=ar h.inp;have X6:Hid (jo w b gp B (az B (ps.take ps.length)) (jn B ps)):=by rw[aW (aG _)];exact h.raw
 obtain⟨a,cap,z,f0,q1,q2⟩:=h.raw.slice;have hm:=QZ m ps.length;have ag:=Eg m ps.length;clear h;rw[o6] at *;unfold maxLen at q2;generalize zt m ps.length=q at *;generalize ac:ps.length=n at *;have U:=ar ac;clear ac;have V:Hid ((jn B ps).length=n):=by rw[<-U.out];exact o6 B ps
 have aj:(m<0/\q=0)\/(0<=m/\m<=(n:Int)/\m=(q:Int))\/((n:Int)<m/\0<=m/\q=n):=by omega
 clear ag;rcases aj with ⟨k1,rfl⟩|⟨k1,k2,rfl⟩|⟨k1,k2,rfl⟩
 ·go_enter func101,ntmps101
  go_wp2_with fail;clear z f0;go_loopg [5] (n-0) (λgh s5 wx=>∃k:Nat,k=0+gh/\k<=n/\s5= .int .i64 ((k:Int)-1)/\Hid (jo wx b gp B (az B (ps.take k)) (jn B ps)/\ay [b] w wx))
  case atStart=>exact⟨n,by omega,by omega,rfl,X6.out,ay.refl _ _⟩
  case round=>
   obtain⟨k,hk,af,rfl,J⟩:=hrel;cases gk with
   |zero=>
    obtain rfl:k=0:=by omega
    have Z:¬((0:Int)<=((0:Nat):Int)-1):=by omega
    obtain⟨y,G⟩:=J.out;obtain⟨a,cap,z,f0,q1,q2⟩:=y.slice;have HC:=ar (y.cut 0 (by rw[V.out];omega) z);rw[V.out] at z q1;unfold maxLen at q2;rw[sZ _ _ _ (by rw[U.out];omega)] at HC;have HT:=ar (Bn AH.out 0);have W:=ar G;have b1:(0:Int)<=(n:Int):=by omega
    have b2:(0:Int)<=(cap:Int):=by omega
    clear y G J hk;go_wp2_with fail;go_end0;exact⟨rfl,⟨HC.out,HT.out⟩,W.out.setCell (by simp) _⟩
   |succ g=>
    obtain⟨k,rfl⟩:∃k',k=k'+1:=⟨k-1,by omega⟩;have ek:((k+1:Nat):Int)-1=(k:Int):=by omega
    rw[ek];clear ek;have Z:(0:Int)<=(k:Int):=by omega
    have eo:(0:Int)<=(k:Int):=by omega
    have ai:(k:Int)<(n:Int):=by omega
    obtain⟨y,G⟩:=J.out;obtain⟨ae,z,q1,q2,c1,c2⟩:=y.note (k:=k) (by rw[V.out];omega);obtain⟨e1,e2⟩:=Bo B ps k (by rw[U.out];omega);obtain⟨x0,x1⟩:=wW AH.out (k:=k) (by rw[U.out];omega);have HU:=ar (Hs B ps k (by rw[U.out];omega));rw[e1] at c1;rw[e2] at c2;clear e1 e2;rw[V.out] at z q1;unfold maxLen at q2;generalize ja ps k=x at *;generalize (az B (ps.take k)).getD x.toNat 0=aa at *;obtain⟨j,rfl⟩:=b7 x0;rw[aJ] at HU;have x2:(j:Int)<3128:=x1;have hj:j<3128:=by omega
    have d1:=y.cell1 hj;have d2:wr.frozen? ⟨b,3128+j,none⟩=false:=by obtain⟨lb,lx,vp,h1,h2,h3⟩:=y;exact h1.frozen _
    have HS:=ar (y.drew.setW j hj aa);have W:=ar G;generalize (az B (ps.take (k+1))).getD j 0=ah at *;clear y G J x1;go_wp2_with fail
    go_still_tail 20,(by kernel_rfl)
    go_wp2_with fail;go_roundg g;case measure=>omega
    case rel=>
     refine⟨k,by omega,by omega,by first|rfl|go_num,?_,W.out.drew.setCell (by simp) _⟩;have :=HS.out;rw[HU.out] at this;exact this
 ·go_enter func101,ntmps101
  go_wp2_with fail;clear z f0;go_loopg [5] (n-q) (λgh s5 wx=>∃k:Nat,k=q+gh/\k<=n/\s5= .int .i64 ((k:Int)-1)/\Hid (jo wx b gp B (az B (ps.take k)) (jn B ps)/\ay [b] w wx))
  case atStart=>exact⟨n,by omega,by omega,rfl,X6.out,ay.refl _ _⟩
  case round=>
   obtain⟨k,hk,af,rfl,J⟩:=hrel;cases gk with
   |zero=>
    obtain rfl:q=k:=by omega
    have Z:¬((q:Int)<=(q:Int)-1):=by omega
    obtain⟨y,G⟩:=J.out;obtain⟨a,cap,z,f0,q1,q2⟩:=y.slice;have HC:=ar (y.cut q (by rw[V.out];omega) z);rw[V.out] at z q1;unfold maxLen at q2;rw[sZ _ _ _ (by rw[U.out];omega)] at HC;have HT:=ar (Bn AH.out q);have W:=ar G;have b1:(q:Int)<=(n:Int):=by omega
    have b2:(q:Int)<=(cap:Int):=by omega
    clear y G J hk;go_wp2_with fail;go_end0;exact⟨rfl,⟨HC.out,HT.out⟩,W.out.setCell (by simp) _⟩
   |succ g=>
    obtain⟨k,rfl⟩:∃k',k=k'+1:=⟨k-1,by omega⟩;have ek:((k+1:Nat):Int)-1=(k:Int):=by omega
    rw[ek];clear ek;have Z:(q:Int)<=(k:Int):=by omega
    have eo:(0:Int)<=(k:Int):=by omega
    have ai:(k:Int)<(n:Int):=by omega
    obtain⟨y,G⟩:=J.out;obtain⟨ae,z,q1,q2,c1,c2⟩:=y.note (k:=k) (by rw[V.out];omega);obtain⟨e1,e2⟩:=Bo B ps k (by rw[U.out];omega);obtain⟨x0,x1⟩:=wW AH.out (k:=k) (by rw[U.out];omega);have HU:=ar (Hs B ps k (by rw[U.out];omega));rw[e1] at c1;rw[e2] at c2;clear e1 e2;rw[V.out] at z q1;unfold maxLen at q2;generalize ja ps k=x at *;generalize (az B (ps.take k)).getD x.toNat 0=aa at *;obtain⟨j,rfl⟩:=b7 x0;rw[aJ] at HU;have x2:(j:Int)<3128:=x1;have hj:j<3128:=by omega
    have d1:=y.cell1 hj;have d2:wr.frozen? ⟨b,3128+j,none⟩=false:=by obtain⟨lb,lx,vp,h1,h2,h3⟩:=y;exact h1.frozen _
    have HS:=ar (y.drew.setW j hj aa);have W:=ar G;generalize (az B (ps.take (k+1))).getD j 0=ah at *;clear y G J x1;go_wp2_with fail
    go_still_tail 20,(by kernel_rfl)
    go_wp2_with fail;go_roundg g;case measure=>omega
    case rel=>
     refine⟨k,by omega,by omega,by first|rfl|go_num,?_,W.out.drew.setCell (by simp) _⟩;have :=HS.out;rw[HU.out] at this;exact this
 ·go_enter func101,ntmps101
  go_wp2_with fail;clear z f0;go_loopg [5] (q-q) (λgh s5 wx=>∃k:Nat,k=q+gh/\k<=q/\s5= .int .i64 ((k:Int)-1)/\Hid (jo wx b gp B (az B (ps.take k)) (jn B ps)/\ay [b] w wx))
  case atStart=>exact⟨q,by omega,by omega,rfl,X6.out,ay.refl _ _⟩
  case round=>
   obtain⟨k,hk,af,rfl,J⟩:=hrel;cases gk with
   |zero=>
    obtain rfl:q=k:=by omega
    have Z:¬((q:Int)<=(q:Int)-1):=by omega
    obtain⟨y,G⟩:=J.out;obtain⟨a,cap,z,f0,q1,q2⟩:=y.slice;have HC:=ar (y.cut q (by rw[V.out];omega) z);rw[V.out] at z q1;unfold maxLen at q2;rw[sZ _ _ _ (by rw[U.out];omega)] at HC;have HT:=ar (Bn AH.out q);have W:=ar G;have b1:(q:Int)<=(q:Int):=by omega
    have b2:(q:Int)<=(cap:Int):=by omega
    clear y G J hk;go_wp2_with fail;go_end0;exact⟨rfl,⟨HC.out,HT.out⟩,W.out.setCell (by simp) _⟩
   |succ g=>omega
theorem Ky{V:Nat}{y:List (Int×Int)}(h:jo w b V B X y):
  Calls prog 98 #[.pointer (some ⟨b,0,none⟩)] w λe w'=>e= .returned (.int .i64 (y.length:Int))/\w=w':=by
 obtain⟨lb,lx,U,G,z,J⟩:=h;have W:w.cell? ⟨b,6256,none⟩=some U:=by rw[G.cell,qx _ lb lx]
 obtain⟨a,cap,rfl,q1,q2⟩:=ic z;clear G z J lb lx;generalize y.length=n at *;go_enter func98,ntmps98;go_wp2;go_ret;exact⟨rfl,rfl⟩
theorem ND (h:eT w b y B ps):
  Calls prog 98 #[.pointer (some ⟨b,0,none⟩)] w λe w'=>e= .returned (.int .i64 (ps.length:Int))/\w=w':=by
 have :=Ky h.raw;rw[o6] at this;exact this
end Go.Proofs.YtepbpdipenedhaaGreatDoor
namespace Go.Proofs.YtepbpdipenedhaaGreatDoor
open Go.Proofs.Tryz
variable{w w':World}{G J K Z a b c d e f g gp h j n x y:Nat}{B X:List Int}{ps qs z:List (Int×Int)}{l own:List Nat}{v:Value}{o:Oper}{next:Act->World->Prop}{row:Option Nat}
def ones (n x:Nat):Nat:=((List.range n).filter λj=>x.testBit j).length
def uJ (x:Nat):List Nat:=(List.range 64).filter λj=>x.testBit j
theorem NF (x:Nat):ones 64 x=(uJ x).length:=rfl
theorem mC (b a j:Nat)(h:b<256):(b+256*a).testBit j=if j<8 then b.testBit j else a.testBit (j-8):=by
 have :=Nat.testBit_two_pow_mul_add a (b:=b) (i:=8) (by simpa using h) j;rw[Nat.add_comm];simpa using this
theorem tq (b m a M:Nat)(y:b<256)(z:m<256):(b+256*a) &&& (m+256*M)=(b &&& m)+256*(a &&& M):=by
 apply Nat.eq_of_testBit_eq;intro j;have h:b &&& m<256:=iP Nat.and_le_left y;rw[iU,mC b a j y,mC m M j z,mC _ _ j h];split<;>simp
theorem ig (p:Nat->Bool)(m n:Nat):(List.range (m+n)).filter p=(List.range m).filter p++((List.range n).filter λj=>p (m+j)).map (m+·):=by
 rw[List.range_add,fM,List.filter_map];rfl
theorem mb (n b a:Nat)(h:b<256):ones (8+n) (b+256*a)=ones 8 b+ones n a:=by
 unfold ones;rw[ig,aD,bG]
 congr 1
 ·congr 1
  apply gF;intro j y;rw[bP] at y;rw[mC b a j h,aB y]
 ·congr 1
  apply gF;intro j _;rw[mC b a _ h,aA (by omega),cO]
def rep (m:Nat):Nat->Nat
 |0=>0
 |n+1=>m+256*rep m n
def q1 (b:Nat):Nat:=(b/2 &&& 85)+(b &&& 85)
def q2 (b:Nat):Nat:=(b/4 &&& 51)+(b &&& 51)
def q3 (b:Nat):Nat:=(b/16+b)%16
def st1 (n x:Nat):Nat:=(x/2 &&& rep 85 n)+(x &&& rep 85 n)
def st2 (n x:Nat):Nat:=(x/4 &&& rep 51 n)+(x &&& rep 51 n)
def X7 (n x:Nat):Nat:=(x/16+x) &&& rep 15 n
theorem Q4:∀b:Fin 256,∀c:Fin 2,(b.val/2+128*c.val) &&& 85=b.val/2 &&& 85:=by decide+kernel
theorem Q5:∀b:Fin 256,∀c:Fin 4,(b.val/4+64*c.val) &&& 51=b.val/4 &&& 51:=by decide+kernel
theorem zw:∀b:Fin 256,q1 b.val<256/\q2 (q1 b.val)<256/\q2 (q1 b.val)/16<=4/\q2 (q1 b.val)%16<=4/\q3 (q2 (q1 b.val))=ones 8 b.val/\ones 8 b.val<=8:=by decide+kernel
theorem nH (n b a:Nat)(h:b<256):st1 (n+1) (b+256*a)=q1 b+256*st1 n a:=by
 unfold st1 q1;have e:(b+256*a)/2=(b/2+128*(a%2))+256*(a/2):=by omega
 have c:=Q4 ⟨b,h⟩ ⟨a%2,by omega⟩;simp only at c;rw[e,rep,tq _ _ _ _ (by omega) (by omega),tq _ _ _ _ h (by omega),c];omega
theorem nI (n b a:Nat)(h:b<256):st2 (n+1) (b+256*a)=q2 b+256*st2 n a:=by
 unfold st2 q2;have e:(b+256*a)/4=(b/4+64*(a%4))+256*(a/4):=by omega
 have c:=Q5 ⟨b,h⟩ ⟨a%4,by omega⟩;simp only at c;rw[e,rep,tq _ _ _ _ (by omega) (by omega),tq _ _ _ _ h (by omega),c];omega
theorem aax (x:Nat):x &&& 15=x%16:=by
 have :=df x 4;simpa using this
theorem nJ (n b a:Nat)(h:b/16<=4)(y:b%16<=4)(z:a%16<=4):X7 (n+1) (b+256*a)=q3 b+256*X7 n a:=by
 unfold X7 q3;have e:(b+256*a)/16+(b+256*a)=(b/16+b+16*(a%16))+256*(a/16+a):=by omega
 rw[e,rep,tq _ _ _ _ (by omega) (by omega),aax];omega
theorem Q6:st1 0 0=0:=rfl
theorem Q7:st2 0 0=0:=rfl
theorem Q8:X7 0 0=0:=rfl
def FM (a b c d e f g h:Nat):Nat:=a+256*(b+256*(c+256*(d+256*(e+256*(f+256*(g+256*(h+256*0)))))))
theorem NG (x:Nat)(y:x<18446744073709551616):∃a b c d e f g h,(a<256/\b<256/\c<256/\d<256/\e<256/\f<256/\g<256/\h<256)/\x=FM a b c d e f g h:=by
 refine⟨x%256,x/256%256,x/65536%256,x/16777216%256,x/4294967296%256,x/1099511627776%256,x/281474976710656%256,x/72057594037927936,?_,?_⟩
 ·omega
 ·unfold FM;omega
theorem pZ (z:a<256)(h:y<K):a+256*y<256*K:=by omega
theorem p7 (z:a<=68)(h:y<=K):a+256*y<=68+256*K:=by omega
theorem X8 (Z:a<256)(J:b<256)(U:c<256)(z:d<256)(V:e<256)(y:f<256)(W:g<256)(G:h<256):FM a b c d e f g h<18446744073709551616:=
 bt (pZ Z (pZ J (pZ U (pZ z (pZ V (pZ y (pZ W (pZ G (Nat.zero_lt_one))))))))) (by decide)
theorem X9 (Z:a<=68)(J:b<=68)(U:c<=68)(z:d<=68)(V:e<=68)(y:f<=68)(W:g<=68)(G:h<=68):FM a b c d e f g h<=4919131752989213764:=
 cJ (p7 Z (p7 J (p7 U (p7 z (p7 V (p7 y (p7 W (p7 G (aG 0))))))))) (by decide)
theorem UI (Z W V U J f3 G h:Nat)(A6:Z<=8)(B6:W<=8)(C6:V<=8)(D6:U<=8)(E6:J<=8)(F6:f3<=8)(G6:G<=8)(H6:h<=8):∃x4 x5 x6,FM Z W V U J f3 G h+FM Z W V U J f3 G h/256=x4/\x4+x4/65536=x5/\x5+x5/4294967296=x6/\
  x4<9223372036854775808/\x5<9223372036854775808/\x6<9223372036854775808/\x6%128=Z+(W+(V+(U+(J+(f3+(G+(h+0))))))):=by
 refine⟨_,_,_,rfl,rfl,rfl,?_⟩;unfold FM;have k3:(Z+256*(W+256*(V+256*(U+256*(J+256*(f3+256*(G+256*(h+256*0))))))))/256=W+256*(V+256*(U+256*(J+256*(f3+256*(G+256*h))))):=by omega
 rw[k3];clear k3;generalize hy:Z+256*(W+256*(V+256*(U+256*(J+256*(f3+256*(G+256*(h+256*0)))))))+(W+256*(V+256*(U+256*(J+256*(f3+256*(G+256*h))))))=y;have aa:y=(Z+W+256*(W+V))+65536*((V+U+256*(U+J))+65536*((J+f3+256*(f3+G))+65536*(G+h+256*h))):=by omega
 clear hy;have k4:y/65536=(V+U+256*(U+J))+65536*((J+f3+256*(f3+G))+65536*(G+h+256*h)):=by omega
 rw[k4];subst aa;clear k4;generalize hz:Z+W+256*(W+V)+65536*(V+U+256*(U+J)+65536*(J+f3+256*(f3+G)+65536*(G+h+256*h)))+(V+U+256*(U+J)+65536*(J+f3+256*(f3+G)+65536*(G+h+256*h)))=z;have ac:z=(Z+W+V+U+256*(W+V+U+J)+65536*(V+U+J+f3+256*(U+J+f3+G)))+4294967296*((J+f3+G+h)+256*(f3+G+h)+65536*(G+h+256*h)):=by omega
 clear hz;have k5:z/4294967296=(J+f3+G+h)+256*(f3+G+h)+65536*(G+h+256*h):=by omega
 rw[k5];refine⟨by omega,by omega,by omega,?_⟩;omega
theorem Hw (x:Nat)(hx:x<18446744073709551616):∃x1 Z x3 U V W,st1 8 x=x1/\st2 8 x1=Z/\X7 8 Z=x3/\x3+x3/256=U/\U+U/65536=V/\V+V/4294967296=W/\
  x1<18446744073709551616/\Z<18446744073709551616/\Z/16+Z<18446744073709551616/\x3<18446744073709551616/\U<9223372036854775808/\V<9223372036854775808/\W<9223372036854775808/\W%128=ones 64 x:=by
 obtain⟨a,b,c,d,e,f,g,h,⟨ha,hb,hc,hd,he,hf,hg,hh⟩,rfl⟩:=NG x hx;have A:=zw ⟨a,ha⟩;have B:=zw ⟨b,hb⟩;have C:=zw ⟨c,hc⟩;have D:=zw ⟨d,hd⟩;have E:=zw ⟨e,he⟩;have F:=zw ⟨f,hf⟩;have G:=zw ⟨g,hg⟩;have H:=zw ⟨h,hh⟩;simp only at A B C D E F G H;have z:st1 8 (FM a b c d e f g h)=FM (q1 a) (q1 b) (q1 c) (q1 d) (q1 e) (q1 f) (q1 g) (q1 h):=by
  unfold FM;rw[nH _ _ _ ha,nH _ _ _ hb,nH _ _ _ hc,nH _ _ _ hd,nH _ _ _ he,nH _ _ _ hf,nH _ _ _ hg,nH _ _ _ hh,Q6]
 have y:st2 8 (FM (q1 a) (q1 b) (q1 c) (q1 d) (q1 e) (q1 f) (q1 g) (q1 h))=FM (q2 (q1 a)) (q2 (q1 b)) (q2 (q1 c)) (q2 (q1 d)) (q2 (q1 e)) (q2 (q1 f)) (q2 (q1 g)) (q2 (q1 h)):=by
  unfold FM;rw[nI _ _ _ A.1,nI _ _ _ B.1,nI _ _ _ C.1,nI _ _ _ D.1,nI _ _ _ E.1,nI _ _ _ F.1,nI _ _ _ G.1,nI _ _ _ H.1,Q7]
 have J:X7 8 (FM (q2 (q1 a)) (q2 (q1 b)) (q2 (q1 c)) (q2 (q1 d)) (q2 (q1 e)) (q2 (q1 f)) (q2 (q1 g)) (q2 (q1 h)))=FM (ones 8 a) (ones 8 b) (ones 8 c) (ones 8 d) (ones 8 e) (ones 8 f) (ones 8 g) (ones 8 h):=by
  unfold FM;rw[nJ _ _ _ A.2.2.1 A.2.2.2.1 (by omega),nJ _ _ _ B.2.2.1 B.2.2.2.1 (by omega),nJ _ _ _ C.2.2.1 C.2.2.2.1 (by omega),nJ _ _ _ D.2.2.1 D.2.2.2.1 (by omega),
   nJ _ _ _ E.2.2.1 E.2.2.2.1 (by omega),nJ _ _ _ F.2.2.1 F.2.2.2.1 (by omega),nJ _ _ _ G.2.2.1 G.2.2.2.1 (by omega),nJ _ _ _ H.2.2.1 H.2.2.2.1 (by omega),Q8,
   A.2.2.2.2.1,B.2.2.2.2.1,C.2.2.2.2.1,D.2.2.2.2.1,E.2.2.2.2.1,F.2.2.2.2.1,G.2.2.2.2.1,H.2.2.2.2.1]
 have ho:ones 64 (FM a b c d e f g h)=ones 8 a+(ones 8 b+(ones 8 c+(ones 8 d+(ones 8 e+(ones 8 f+(ones 8 g+(ones 8 h+0))))))):=by
  unfold FM;rw[show(64:Nat)=8+(8+(8+(8+(8+(8+(8+(8+0))))))) from rfl,mb _ _ _ ha,mb _ _ _ hb,mb _ _ _ hc,mb _ _ _ hd,mb _ _ _ he,mb _ _ _ hf,mb _ _ _ hg,mb _ _ _ hh];rfl
 obtain⟨U,V,W,p4,p5,p6,b4,b5,b6,hm⟩:=UI _ _ _ _ _ _ _ _ A.2.2.2.2.2 B.2.2.2.2.2 C.2.2.2.2.2 D.2.2.2.2.2 E.2.2.2.2.2 F.2.2.2.2.2 G.2.2.2.2.2 H.2.2.2.2.2;have l2:FM (q2 (q1 a)) (q2 (q1 b)) (q2 (q1 c)) (q2 (q1 d)) (q2 (q1 e)) (q2 (q1 f)) (q2 (q1 g)) (q2 (q1 h))<=4919131752989213764:=by
  apply X9
  ·have :=A.2.2.1;have :=A.2.2.2.1;omega
  ·have :=B.2.2.1;have :=B.2.2.2.1;omega
  ·have :=C.2.2.1;have :=C.2.2.2.1;omega
  ·have :=D.2.2.1;have :=D.2.2.2.1;omega
  ·have :=E.2.2.1;have :=E.2.2.2.1;omega
  ·have :=F.2.2.1;have :=F.2.2.2.1;omega
  ·have :=G.2.2.1;have :=G.2.2.2.1;omega
  ·have :=H.2.2.1;have :=H.2.2.2.1;omega
 refine⟨_,_,_,U,V,W,z,y,J,p4,p5,p6,X8 A.1 B.1 C.1 D.1 E.1 F.1 G.1 H.1,?_,?_,?_,b4,b5,b6,?_⟩
 ·clear A B C D E F G H z y J ho p4 p5 p6 hm;omega
 ·clear A B C D E F G H z y J ho p4 p5 p6 hm;omega
 ·clear A B C D E F G H z y J ho p5 p6 hm;omega
 ·rw[ho];exact hm
theorem yt (p q:Nat->Bool)(n c:Nat)(Z:c<n)(G:∀j,j<c->p j=false/\q j=false)(W:p c=true)(U:q c=false)(y:∀j,c<j->p j=q j):
  (List.range n).filter p=c::(List.range n).filter q:=by
 obtain⟨d,rfl⟩:∃d,n=c+(1+d):=⟨n-c-1,by omega⟩;have J:∀r:Nat->Bool,(∀j,j<c->r j=false)->(List.range c).filter r=[]:=by
  intro r V;rw[List.filter_eq_nil_iff];intro j z;rw[bP] at z;simp[V j z]
 rw[ig p,ig q,J p λj h=>(G j h).1,J q λj h=>(G j h).2,ig _ 1 d,ig _ 1 d];have s1:(List.range 1).filter (λj=>p (c+j))=[0]:=by simp[dI,W]
 have s2:(List.range 1).filter (λj=>q (c+j))=[]:=by simp[dI,U]
 have s3:(List.range d).filter (λj=>p (c+(1+j)))=(List.range d).filter (λj=>q (c+(1+j))):=gF λj _=>y _ (by omega)
 rw[s1,s2,s3];simp
theorem se (k m j:Nat):(2^k*m).testBit j=(decide (k<=j)&&m.testBit (j-k)):=by
 rw[Nat.mul_comm,Nat.testBit_mul_two_pow]
theorem Ej (x:Nat)(h0:x≠0)(hx:x<18446744073709551616):Lib.ctz 64 x<64/\uJ x=Lib.ctz 64 x::uJ (x &&& (x-1)):=by
 have U:x<2^64:=hx;obtain⟨m,V,W⟩:=Lib.ctzFrom_spec 64 x (by omega) U;have e:Lib.ctz 64 x=Lib.ctzFrom 64 x:=by simp[Lib.ctz,h0]
 rw[e];refine⟨W,?_⟩;generalize Lib.ctzFrom 64 x=k at *;clear e;have hp:0<2^k:=Nat.two_pow_pos k;have e1:x-1=2^k*(2*m)+(2^k-1):=by
  rw[V,Nat.mul_add,Nat.mul_one];omega
 have t0:∀j,(2^k*(2*m)).testBit j=(decide (k<j)&&m.testBit (j-k-1)):=by
  intro j;rw[se];by_cases h:k<j
  ·obtain⟨d,rfl⟩:∃d,j=k+(d+1):=⟨j-k-1,by omega⟩
   have G:k+(d+1)-k=d+1:=by omega
   rw[G,Nat.testBit_succ,show 2*m/2=m by omega];simp
  ·have :k<=j->(2*m).testBit (j-k)=false:=by
    intro Z;rw[show j-k=0 by omega,Nat.testBit_zero];simp
   by_cases y:k<=j
   ·simp[this y,h]
   ·simp[y,h]
 have J:∀j,x.testBit j=(decide (j=k)||(decide (k<j)&&m.testBit (j-k-1))):=by
  intro j;rw[V,se];by_cases h:k<j
  ·obtain⟨d,rfl⟩:∃d,j=k+(d+1):=⟨j-k-1,by omega⟩
   have G:k+(d+1)-k=d+1:=by omega
   rw[G,Nat.testBit_succ,show(2*m+1)/2=m by omega];simp
  ·by_cases y:k=j
   ·subst y;simp[Nat.testBit_zero]
   ·have z:¬k<=j:=by omega
    have h4:¬j=k:=by omega
    simp[h,z,h4]
 have ty:∀j,(x &&& (x-1)).testBit j=(decide (k<j)&&m.testBit (j-k-1)):=by
  intro j;rw[iU,J,e1,Nat.testBit_two_pow_mul_add _ (by omega)];by_cases h:j<k
  ·have y:¬j=k:=by omega
   have z:¬k<j:=by omega
   simp[y,z]
  ·rw[aA h]
   by_cases y:k<j
   ·obtain⟨d,rfl⟩:∃d,j=k+(d+1):=⟨j-k-1,by omega⟩
    have G:k+(d+1)-k=d+1:=by omega
    rw[G,Nat.testBit_succ,show 2*m/2=m by omega];simp
   ·obtain rfl:j=k:=by omega
    simp[Nat.testBit_zero]
 unfold uJ;refine yt _ _ 64 k W ?_ ?_ ?_ ?_
 ·intro j hj
  rw[J,ty];have y:¬j=k:=by omega
  have z:¬k<j:=by omega
  simp[y,z]
 ·rw[J];simp
 ·rw[ty];simp
 ·intro j hj
  rw[J,ty];have y:¬j=k:=by omega
  simp[y]
theorem Ek:uJ 0=[]:=by simp[uJ]
def In64 (X:List Int):Prop:=∀i,0<=X.getD i 0/\X.getD i 0<18446744073709551616
theorem In64.set(h:In64 X)(i:Nat)(x:Int)(y:0<=x)(z:x<18446744073709551616):In64 (X.set i x):=by
 intro j;rw[aj,eB];split
 ·split
  ·exact⟨y,z⟩
  ·exact⟨by simp,by simp⟩
 ·rw[<-aj];exact h j
theorem In64.put:∀{X:List Int},In64 X->(∀p∈ps,0<=p.2/\p.2<18446744073709551616)->In64 (az X ps):=by
 induction ps with
 |nil=>intro X h _;exact h
 |cons p ps ih=>
  intro X h y;show In64 (az (X.set p.1.toNat p.2) ps);have :=y p (by simp);exact ih (h.set _ _ this.1 this.2) λq z=>y q (by simp[z])
def bw (X:List Int) (k:Nat):Nat:=(X.getD (816+k) 0).toNat
theorem Bt (h:In64 X)(k:Nat):bw X k<18446744073709551616:=by have :=h (816+k);unfold bw;omega
theorem UJ (h:In64 X)(k:Nat):((bw X k:Nat):Int)=X.getD (816+k) 0:=by have :=h (816+k);unfold bw;omega
def dx (X:List Int) (b:Nat):Bool:=(bw X (b/64)).testBit (b%64)
def El (X:List Int) (k:Nat):Nat:=if k=0 then (18446744073709551615-bw X 0) &&& (18446744073709551615-1) else 18446744073709551615-bw X k
theorem nK (x j:Nat)(h:x<18446744073709551616):(18446744073709551615-x).testBit j=(decide (j<64) && !x.testBit j):=by
 have :=Nat.testBit_two_pow_sub_succ (x:=x) (n:=64) h j;rw[<-this]
 congr 1
 show _=18446744073709551616-(x+1);omega
theorem Q9 (X:List Int)(k:Nat):El X k<18446744073709551616:=by
 unfold El;split
 ·have :(18446744073709551615-bw X 0) &&& (18446744073709551615-1)<=18446744073709551615-bw X 0:=Nat.and_le_left
  omega
 ·omega
theorem Hx (h:In64 X)(k j:Nat):(El X k).testBit j=(decide (j<64) && !(bw X k).testBit j && !(decide (k=0)&&decide (j=0))):=by
 unfold El;split
 ·rename_i hk
  subst hk;rw[iU,nK _ _ (Bt h 0),nK _ _ (by omega),show(1:Nat)=2^0 from rfl,Nat.testBit_two_pow];by_cases y:j<64<;>by_cases z:j=0<;>simp[y,z]<;>(intro;omega)
 ·rename_i hk
  rw[nK _ _ (Bt h k)];simp[hk]
def fG (X:List Int) (n:Nat):List Nat:=(List.range n).filter λb=>b != 0 && !dx X b
def bp (X:List Int):List Nat:=fG X 256
theorem tu (h:In64 X)(k:Nat):fG X (64*(k+1))=fG X (64*k)++(uJ (El X k)).map (64*k+·):=by
 unfold fG uJ;rw[show 64*(k+1)=64*k+64 by omega,ig]
 congr 2
 apply gF;intro j G;rw[bP] at G;rw[Hx h,dx,show(64*k+j)/64=k by omega,show(64*k+j)%64=j by omega];by_cases z:k=0<;>by_cases y:j=0
 ·subst z;subst y;simp
 ·simp[z,y,G]
 ·have J:¬(64*k=0):=by omega
  simp[z,y,J]
 ·have :¬(64*k+j=0):=by omega
  simp[z,y,G]
theorem ka:b∈fG X n↔b<n/\b≠0/\dx X b=false:=by
 unfold fG;rw[List.mem_filter,bP];simp
theorem oD (X:List Int)(n:Nat):(fG X n).Nodup:=List.Pairwise.filter _ List.nodup_range
theorem yu (X:List Int):(bp X).length<=255:=by
 unfold bp fG;rw[show(256:Nat)=1+255 from rfl,ig,aD];have y:((List.range 1).filter λb=>b != 0 && !dx X b).length=0:=by simp[dI]
 have h:=fH (λj=>(1+j) != 0 && !dx X (1+j)) (List.range 255);rw[bG,y];simp only[eX] at h;omega
theorem Kz (h:In64 X)(k:Nat):(fG X (64*(k+1))).length=(fG X (64*k)).length+ones 64 (El X k):=by
 rw[tu h,aD,bG,NF]
def setW (x j:Nat) (u:Bool):Nat:=if u=true then (x &&& (18446744073709551615-2^j)) ||| 2^j else x &&& (18446744073709551615-2^j)
theorem Bu (h:j<64):2^j<18446744073709551616:=bt (Nat.pow_lt_pow_right (by decide) h) (by decide)
theorem UK (z:x<18446744073709551616)(y:j<64)(u:Bool):setW x j u<18446744073709551616:=by
 have h:x &&& (18446744073709551615-2^j)<2^64:=iP Nat.and_le_left z;unfold setW;split
 ·exact Nat.or_lt_two_pow h (Bu y)
 ·exact h
theorem FN (J:x<18446744073709551616)(U:j<64)(u:Bool)(i:Nat):(setW x j u).testBit i=if i=j then u else x.testBit i:=by
 have z:¬i<64->x.testBit i=false:=by
  intro h;apply Nat.testBit_lt_two_pow;exact bt J (Nat.pow_le_pow_right (n:=2) (i:=64) (by decide) (by omega))
 have G:(x &&& (18446744073709551615-2^j)).testBit i=(x.testBit i && !decide (i=j)):=by
  rw[iU,nK _ _ (Bu U),Nat.testBit_two_pow];by_cases h:i<64
  ·by_cases y:i=j
   ·simp[y]
   ·have :¬j=i:=λe=>y e.symm
    simp[h,y,this]
  ·simp[z h]
 unfold setW;split
 ·rename_i hu
  rw[Nat.testBit_or,G,Nat.testBit_two_pow,hu];by_cases y:i=j
  ·simp[y]
  ·have :¬j=i:=λe=>y e.symm
   simp[y,this]
 ·rename_i hu
  rw[G];have :u=false:=by simpa using hu
  subst this;by_cases y:i=j<;>simp[y]
def dR (X:List Int) (b:Nat) (u:Bool):List (Int×Int):=if b=0\/256<=b then [] else [((816+b/64:Nat),(setW (bw X (b/64)) (b%64) u:Nat))]
theorem Hy (h:In64 X)(b:Nat)(u:Bool):∀p∈dR X b u,0<=p.2/\p.2<18446744073709551616:=by
 intro p y;unfold dR at y;split at y
 ·simp at y
 ·rw[au] at y
  subst y;have :=UK (Bt h (b/64)) (gi b (by decide:0<64)) u;exact⟨by simp,by show((_:Nat):Int)<_;omega⟩
theorem lf (l:List Int)(i j:Nat)(x:Int)(h:i<l.length):(l.set i x).getD j 0=if i=j then x else l.getD j 0:=by
 rw[aj,eB];by_cases e:i=j
 ·subst e;simp[h]
 ·rw[aA e,aA e,aj]
theorem yw (h:In64 X)(U:X.length=3128)(b:Nat)(J:b≠0)(G:b<256)(u:Bool)(c:Nat):dx (az X (dR X b u)) c=if c=b then u else dx X c:=by
 unfold dR;rw[aA (by omega),oY,aJ];unfold dx bw;rw[lf _ _ _ _ (by omega)];by_cases e:816+b/64=816+c/64
 ·rw[aB e,aJ,show(X.getD (816+b/64) 0).toNat=bw X (b/64) from rfl,FN (Bt h (b/64)) (gi b (by decide:0<64))]
  have z:c/64=b/64:=by omega
  rw[z];by_cases y:c=b
  ·rw[aB y,aB (by rw[y])]
  ·rw[aA y,aA (by omega)];rfl
 ·rw[aA e,aA (by intro z;subst z;exact e rfl)]
def lh (b k:Nat):List (Int×Int):=(List.range k).map λ(j:Nat)=>(((1080+b*8+j:Nat):Int),(0:Int))
def gz (b:Nat):List (Int×Int):=lh b 8
theorem FO (b k:Nat):lh b (k+1)=lh b k++[(((1080+b*8+k:Nat):Int),(0:Int))]:=by
 unfold lh;rw[dI,eJ];rfl
theorem zx (b k:Nat):(lh b k).length=k:=by simp[lh]
theorem tv{p:Int×Int}(h:p∈gz b):∃j,j<8/\p=(((1080+b*8+j:Nat):Int),(0:Int)):=by
 unfold gz lh at h;rw[bL] at h;obtain⟨j,y,rfl⟩:=h;exact⟨j,bP.1 y,rfl⟩
theorem Hz (h:∀p∈ps,1080<=p.1)(c:Nat)(z:c<256):dx (az X ps) c=dx X c:=by
 unfold dx bw;rw[iy _ _ _ λp y=>by have :=h p y;omega]
def dE (X:List Int):List Nat->List (Int×Int)
 | []=>[]
 |b::l=>(dR X b true++gz b)++dE (az X (dR X b true++gz b)) l
theorem Ra (h:In64 X)(b:Nat):∀p∈dR X b true++gz b,0<=p.2/\p.2<18446744073709551616:=by
 intro p y;rw[aR] at y;rcases y with y|y
 ·exact Hy h b true p y
 ·obtain⟨j,-,rfl⟩:=tv y
  exact⟨Int.le_refl 0,by show(0:Int)<_;omega⟩
theorem H4 (h:In64 X)(J:X.length=3128)(b:Nat)(G:b≠0)(y:b<256)(c:Nat)(z:c<256):dx (az X (dR X b true++gz b)) c=(dx X c||decide (c=b)):=by
 rw[bJ,Hz (λp U=>by obtain⟨j,-,rfl⟩:=tv U;show(1080:Int)<=((_:Nat):Int);omega) c z,yw h J b G y];by_cases e:c=b<;>simp[e]
theorem Em (X:List Int)(b:Nat)(y:b≠0)(h:b<256)(u:Bool):(dR X b u).length=1:=by
 unfold dR;rw[aA (by omega)];rfl
theorem o8 (l:List Nat):∀X:List Int,(∀b∈l,b≠0/\b<256)->(dE X l).length=9*l.length:=by
 induction l with
 |nil=>intro X _;rfl
 |cons b l ih=>
  intro X h;obtain⟨y,G⟩:=h b (by simp);show((dR X b true++gz b)++dE _ l).length=_;rw[aD,aD,Em X b y G,gz,zx,ih _ λc z=>h c (by simp[z])];simp only[bF];omega
theorem H5 (l:List Nat)(b:Nat):∀X:List Int,dE X (l++[b])=dE X l++(dR (az X (dE X l)) b true++gz b):=by
 induction l with
 |nil=>intro X;show(dR X b true++gz b)++[]=[]++_;rw[bq];rfl
 |cons c l ih=>
  intro X;have e:az X (dE X (c::l))=az (az X (dR X c true++gz c)) (dE (az X (dR X c true++gz c)) l):=bJ _ _ _;rw[e];show(dR X c true++gz c)++dE (az X (dR X c true++gz c)) (l++[b])=((dR X c true++gz c)++dE (az X (dR X c true++gz c)) l)++_;rw[ih,ba (dR X c true++gz c)]
theorem mD (l:List Nat):∀X:List Int,In64 X->X.length=3128->(∀b∈l,b≠0/\b<256)->
  In64 (az X (dE X l))/\(az X (dE X l)).length=3128/\∀c,c<256->dx (az X (dE X l)) c=(dx X c||decide (c∈l)):=by
 induction l with
 |nil=>intro X h z _;exact⟨h,z,λc _=>by simp[dE,az]⟩
 |cons b l ih=>
  intro X h z G;obtain⟨W,h1⟩:=G b (by simp);have J:In64 (az X (dR X b true++gz b)):=h.put (Ra h b);obtain⟨U,Z,V⟩:=ih (az X (dR X b true++gz b)) J (by rw[bY];exact z) λc y=>G c (by simp[y])
  have e:az X (dE X (b::l))=az (az X (dR X b true++gz b)) (dE (az X (dR X b true++gz b)) l):=bJ _ _ _;rw[e];refine⟨U,Z,λc y=> ?_⟩;rw[V c y,H4 h z b W h1 c y];by_cases e1:c=b<;>by_cases e2:c∈l<;>simp[e1,e2]
theorem yx (z:l.Nodup)(n:Nat):l.filter (λc=> !decide (c∈l.take n))=l.drop n:=by
 have V:l.filter (λc=> !decide (c∈l.take n))=(l.take n++l.drop n).filter (λc=> !decide (c∈l.take n)):=by rw[ey]
 rw[V,fM];have G:∀c,c∈l.take n->c∈l.drop n->False:=by
  rw[<-ey n l] at z;intro c J U;exact(List.nodup_append.1 z).2.2 c J c U rfl
 have Z:(l.take n).filter (λc=> !decide (c∈l.take n))=[]:=by
  rw[List.filter_eq_nil_iff];intro c y;simp[y]
 have W:(l.drop n).filter (λc=> !decide (c∈l.take n))=l.drop n:=by
  rw[List.filter_eq_self];intro c y;have :c∉l.take n:=λh=>G c h y
  simp[this]
 rw[Z,W,bT]
theorem KA (h:In64 X)(hl:X.length=3128)(n:Nat):In64 (az X (dE X ((bp X).take n)))/\(az X (dE X ((bp X).take n))).length=3128/\bp (az X (dE X ((bp X).take n)))=(bp X).drop n:=by
 have z:∀b∈(bp X).take n,b≠0/\b<256:=λb Z=>by
  have :=ka.1 (bQ Z);exact⟨this.2.1,this.1⟩
 obtain⟨G,V,U⟩:=mD ((bp X).take n) X h hl z;refine⟨G,V,?_⟩;have W:=yx (oD X 256) n;have e:∀Y,fG Y 256=(List.range 256).filter (λb=>b != 0 && !dx Y b):=λ_=>rfl
 have y:∀c,c<256->dx (az X (dE X (List.take n (fG X 256)))) c=(dx X c||decide (c∈List.take n (fG X 256))):=U;clear U G V z;show fG (az X (dE X (List.take n (fG X 256)))) 256=List.drop n (fG X 256);generalize List.take n (fG X 256)=L at *;rw[<-W,e X,e,List.filter_filter];apply gF;intro c J;rw[bP] at J;rw[y c J];by_cases e1:c∈L<;>simp[e1]
end Go.Proofs.YtepbpdipenedhaaGreatDoor
namespace Go.Proofs.YtepbpdipenedhaaGreatDoor
open Go.Proofs.Tryz
open Go.RowKit
variable{w w':World}{G J K Z a b c d e f g gp h j n x y:Nat}{B X:List Int}{ps qs z:List (Int×Int)}{l own:List Nat}{v:Value}{o:Oper}{next:Act->World->Prop}{row:Option Nat}
def jH (b:Int):Int:=if b<0\/256<=b then -1 else 1080+b*8
theorem jI (b:Int)(w:World):Calls prog 149 #[.int .i64 b] w λe w'=>e= .returned (.int .i64 (jH b))/\w=w':=by
 rcases (show b<0\/256<=b\/(0<=b/\b<256) by omega) with h|h|⟨G,z⟩
 ·rw[jH,aB (.inl h)]
  go_enter func149,ntmps149;go_wp2;go_ret;exact⟨rfl,rfl⟩
 ·rw[jH,aB (.inr h)]
  have y:¬b<0:=by omega
  go_enter func149,ntmps149;go_wp2;go_ret;exact⟨rfl,rfl⟩
 ·rw[jH,aA (by omega)]
  go_enter func149,ntmps149;go_wp2;go_ret;exact⟨rfl,rfl⟩
theorem H9{k:IntKind}{a b:Int}(h:a=b):Ending.returned (.int k a)= .returned (.int k b):=by rw[h]
def Dm (b:Int):Bool:=decide (0<=b)&&decide (b<256)
theorem tz{b:Int}:Dm b=true↔0<=b/\b<256:=by simp[Dm]
theorem xd (i:Int)(w:World):Calls prog 164 #[.int .i64 i] w λe w'=>e= .returned (.bool (Dm i))/\w=w':=by
 by_cases h:0<=i
 ·by_cases y:i<256
  ·rw[tz.2 ⟨h,y⟩]
   go_enter func164,ntmps164;go_wp2;go_ret;exact⟨rfl,rfl⟩
  ·rw[show Dm i=false by simp[Dm];omega]
   go_enter func164,ntmps164;go_wp2;go_ret;exact⟨rfl,rfl⟩
 ·rw[show Dm i=false by simp[Dm];omega]
  go_enter func164,ntmps164;go_wp2;go_ret;exact⟨rfl,rfl⟩
theorem zy (b:Nat)(h:b<256)(w:World):Calls prog 165 #[.int .i64 (b:Int)] w λe w'=>e= .returned (.int .i64 ((816+b/64:Nat):Int))/\w=w':=by
 have y:(0:Int)<=(b:Int):=by omega
 have z:(b:Int)<256:=by omega
 go_enter func165,ntmps165;go_wp2;go_ret;exact⟨H9 (by omega),rfl⟩
def mG (b:Nat):Nat:=2^(b%64)
theorem FP (b:Nat):mG b<18446744073709551616:=Bu (gi _ (by decide))
theorem Rb (b:Nat):IntKind.u64.wrap (2^(b%64))=((mG b:Nat):Int):=by
 have h:=FP b;have e:((2:Int)^(b%64))=((2^(b%64):Nat):Int):=by simp
 rw[fN,e];unfold mG at *;generalize 2^(b%64)=x at *;omega
theorem tA (b:Nat)(h:b<256)(w:World):Calls prog 166 #[.int .i64 (b:Int)] w λe w'=>e= .returned (.int .u64 ((mG b:Nat):Int))/\w=w':=by
 have y:(0:Int)<=(b:Int):=by omega
 have z:(b:Int)<256:=by omega
 have H:=ar (Rb b);go_enter func166,ntmps166;go_wp2;go_ret;exact⟨H9 H.out,rfl⟩
theorem UL (x j:Nat):x &&& 2^j=if x.testBit j=true then 2^j else 0:=by
 apply Nat.eq_of_testBit_eq;intro i;rw[iU,Nat.testBit_two_pow];by_cases e:j=i
 ·subst e
  cases h:x.testBit j<;>simp
 ·cases h:x.testBit j<;>simp[e]
theorem Rc (x b:Nat):(x &&& mG b≠0)↔x.testBit (b%64)=true:=by
 unfold mG;rw[UL];have :=Nat.two_pow_pos (b%64);cases x.testBit (b%64)<;>simp<;>omega
theorem yz (h:In64 (az B ps))(k:Nat)(y:k<2000):Dl B ps ((816+k:Nat):Int)=((bw (az B ps) k:Nat):Int):=by
 unfold Dl;rw[aB (by omega),UJ h,aJ]
theorem NH (x b:Nat):setW x (b%64) false=x &&& (18446744073709551615-mG b)/\setW x (b%64) true=(x &&& (18446744073709551615-mG b)) ||| mG b:=⟨rfl,rfl⟩
theorem Ia{U:Nat}(h:eT w b U B ps)(J:In64 (az B ps))(hn:ps.length<=1000000)(i:Int)(u:Bool):
  Calls prog 142 #[.pointer (some ⟨b,0,none⟩),.int .i64 i,.bool u] w (iY w b U B (ps++dR (az B ps) i.toNat u)):=by
 have Z:=ar (xd i w);by_cases hz:i=0
 ·subst hz
  have V:Hid (iY w b U B (ps++dR (az B ps) (0:Int).toNat u) (.returned (.tuple #[])) w):=by
   show iY _ _ _ _ _ _ _;rw[show dR (az B ps) (0:Int).toNat u=[] by simp[dR],bq];exact⟨rfl,U,.inl rfl,h,ay.refl _ _⟩
  clear h;go_enter func142,ntmps142;go_wp2_with fail;go_end0;exact V.out
 have e0:(i==0)=false:=by simpa using hz
 cases hi:Dm i
 ·rw[hi] at Z
  have V:Hid (iY w b U B (ps++dR (az B ps) i.toNat u) (.returned (.tuple #[])) w):=by
   show iY _ _ _ _ _ _ _;have :¬(0<=i/\i<256):=λe=>by rw[tz.2 e] at hi;cases hi
   rw[show dR (az B ps) i.toNat u=[] by unfold dR;rw[aB (by omega)],bq];exact⟨rfl,U,.inl rfl,h,ay.refl _ _⟩
  clear hi h hz;go_enter func142,ntmps142;go_wp2_with fail;refine Z.out.mono ?_;rintro e w' ⟨rfl,rfl⟩;go_wp2_with fail;go_end0;exact V.out
 ·rw[hi] at Z
  obtain⟨h0,h1⟩:=tz.1 hi;clear hi;obtain⟨j,rfl⟩:=b7 h0;have hj:j<256:=by omega
  have zz:¬(j=0\/256<=j):=by omega
  clear hz;have HB:=ar (zy j hj w);have V:=ar (tA j hj w);have HG:=ar (nE h ((816+j/64:Nat):Int));rw[yz J (j/64) (by omega)] at HG;have hx:=Bt J (j/64);have hm:=FP j;have ha:=u64_andNot_nat (bw (az B ps) (j/64)) (mG j) hx hm;have hy:bw (az B ps) (j/64) &&& (18446744073709551615-mG j)<18446744073709551616:=iP Nat.and_le_left hx;have G:Mw ((816+j/64:Nat):Int)=true:=ru.2 ⟨by omega,by omega⟩;obtain⟨s0,s1⟩:=NH (bw (az B ps) (j/64)) j;cases u
  ·have HP:Hid (Calls prog 48 #[.pointer (some ⟨b,0,none⟩),.int .i64 ((816+j/64:Nat):Int),.int .u64 ((bw (az B ps) (j/64) &&& (18446744073709551615-mG j):Nat):Int)] w (iY w b U B (ps++dR (az B ps) (j:Int).toNat false))):=by
    have :=o7 h hn ((816+j/64:Nat):Int) ((bw (az B ps) (j/64) &&& (18446744073709551615-mG j):Nat):Int);unfold Ae at this;rw[aB G] at this;unfold dR;rw[aJ,aA zz,s0];exact this
   clear h J hn hx hm G s0 s1 zz hy;generalize ps++dR (az B ps) (j:Int).toNat false=qs at *;generalize bw (az B ps) (j/64) &&& (18446744073709551615-mG j)=y at *;generalize bw (az B ps) (j/64)=x at *;generalize mG j=m at *;go_enter func142,ntmps142;go_wp2_with fail;refine Z.out.mono ?_;rintro e w' ⟨rfl,rfl⟩;go_wp2_with fail;refine HB.out.mono ?_;rintro e w' ⟨rfl,rfl⟩;go_wp2_with fail;refine HG.out.mono ?_;rintro e w' ⟨rfl,rfl⟩;go_wp2_with fail;refine V.out.mono ?_;rintro e w' ⟨rfl,rfl⟩;go_wp2_with fail;refine HB.out.mono ?_;rintro e w' ⟨rfl,rfl⟩;go_wp2_with fail;refine HP.out.mono ?_;rintro e w' W;have HQ:=ar W;obtain⟨rfl,-⟩:=W;go_wp2_with fail;go_end0;exact HQ.out
  ·have ho:=u64_or_nat (bw (az B ps) (j/64) &&& (18446744073709551615-mG j)) (mG j) hy hm
   have HP:Hid (Calls prog 48 #[.pointer (some ⟨b,0,none⟩),.int .i64 ((816+j/64:Nat):Int),.int .u64 (((bw (az B ps) (j/64) &&& (18446744073709551615-mG j)) ||| mG j:Nat):Int)] w (iY w b U B (ps++dR (az B ps) (j:Int).toNat true))):=by
    have :=o7 h hn ((816+j/64:Nat):Int) (((bw (az B ps) (j/64) &&& (18446744073709551615-mG j)) ||| mG j:Nat):Int);unfold Ae at this;rw[aB G] at this;unfold dR;rw[aJ,aA zz,s1];exact this
   clear h J hn hx hm G s0 s1 zz hy;generalize ps++dR (az B ps) (j:Int).toNat true=qs at *;generalize (bw (az B ps) (j/64) &&& (18446744073709551615-mG j)) ||| mG j=z at *
   generalize bw (az B ps) (j/64) &&& (18446744073709551615-mG j)=y at *;generalize bw (az B ps) (j/64)=x at *;generalize mG j=m at *;go_enter func142,ntmps142;go_wp2_with fail;refine Z.out.mono ?_;rintro e w' ⟨rfl,rfl⟩;go_wp2_with fail;refine HB.out.mono ?_;rintro e w' ⟨rfl,rfl⟩;go_wp2_with fail;refine HG.out.mono ?_;rintro e w' ⟨rfl,rfl⟩;go_wp2_with fail;refine V.out.mono ?_;rintro e w' ⟨rfl,rfl⟩;go_wp2_with fail;refine V.out.mono ?_;rintro e w' ⟨rfl,rfl⟩;go_wp2_with fail;refine HB.out.mono ?_;rintro e w' ⟨rfl,rfl⟩;go_wp2_with fail;refine HP.out.mono ?_;rintro e w' W;have HQ:=ar W;obtain⟨rfl,-⟩:=W;go_wp2_with fail;go_end0;exact HQ.out
theorem UM (x:Nat)(y:x<18446744073709551616):18446744073709551615 ^^^ x=18446744073709551615-x:=by
 apply Nat.eq_of_testBit_eq;intro j;rw[Nat.testBit_xor,nK x j y,show(18446744073709551615:Nat)=2^64-1 from rfl,Nat.testBit_two_pow_sub_one];by_cases h:j<64
 ·simp[h]
 ·have :x.testBit j=false:=by
   apply Nat.testBit_lt_two_pow;exact bt y (Nat.pow_le_pow_right (n:=2) (i:=64) (by decide) (by omega))
  simp[h,this]
theorem UN (x:Nat)(h:x<18446744073709551616):bits .xor .u64 IntKind.u64.max (x:Int)=((18446744073709551615-x:Nat):Int):=by
 rw[<-UM x h];exact u64_xor_nat 18446744073709551615 x (by decide) h
theorem zA (h:eT w b Z B ps)(z:In64 (az B ps))(k:Nat)(hk:k<4):
  Calls prog 203 #[.pointer (some ⟨b,0,none⟩),.int .i64 (k:Int)] w λe w'=>e= .returned (.int .u64 ((El (az B ps) k:Nat):Int))/\w=w':=by
 have G:=ar (nE h ((816+k:Nat):Int));rw[yz z k (by omega)] at G;have V:=UN _ (Bt z k);have ek:IntKind.i64.wrap (816+(k:Int))=((816+k:Nat):Int):=by rw[dV _ (by omega)];omega
 by_cases U:k=0
 ·subst U
  have W:Hid (Calls prog 166 #[.int .i64 0] w (λe w'=>e= .returned (.int .u64 1)/\w=w')):=tA 0 (by decide) w;have ha:bits .andNot .u64 (((18446744073709551615-bw (az B ps) 0:Nat)):Int) 1=((El (az B ps) 0:Nat):Int):=by
   rw[El,aB rfl];exact u64_andNot_nat (18446744073709551615-bw (az B ps) 0) 1 (by omega) (by decide)
  generalize El (az B ps) 0=f at *;generalize 18446744073709551615-bw (az B ps) 0=y at *;generalize bw (az B ps) 0=x at *;clear h z;go_enter func203,ntmps203;go_wp2_with fail;refine G.out.mono ?_;rintro e w' ⟨rfl,rfl⟩;go_wp2_with fail;refine W.out.mono ?_;rintro e w' ⟨rfl,rfl⟩;go_wp2_with fail;go_ret;exact⟨rfl,rfl⟩
 ·have e0:((k:Int)==0)=false:=by simp;omega
  have J:18446744073709551615-bw (az B ps) k=El (az B ps) k:=by rw[El,aA U]
  rw[J] at V;clear J;generalize El (az B ps) k=f at *;generalize bw (az B ps) k=x at *;clear h z;go_enter func203,ntmps203;go_wp2_with fail;refine G.out.mono ?_;rintro e w' ⟨rfl,rfl⟩;go_wp2_with fail;go_ret;exact⟨rfl,rfl⟩
theorem Ya:rep 85 8=6148914691236517205:=by decide
theorem Yb:rep 51 8=3689348814741910323:=by decide
theorem Yc:rep 15 8=1085102592571150095:=by decide
theorem En (n:Nat)(h:n<18446744073709551616):IntKind.u64.wrap (n:Int)=(n:Int):=by rw[fN];omega
theorem Ib (x d m:Nat)(y:x<18446744073709551616)(h:m<18446744073709551616):bits .and .u64 ((x:Int)/(d:Int)) (m:Int)=((x/d &&& m:Nat):Int):=
 fZ (x/d) m (iP (Nat.div_le_self x d) y) h
theorem i64_and127(x:Nat)(h:x<9223372036854775808):bits .and .i64 (x:Int) 127=((x%128:Nat):Int):=by
 show IntKind.i64.wrap ((BitVec.ofInt 64 (x:Int) &&& BitVec.ofInt 64 127).toNat:Int)=_;have y:BitVec.ofInt 64 127=BitVec.ofNat 64 127:=by decide
 rw[BitVec.toNat_and,ofInt_u64 x (by omega),y,BitVec.toNat_ofNat,show(127%2^64:Nat)=2^7-1 from rfl,df];rw[dV _ (by omega)]
theorem KB (x:Nat)(Z:x<18446744073709551616):∃y h J z G U:Nat,
  IntKind.u64.wrap (bits .and .u64 ((x:Int)/2) 6148914691236517205+bits .and .u64 (x:Int) 6148914691236517205)=(y:Int)/\
  IntKind.u64.wrap (bits .and .u64 ((y:Int)/4) 3689348814741910323+bits .and .u64 (y:Int) 3689348814741910323)=(h:Int)/\
  bits .and .u64 (IntKind.u64.wrap ((h:Int)/16+(h:Int))) 1085102592571150095=(J:Int)/\
  IntKind.u64.wrap ((J:Int)+(J:Int)/256)=(z:Int)/\
  IntKind.u64.wrap ((z:Int)+(z:Int)/65536)=(G:Int)/\
  IntKind.u64.wrap ((G:Int)+(G:Int)/4294967296)=(U:Int)/\
  IntKind.i64.wrap (U:Int)=(U:Int)/\bits .and .i64 (U:Int) 127=((ones 64 x:Nat):Int):=by
 obtain⟨y,h,J,z,G,U,s1,s2,s3,s4,s5,s6,W,b2,V,b3,b4,b5,b6,hm⟩:=Hw x Z;unfold st1 at s1;unfold st2 at s2;unfold X7 at s3;rw[Ya] at s1;rw[Yb] at s2;rw[Yc] at s3;refine⟨y,h,J,z,G,U,?_,?_,?_,?_,?_,?_,?_,?_⟩
 ·rw[show(bits .and .u64 ((x:Int)/2) 6148914691236517205)=_ from Ib x 2 6148914691236517205 Z (by decide),show(bits .and .u64 (x:Int) 6148914691236517205)=_ from fZ x 6148914691236517205 Z (by decide),<-Int.natCast_add,s1]
  exact En _ W
 ·rw[show(bits .and .u64 ((y:Int)/4) 3689348814741910323)=_ from Ib y 4 3689348814741910323 W (by decide),show(bits .and .u64 (y:Int) 3689348814741910323)=_ from fZ y 3689348814741910323 W (by decide),<-Int.natCast_add,s2]
  exact En _ b2
 ·rw[show(h:Int)/16+(h:Int)=((h/16+h:Nat):Int) by omega,En _ V,<-s3]
  exact fZ (h/16+h) 1085102592571150095 V (by decide)
 ·rw[show(J:Int)+(J:Int)/256=((z:Nat):Int) by omega]
  exact En _ (by omega)
 ·rw[show(z:Int)+(z:Int)/65536=((G:Nat):Int) by omega]
  exact En _ (by omega)
 ·rw[show(G:Int)+(G:Int)/4294967296=((U:Nat):Int) by omega]
  exact En _ (by omega)
 ·exact dV _ (by omega)
 ·rw[i64_and127 _ b6,hm]
theorem UO (x:Nat)(h:x<18446744073709551616)(w:World):Calls prog 202 #[.int .u64 (x:Int)] w λe w'=>e= .returned (.int .i64 ((ones 64 x:Nat):Int))/\w=w':=by
 obtain⟨U,V,z,Z,x5,x6,E1,E2,W,E4,y,E6,J,G⟩:=KB x h;generalize ones 64 x=r at *;clear h;go_enter func202,ntmps202;go_wp2;go_ret;exact⟨rfl,rfl⟩
def lC (w:World):Prop:=∀j,j<64->w.cell? ⟨0,j,none⟩=some (.int .u8 ((Lib.deBruijn64tab.getD j 0:Nat):Int))
theorem Yd (x a:Nat)(y:x<18446744073709551616)(z:x≠0)(G:x &&& (18446744073709551616-x)=a):
  IntKind.u64.wrap (bits .and .u64 (x:Int) (IntKind.u64.wrap (-(x:Int)))*285870213051353865)/288230376151711744=((a*285870213051353865%18446744073709551616/288230376151711744:Nat):Int):=by
 have h:IntKind.u64.wrap (-(x:Int))=((18446744073709551616-x:Nat):Int):=by rw[fN];omega
 rw[h,fZ x _ y (by omega),G,fN];omega
theorem UQ (x k h:Nat)(w:World)(G:((x:Int)==0)=false)
  (z:IntKind.u64.wrap (bits .and .u64 (x:Int) (IntKind.u64.wrap (-(x:Int)))*285870213051353865)/288230376151711744=(h:Int))
  (J:h<64) (U:k<64) (y:w.cell? ⟨0,h,none⟩=some (.int .u8 k)):
  Calls prog 204 #[.int .u64 (x:Int)] w λe w'=>e= .returned (.int .i64 (k:Int))/\w=w':=by
 go_enter func204,ntmps204;go_wp2_with(simp only[z]);go_ret;exact⟨rfl,rfl⟩
theorem aay (x:Nat)(G:x<18446744073709551616)(J:x≠0)(w:World)(V:lC w):Calls prog 204 #[.int .u64 (x:Int)] w λe w'=>e= .returned (.int .i64 ((Lib.ctz 64 x:Nat):Int))/\w=w':=by
 obtain⟨W,U⟩:=Lib.lowest_bit 64 x J G;obtain⟨z,y⟩:=Lib.deBruijn64_at _ U;have h:=V _ z;rw[y] at h;exact UQ x _ _ w (by simp;omega) (Yd x _ G J W) z U h
def Onto (w:World) (b y:Nat) (B:List Int) (ps:List (Int×Int)) (w':World):Prop:=
 ∃h,(h=y\/(w.heap.size<=h/\h<w'.heap.size))/\eT w' b h B ps/\ay [b,y] w w'
theorem Onto.refl(h:eT w b y B ps):Onto w b y B ps w:=⟨y,.inl rfl,h,ay.refl _ _⟩
theorem Onto.post(h:Onto w b y B ps w'):iY w b y B ps (.returned (.tuple #[])) w':=⟨rfl,h⟩
theorem Onto.trans{z U:World}(hg:y=G\/(w.heap.size<=y/\y<z.heap.size))(V:ay [b,G] w z)(h:Onto z b y B qs U):Onto w b G B qs U:=by
 obtain⟨xe,h1,W,J⟩:=h;have z1:=V.size;have z2:=J.size;refine⟨xe,by omega,W,V.trans J λx Z=> ?_⟩;simp only[aQ,aS,bD] at Z ⊢;omega
theorem Onto.mono{J z:World}(G:ay [] w J)(Dn:y<w.heap.size)(h:Onto J b y B qs z):Onto w b y B qs z:=by
 obtain⟨Z,h1,U,W⟩:=h;have z1:=G.size;exact⟨Z,by omega,U,(G.mono (by simp)).trans W λx V=> .inl V⟩
theorem Re (ps:List (Int×Int))(c k:Nat)(y:c<256)(h:k<8):Ae (ps++lh c k) ((1080+c*8+k:Nat):Int) 0=ps++lh c (k+1):=by
 unfold Ae;rw[aB (ru.2 ⟨by omega,by omega⟩),FO,ba]
theorem KC (h:eT w b y B ps)(V:ps.length<=999000)(c:Nat)(hc:c<256):
  Calls prog 177 #[.pointer (some ⟨b,0,none⟩),.int .i64 (c:Int)] w (iY w b y B (ps++gz c)):=by
 have HS:=ar h;have W:=ar V;have J:∀w',Hid (Calls prog 149 #[.int .i64 (c:Int)] w' λe z=>e= .returned (.int .i64 ((1080+c*8:Nat):Int))/\w'=z):=λw'=>by
  have :=jI (c:Int) w';rw[show jH (c:Int)=((1080+c*8:Nat):Int) by unfold jH;rw[aA (by omega)];omega] at this;exact this
 clear h V;go_enter func177,ntmps177;go_wp2_with fail;go_loopg [5] 8 (λgh s5 wx=>∃k:Nat,k+gh=8/\s5= .int .i64 (k:Int)/\Hid (Onto w b y B (ps++lh c k) wx))
 case atStart=>exact⟨0,by omega,rfl,by show Onto _ _ _ _ _ _;rw[show lh c 0=[] from rfl,bq];exact Onto.refl HS.out⟩
 case round=>
  obtain⟨k,hk,rfl,G⟩:=hrel;cases gk with
  |zero=>
   obtain rfl:k=8:=by omega
   clear hk;go_wp2_with fail;go_end0;exact Onto.post G.out
  |succ gg=>
   have sX:k<8:=by omega
   have aa:(k:Int)<8:=by omega
   have eo:(0:Int)<=(k:Int):=by omega
   have HP:Hid (∀x:Int,x=((1080+c*8+k:Nat):Int)->Calls prog 48 #[.pointer (some ⟨b,0,none⟩),.int .i64 x,.int .u64 0] wr λe w'=>e= .returned (.tuple #[])/\Hid (Onto w b y B (ps++lh c (k+1)) w')):=by
    intro x hx;subst hx;obtain⟨mf,h1,h2,Z⟩:=G.out;refine(o7 h2 (by rw[aD,zx];have :=W.out;omega) _ 0).mono ?_;rintro e w' ⟨rfl,U⟩;rw[Re ps c k hc sX] at U;exact⟨rfl,Onto.trans h1 Z U⟩
   have HB:=J wr;clear G J;go_wp2_with fail;refine HB.out.mono ?_;rintro e w' ⟨rfl,rfl⟩;go_wp2_with fail;refine(HP.out _ (by omega)).mono ?_;rintro e w' ⟨rfl,HQ⟩;go_wp2_with fail;go_roundg gg;case measure=>omega
   case rel=>exact⟨k+1,by omega,by go_num,HQ⟩
theorem Eo (X:List Int)(n:Nat):(fG X n).length<=n:=by
 unfold fG;have :=fH (λb=>b != 0 && !dx X b) (List.range n);simpa using this
theorem Ep (h:eT w b gp B ps)(y:In64 (az B ps)):
  Calls prog 175 #[.pointer (some ⟨b,0,none⟩)] w λe w'=>e= .returned (.int .i64 (((bp (az B ps)).length:Nat):Int))/\w=w':=by
 have HS:=ar h;have U:=ar y;clear h y;go_enter func175,ntmps175;go_wp2_with fail;go_loop [3,5] (λs3 s5=>∃k:Nat,k<=4/\s5= .int .i64 (k:Int)/\s3= .int .i64 (((fG (az B ps) (64*k)).length:Nat):Int)) (λ_ s5=>4-(intOf s5).toNat)
 case atStart=>exact⟨0,by omega,rfl,rfl⟩
 case round=>
  obtain⟨k,hk,rfl,rfl⟩:=hrel;by_cases z:k<4
  ·have G:(k:Int)<4:=by omega
   have eo:(0:Int)<=(k:Int):=by omega
   have J:=ar (Kz U.out k);have Z:=Eo (az B ps) (64*k);have V:=Eo (az B ps) (64*(k+1));have e:=J.out;have HI:=ar (zA HS.out U.out k z);have HO:=ar (UO (El (az B ps) k) (Q9 (az B ps) k) w);have ho:ones 64 (El (az B ps) k)<=256:=by omega
   rw[e] at V;clear e V;generalize ones 64 (El (az B ps) k)=o at *;generalize W:El (az B ps) k=f at *;clear W;generalize hq:(fG (az B ps) (64*k)).length=q at *;clear hq;go_wp2_with fail;refine HI.out.mono ?_;rintro e w' ⟨rfl,rfl⟩;go_wp2_with fail;refine HO.out.mono ?_;rintro e w' ⟨rfl,rfl⟩;go_wp2_with fail
   go_round
   case rel=>exact⟨k+1,by omega,by go_num,by rw[J.out];go_num⟩
   case measure=>simp[intOf];omega
  ·obtain rfl:k=4:=by omega
   go_wp2_with fail;go_ret;exact⟨rfl,rfl⟩
def cM (l:List Nat):List Value:=l.map λx:Nat=>Value.int .i64 (x:Int)
theorem gD (l:List Nat):(cM l).length=l.length:=by simp[cM]
theorem nL (h:j<l.length):(cM l)[j]? =some (.int .i64 ((l.getD j 0:Nat):Int)):=by simp[cM,h]
theorem tB (l m:List Nat):cM (l++m)=cM l++cM m:=by simp[cM]
theorem Tryz.info_int:(prog.info? 3).map (λi=>(i.zero,i.size,i.bytes))=some (some (.int .i64 0),1,8):=by kernel_rfl
theorem NI (n:Nat)(U:n<=100000)(w:World):(Instr.makeSlice 141 (.int .i64 0) (.int .i64 (n:Int))).run prog w=
  .ok (.slice (some ⟨w.heap.size,0,none⟩) 0 n) (w.alloc (.cells (madeCells #[.int .i64 0] n) 3)):=by
 obtain⟨J,G,h,y,z⟩:=cr Tryz.info_int;have :=run_make (P:= prog) w 141 3 J _ underlying141 G h .i64 .i64 0 (n:Int) (by omega) (by omega) (by rw[z];omega) (by omega);rw[y,aJ,Nat.mul_one] at this;exact this
theorem Dq (X:List Int)(k m:Nat)(h:k<=m):∃r,fG X m=fG X k++r:=by
 obtain⟨d,rfl⟩:∃d,m=k+d:=⟨m-k,by omega⟩;exact⟨_,ig _ k d⟩
theorem NJ (G:y<18446744073709551616)(h:uJ y=[]):y=0:=by
 by_cases z:y=0
 ·exact z
 ·have :=(Ej y z G).2
  rw[h] at this;cases this
def qy (w:World) (l:List Nat) (e:Ending) (w':World):Prop:=
 ∃v g,e= .returned v/\Reads w' v g (cM l)/\w.heap.size<=g/\g<w'.heap.size/\ay [] w w'
def Bv (w:World) (n:Nat) (l:List Nat) (v:Value) (h:World):Prop:=
 h.ownsRow w.heap.size 3 1 v l.length (cM l)/\ay [] w h/\l.length<=n/\v≠.slice none 0 0
theorem Bv.made{G:World}(h:Bv w n l v G):qy w l (.returned v) G:=by
 obtain⟨Z,W,h3,h4⟩:=h;obtain⟨h5,h6⟩:=Z;rcases h6 with ⟨rfl,-⟩|⟨g,cap,y,rfl,hg,U,h7,h8,V,z⟩
 ·exact absurd rfl h4
 ·have J:g<G.heap.size:=(Array.getElem?_eq_some_iff.1 U).1
  exact⟨_,g,rfl,eQ.reads ⟨h5,_,cap,rfl,h7,h8,λ_=>⟨rfl,y,U,V,z⟩⟩,hg,J,W⟩
theorem lC.keep(h:lC w)(G:ay [] w w'):lC w':=λj z=>by
 have y:=h j z;rw[aK (w:=w) (G.block _ (vG y) (by simp))];exact y
theorem Rf (y:Nat)(h:y<18446744073709551616)(z:y≠0):bits .and .u64 (y:Int) (IntKind.u64.wrap ((y:Int)-1))=((y &&& (y-1):Nat):Int)/\y &&& (y-1)<18446744073709551616:=by
 have e:IntKind.u64.wrap ((y:Int)-1)=((y-1:Nat):Int):=by rw[fN];omega
 rw[e];exact⟨fZ y (y-1) h (by omega),iP Nat.and_le_left h⟩
theorem Bw (h:eT w b gp B ps)(ag:In64 (az B ps))(hT:lC w)(n:Nat)(hn:n<=100000):
  Calls prog 176 #[.pointer (some ⟨b,0,none⟩),.int .i64 (n:Int)] w (qy w ((bp (az B ps)).take n)):=by
 obtain⟨i0,hi,ax,aC,aA⟩:=cr Tryz.info_int;have HS:=ar h;have sD:=ar ag;have HT:=ar hT;clear h ag hT;have ah:=NI n hn w;have ak:Hid (Bv w n [] (.slice (some ⟨w.heap.size,0,none⟩) 0 n) (w.alloc (.cells (madeCells #[.int .i64 0] n) 3))):=by
  refine⟨⟨rfl,.inr ⟨w.heap.size,n,madeCells #[.int .i64 0] n,rfl,aG _,bf.new _ _ _,by simp,by unfold maxLen;omega,by simp[madeCells],by simp[cM]⟩⟩,(ay.refl _ _).alloc _,by simp,by simp⟩
 go_enter func176,ntmps176;go_wp2_with fail;go_step3;go_wp2_with fail;go_step3;go_wp2_with fail;clear ah;go_loopg [5,10] 4 (λgh s5 UT wx=>∃k:Nat,k+gh=4/\UT= .int .i64 (k:Int)/\Hid (Bv w n (fG (az B ps) (64*k)) s5 wx))
 case atStart=>exact⟨0,by omega,rfl,ak.out⟩
 case round=>
  obtain⟨k,hk,rfl,U⟩:=hrel;cases gk with
  |zero=>
   obtain rfl:k=4:=by omega
   clear hk;have HM:Hid (qy w ((bp (az B ps)).take n) (.returned u5) wr):=by
    show qy _ _ _ _;have e:bp (az B ps)=fG (az B ps) (64*4):=rfl;rw[e,aW U.out.2.2.1];exact U.out.made
   go_wp2_with fail;rw[iu];go_ret;exact HM.out
  |succ gg=>
   have ai:k<4:=by omega
   have ae:(k:Int)<4:=by omega
   have eo:(0:Int)<=(k:Int):=by omega
   have HF:=ar (zA (HS.out.keep U.out.2.1 (by simp) (by simp)) sD.out k ai);have HY:=ar (Q9 (az B ps) k);go_wp2_with fail;refine HF.out.mono ?_;rintro e w' ⟨rfl,rfl⟩;clear HF;go_wp2_with fail;clear eo ae;go_loopg [5,7] (uJ (El (az B ps) k)).length (λgh s5 s7 wx=>∃(y:Nat) (G:List Nat),gh=(uJ y).length/\s7= .int .u64 (y:Int)/\
    Hid (y<18446744073709551616/\uJ (El (az B ps) k)=G++uJ y/\Bv w n (fG (az B ps) (64*k)++G.map (64*k+·)) s5 wx))
   case atStart=>exact⟨_,[],rfl,rfl,HY.out,rfl,by rw[List.map_nil,bq];exact U.out⟩
   case round=>
    clear U HY;obtain⟨y,G,Ye,rfl,U⟩:=hrel;cases gk with
    |zero=>
     have hy:y=0:=NJ U.out.1 (bc Ye.symm);subst hy;have Ue:Hid (Bv w n (fG (az B ps) (64*(k+1))) u5 wr):=by
      show Bv _ _ _ _ _;obtain⟨-,h2,h3⟩:=U.out;rw[tu sD.out,h2,Ek,bq];exact h3
     clear U Ye;have ae:(k:Int)<4:=by omega
     have eo:(0:Int)<=(k:Int):=by omega
     go_wp2_with fail;go_roundg gg;case measure=>omega
     case rel=>exact⟨k+1,by omega,by go_num,Ue⟩
    |succ g2=>
     have Z:y≠0:=by
      intro e;subst e;rw[Ek] at Ye;cases Ye
     obtain⟨hc,hb⟩:=Ej y Z U.out.1;have e0:((y:Int)==0)=false:=by simp;omega
     have e1:((y:Int) != 0)=true:=by simp;omega
     by_cases J:(fG (az B ps) (64*k)++G.map (64*k+·)).length=n
     ·have HM:Hid (qy w ((bp (az B ps)).take n) (.returned u5) wr):=by
       show qy _ _ _ _;obtain⟨-,h2,h3⟩:=U.out;obtain⟨r,hr⟩:=Dq (az B ps) (64*(k+1)) 256 (by omega);have e:bp (az B ps)=fG (az B ps) 256:=rfl;rw[tu sD.out,h2,eJ] at hr;rw[e,hr,<-ba (fG (az B ps) (64*k)),ba,List.take_left' J];exact h3.made
      obtain⟨a,cap,rfl,q1,q2⟩:=ic U.out.2.2.1;rw[J] at HM ⊢;clear U Ye hb hc Z;go_wp2_with fail;rw[iu];go_ret;exact HM.out
     ·obtain⟨f1,f2,⟨f3,f4,f5,f6⟩⟩:=U.out
      have au:=ar (aay y f1 Z wr (HT.out.keep f4));obtain⟨xc,WW⟩:=Rf y f1 Z;have Rg:=ar WW;have af:(fG (az B ps) (64*k)++G.map (64*k+·)).length+1<=n:=by omega
      have qz:Hid (uJ (El (az B ps) k)=(G++[Lib.ctz 64 y])++uJ (y &&& (y-1))):=by
       show _=_;rw[f2,hb,ba];rfl
      have av:Hid (g2=(uJ (y &&& (y-1))).length):=by
       show _=_;rw[hb,bF] at Ye;omega
      have aj:Hid (fG (az B ps) (64*k)++(G++[Lib.ctz 64 y]).map (64*k+·)=(fG (az B ps) (64*k)++G.map (64*k+·))++[64*k+Lib.ctz 64 y]):=by
       show _=_;rw[eJ,ba];rfl
      obtain⟨a,cap,rfl,q1,q2⟩:=ic f3;have aa:=ar f3;have iA:=ar f4;have aD:=f4.size;clear f1 f2 f3 f4 f5 f6 U Ye hb WW;generalize fG (az B ps) (64*k)++G.map (64*k+·)=L at *;generalize y &&& (y-1)=z at *;generalize Lib.ctz 64 y=c at *;have HI:Hid (cM (L++[64*k+c])=cM L++[.int .i64 ((k:Int)*64+(c:Int))]):=by
       show _=_;rw[tB];have :((64*k+c:Nat):Int)=(k:Int)*64+(c:Int):=by omega
       simp only[cM,List.map_cons,List.map_nil,this]
      have Er:Hid ((L++[64*k+c]).length=L.length+1):=by show _=_;simp
      have ae:(k:Int)<4:=by omega
      have eo:(0:Int)<=(k:Int):=by omega
      have aH:(0:Int)<=(c:Int):=by omega
      have aF:(c:Int)<64:=by omega
      generalize L.length=q at *;have e2:(q==n)=false:=by simpa using J
      have e3:((q:Int)==(n:Int))=false:=by simp;omega
      go_wp2_with fail;refine au.out.mono ?_;rintro e w' ⟨rfl,rfl⟩;go_wp2_with(at_builtin;refine dw _ rfl _ _ 141 rfl w.heap.size 3 i0 (.int .i64 0) 1 8 underlying141 hi ax aC aA rfl (by decide) (.slice a q cap) q _ rfl (aa.out.alloc _) ⟨wr.heap.size,0,none⟩ 1 1 [.int .i64 ((k:Int)*64+(c:Int))] rfl rfl ?c1 ?c2 (by unfold maxLen;omega) (by omega) (by simp;omega) ?_);case c1=>exact iX _ [_] _ _ rfl
      case c2=>simp[Value.oneCell']
      intro v' w1 W V ac;have Ag:=ar W;have jl:=ar ((iA.out.alloc _).grown V (cz aa.out));have aB:Hid (v'≠.slice none 0 0):=ac;clear W V ac;go_wp2_with fail;go_roundg g2;case measure=>omega
      case rel=>
       refine⟨z,G++[c],av.out,rfl,Rg.out,qz.out,?_⟩;rw[aj.out];refine⟨?_,jl.out,by rw[Er.out];exact af,aB.out⟩;rw[HI.out,Er.out];exact Ag.out
def kb (w:World) (v:Value) (g:Nat) (own:List Nat):Prop:=w.ownsRow g 3 1 v own.length (cM own)/\∀k,v.ownBlock=some k->k=g
theorem kb.reads(h:kb w v g own):Reads w v g (cM own):=by
 obtain⟨h1,W⟩:=h;obtain⟨h0,h5⟩:=h1;rcases h5 with ⟨rfl,h6⟩|⟨J,cap,z,rfl,hg,V,y,Z,U,G⟩
 ·have y:cM own=[]:=bc (by rw[gD];exact h6)
  exact⟨none,0,by rw[y];rfl,by simp[y],by simp[maxLen],λh=>absurd y h⟩
 ·obtain rfl:=W J rfl
  have :=eQ.reads (w:=w) (g:=J) ⟨h0,_,cap,rfl,y,Z,λ_=>⟨rfl,z,V,U,G⟩⟩;exact this
theorem kb.keep(h:kb w v g own){l:List Nat}(G:ay l w w')(z:g∉l):kb w' v g own:=
 ⟨ct h.1 G λk y=>by rw[h.2 k y];exact z,h.2⟩
theorem kb.nil(w:World)(g:Nat):kb w (.slice none 0 0) g []:=⟨⟨rfl,.inl ⟨rfl,rfl⟩⟩,λk h=>by cases h⟩
theorem kb.of_row(h:w.ownsRow y 3 1 v own.length (cM own)):∃g,kb w v g own/\y<=g:=by
 obtain⟨U,h5⟩:=h;rcases h5 with ⟨rfl,h6⟩|⟨V,cap,z,rfl,hg,Z,h7,h8,W,G⟩
 ·exact⟨y,⟨⟨U,.inl ⟨rfl,h6⟩⟩,λk J=>by cases J⟩,aG _⟩
 ·exact⟨V,⟨⟨U,.inr ⟨V,cap,z,rfl,aG _,Z,h7,h8,W,G⟩⟩,λk J=>by cases J;rfl⟩,hg⟩
theorem kb.away(h:kb w v g own)(G:J<=g){l:List Nat}(z:ay l w w')(hl:∀x∈l,w.heap.size<=x):∃y,kb w' v y own/\J<=y:=by
 have h1:=h.1;obtain⟨V,W⟩:=h1;rcases W with ⟨rfl,h6⟩|⟨y,cap,U,rfl,hg,hh,h7,h8,h9,Z⟩
 ·exact⟨J,⟨⟨V,.inl ⟨rfl,h6⟩⟩,λk z=>by cases z⟩,aG _⟩
 ·obtain rfl:=h.2 y rfl
  have aa:y<w.heap.size:=(Array.getElem?_eq_some_iff.1 hh).1;exact⟨y,h.keep z (λhm=>by have :=hl _ hm;omega),G⟩
variable {P:Program} {n:Nat} {r:Option Nat} {ops:Array Oper} {Q:Exit->Act->World->Prop}
theorem Bx{a:Act}{y:Result Next}(h:o.upon P a next Q y):o.uponIn { Fence.wide with round:=r } n P a next Q y:=by
 unfold Oper.upon at h;split at h<;>unfold Oper.uponIn<;>simp only
 ·exact h
 ·exact h
 ·exact h
 ·exact⟨λh=>(by cases h),callsIn_wide.2 h⟩
 ·refine⟨λh=>(by cases h),λc cs _=> ?_⟩
  obtain⟨v,w',G,z⟩:=h c cs;exact⟨v,w',G,stepsIn_wide.2 z⟩
 ·exact h
 ·exact h.elim
theorem rz{a:Act}(y:∀c,o.op≠.defer c)(h:o.wp P a w next Q):o.wpIn { Fence.wide with round:=r } n P a w next Q:=by
 refine⟨λ_ _=>trivial,?_⟩;rw[Oper.semAt_eq _ _ _ y];exact Bx h
theorem NK{K z:Act->World->Prop}(J:¬LetsOut Q)(G:∀(i:Nat) (o:Oper),ops[i]? =some o->∀c,o.op≠.defer c)(y:∀a w,K a w->z a w){i:Nat}{a:Act}{w:World}(h:wpOp P ops Q i K a w):wpOpIn { Fence.wide with round:=r } n P ops Q i z a w:=by
 unfold wpOp at h;unfold wpOpIn;cases ho:ops[i]? with
 |none=>rw[ho] at h;exact y _ _ h
 |some o=>
  rw[ho] at h;simp only at h ⊢;split
  ·rename_i hw
   rw[aB hw] at h;rcases h with h|h
   ·exact Oper.wpIn_mono y (rz (G i o ho) h)
   ·exact absurd h.2 J
  ·rename_i hw
   rw[aA hw] at h;exact⟨λ_ _=>trivial,y _ _ h⟩
theorem KD{md:Region.Mode}(J:¬LetsOut Q)(G:∀(i:Nat) (o:Oper),ops[i]? =some o->∀c,o.op≠.defer c):∀(fuel:Nat) (y:Array Bool) {a:Act} {w:World},wpAny P md ops Q fuel y a w->wpAnyIn { Fence.wide with round:=r } n P md ops Q fuel y a w:=by
 intro fuel;induction fuel with
 |zero=>intro y a w h;exact h
 |succ fuel ih=>
  intro y a w h;exact⟨h.1,λi z=>NK J G (λa w h=>ih _ h) (h.2 i z)⟩
theorem tC{a:Act}(z:P.follows .mixedOrders=true)(G:¬LetsOut Q)(y:∀(i:Nat) (o:Oper),ops[i]? =some o->∀c,o.op≠.defer c)
  (h:wpAny P .any ops Q ops.size (Array.replicate ops.size false) a { w with drawn:=w.drawn+1 }):(Code.region J ops true).wpIn { Fence.wide with round:=r } n P Q a w:=
 wpIn_region_any z (KD G y _ _ h)
theorem KeepsFrom.of_keeps{B:Nat}(h:ay l w w')(U:∀k,k∈l->k<w.heap.size->k<B\/∃c T,bf w k c T):KeepsFrom B w w':=by
 refine⟨h.size,λk o W z V=> ?_⟩;have y:=(Array.getElem?_eq_some_iff.1 z).1;refine(h.block k y λJ=> ?_).trans z;rcases U k J y with Z|⟨c,T,G⟩
 ·omega
 ·rw[G] at z
  cases z;cases V
theorem bf.turn{c:Array Value}{T:Nat}(h:bf w b c T)(J:w.grownBy w' row)(G:∀r,row=some r->∃o:Obj,w.heap[r]? =some o/\o.isCells=false):bf w' b c T:=by
 refine(J.block b h.lt λe=> ?_).trans h;obtain⟨o,y,z⟩:=G b e.symm;rw[h] at y;cases y;cases z
theorem ay.turn{y:World}{B:Nat}(h:ay l w y)(U:y.grownBy w' row)(J:∀r,row=some r->B<=r)(V:w.heap.size<=B):ay l w w':=
 h.trans (l':=row.toList) (ay.of_grown U λk G=> .inl (by rw[G];simp)) λx z=> .inr (by have :=J x (by simpa using z);omega)
end Go.Proofs.YtepbpdipenedhaaGreatDoor
