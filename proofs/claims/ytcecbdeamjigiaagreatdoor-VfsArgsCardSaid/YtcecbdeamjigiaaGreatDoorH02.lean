/- Lemmas. -/
import Derived.Test.YtcecbdeamjigiaaGreatDoorH01
import Derived.BigRegion
import Derived.StillTailTactics
import Derived.Lib.TrailingZeros
import Derived.IntWalk
import Derived.WalkMore
import Derived.RangeFuncWrites
import Derived.RangeFuncLeaves
import Derived.RangeFuncCalls
import Derived.RangeFuncRecord
import Derived.OrdersIn
import Derived.TacticsIn
set_option maxHeartbeats 4000000
set_option maxRecDepth 100000
namespace Go.Proofs.YtcecbdeamjigiaaGreatDoor
open Go.RowKit
variable{w w':World}{G J K a b c d e f g gp h j n x y z:Nat}{B X:List Int}{ps qs:List (Int×Int)}{l own:List Nat}{v:Value}{o:Oper}{next:Act->World->Prop}{row:Option Nat}
theorem iW.setW{G:List (Int×Int)}(h:iW w b y B X G)(i:Nat)(Z:i<3128)(x:Int):iW (w.setCell ⟨b,3128+i,none⟩ (.int .u64 x)) b y B (X.set i x) G:=by
 obtain⟨lb,lx,V,J,z,W⟩:=h;refine⟨lb,by rw[cG];exact lx,V,?_,?_,W⟩
 ·have :=J.set (3128+i) (.int .u64 x)
  rwa[wF _ lb (by omega)] at this
 ·refine cO z (l:=[b]) ((ay.refl [b] _).setCell (by simp) _) λk U=> ?_
  have :=cE z k U;simp;omega
theorem iW.drew{z:List (Int×Int)}(h:iW w b y B X z):iW w.drew b y B X z:=h.keep ((ay.refl [] w).drew) (by simp) (by simp)
theorem iW.note{y:List (Int×Int)}(h:iW w b z B X y){k:Nat}(G:k<y.length):
  ∃cap,w.cell? ⟨b,6256,none⟩=some (.slice (some ⟨z,0,none⟩) y.length cap)/\y.length<=cap/\cap<=maxLen/\w.cell? ⟨z,k*2,none⟩=some (.int .i64 (iD y k))/\w.cell? ⟨z,k*2+1,none⟩=some (.int .u64 (nw y k)):=by
 obtain⟨lb,lx,vp,W,U,Z⟩:=h;obtain⟨g,ho,hg⟩:=eE.of_row U;obtain⟨V,⟨cap,hv,q1,q2⟩,J,-⟩:=ho.cell (by omega);obtain rfl:g=z:=Z g (hg (by omega)).2;subst hv;refine⟨cap,by rw[W.cell,pV _ lb lx],q1,q2,?_,?_⟩
 ·rw[J _ (by omega)];exact(mn y k G).1
 ·rw[J _ (by omega)];exact(mn y k G).2
theorem iW.slice{y:List (Int×Int)}(h:iW w b G B X y):
  ∃a cap,w.cell? ⟨b,6256,none⟩=some (.slice a y.length cap)/\w.frozen? ⟨b,6256,none⟩=false/\y.length<=cap/\cap<=maxLen:=by
 obtain⟨lb,lx,U,z,J,V⟩:=h;obtain⟨a,cap,rfl,q1,q2⟩:=gD J;exact⟨a,cap,by rw[z.cell,pV _ lb lx],z.frozen _,q1,q2⟩
theorem He (y:List (Int×Int))(m:Nat)(h:m<=y.length):(gQ y).take (m*2)=gQ (y.take m):=by
 have e:gQ y=gQ (y.take m)++gQ (y.drop m):=by rw[<-pD,dM]
 rw[e,List.take_left' (by rw[ox,aI,cy h])]
theorem iW.cut{z:List (Int×Int)}(h:iW w b gp B X z)(m:Nat)(G:m<=z.length){a:Option Addr}{n cap:Nat}(V:w.cell? ⟨b,6256,none⟩=some (.slice a n cap)):
  iW (w.setCell ⟨b,6256,none⟩ (.slice a m cap)) b gp B X (z.take m):=by
 obtain⟨lb,lx,vp,W,h2,h3⟩:=h;rw[W.cell,pV _ lb lx] at V;cases V;refine⟨lb,lx,.slice a m cap,?_,?_,?_⟩
 ·have :=W.set 6256 (.slice a m cap)
  rwa[wG _ lb lx] at this
 ·have y:ay [b] w (w.setCell ⟨b,6256,none⟩ (.slice a m cap)):=(ay.refl [b] _).setCell (by simp) _
  obtain⟨h4,h5⟩:=h2;rw[aI,cy G];refine⟨by rw[ox,aI,cy G],?_⟩;rcases h5 with ⟨e,e'⟩|⟨g,Z,J,e,hg,U,q2,q3,q4,q5⟩
  ·cases e
   obtain rfl:m=0:=by omega
   exact .inl ⟨rfl,rfl⟩
  ·cases e
   refine .inr ⟨g,cap,J,rfl,hg,?_,by omega,q3,q4,?_⟩
   ·rw[<-U]
    exact y.block g (Array.getElem?_eq_some_iff.1 U).1 (by simp;omega)
   ·rw[<-He _ _ G,<-q5,List.take_take,cy (by omega)]
 ·intro k y
  cases a with
  |none=>cases y
  |some ad=>exact h3 k y
def Hf (w:World) (b h:Nat) (B:List Int) (ps:List (Int×Int)) (e:Ending) (w':World):Prop:=
 e= .returned (.tuple #[])/\eF w' b h B ps/\ay [b] w w'
theorem NC (h:eF w b gp B ps)(m:Int):
  Calls Tryz.prog 99 #[.pointer (some ⟨b,0,none⟩),.int .i64 m] w (Hf w b gp B (ps.take (zb m ps.length))):=by
 have Ay:=ar h.inp;have YA:Hid (iW w b gp B (az B (ps.take ps.length)) (iV B ps)):=by rw[aQ (aG _)];exact h.raw
 obtain⟨a,cap,z,f0,q1,q2⟩:=h.raw.slice;have hm:=Rb m ps.length;have J5:=D9 m ps.length;clear h;rw[oy] at *;unfold maxLen at q2;generalize zb m ps.length=q at *;generalize pn:ps.length=n at *;have V:=ar pn;clear pn;have U:Hid ((iV B ps).length=n):=by rw[<-V.out];exact oy B ps
 have Re:(m<0/\q=0)\/(0<=m/\m<=(n:Int)/\m=(q:Int))\/((n:Int)<m/\0<=m/\q=n):=by omega
 clear J5;rcases Re with ⟨k1,rfl⟩|⟨k1,k2,rfl⟩|⟨k1,k2,rfl⟩
 ·go_enter Tryz.func99,Tryz.ntmps99
  go_wp2_with fail;clear z f0;go_loopg [5] (n-0) (λgh s5 wx=>∃k:Nat,k=0+gh/\k<=n/\s5= .int .i64 ((k:Int)-1)/\Hid (iW wx b gp B (az B (ps.take k)) (iV B ps)/\ay [b] w wx))
  case atStart=>exact⟨n,by omega,by omega,rfl,YA.out,ay.refl _ _⟩
  case round=>
   obtain⟨k,hk,xG,rfl,J⟩:=hrel;cases gk with
   |zero=>
    obtain rfl:k=0:=by omega
    have W:¬((0:Int)<=((0:Nat):Int)-1):=by omega
    obtain⟨y,G⟩:=J.out;obtain⟨a,cap,z,f0,q1,q2⟩:=y.slice;have HC:=ar (y.cut 0 (by rw[U.out];omega) z);rw[U.out] at z q1;unfold maxLen at q2;rw[sO _ _ _ (by rw[V.out];omega)] at HC;have HT:=ar (Be Ay.out 0);have Z:=ar G;have b1:(0:Int)<=(n:Int):=by omega
    have b2:(0:Int)<=(cap:Int):=by omega
    clear y G J hk;go_wp2_with fail;go_end0;exact⟨rfl,⟨HC.out,HT.out⟩,Z.out.setCell (by simp) _⟩
   |succ g=>
    obtain⟨k,rfl⟩:∃k',k=k'+1:=⟨k-1,by omega⟩;have ek:((k+1:Nat):Int)-1=(k:Int):=by omega
    rw[ek];clear ek;have W:(0:Int)<=(k:Int):=by omega
    have ez:(0:Int)<=(k:Int):=by omega
    have dc:(k:Int)<(n:Int):=by omega
    obtain⟨y,G⟩:=J.out;obtain⟨ac,z,q1,q2,c1,c2⟩:=y.note (k:=k) (by rw[U.out];omega);obtain⟨e1,e2⟩:=Bf B ps k (by rw[V.out];omega);obtain⟨x0,x1⟩:=wD Ay.out (k:=k) (by rw[V.out];omega);have HU:=ar (Hc B ps k (by rw[V.out];omega));rw[e1] at c1;rw[e2] at c2;clear e1 e2;rw[U.out] at z q1;unfold maxLen at q2;generalize iD ps k=x at *;generalize (az B (ps.take k)).getD x.toNat 0=aa at *;obtain⟨j,rfl⟩:=cj x0;rw[aH] at HU;have x2:(j:Int)<3128:=x1;have hj:j<3128:=by omega
    have d1:=y.cell1 hj;have d2:wr.frozen? ⟨b,3128+j,none⟩=false:=by obtain⟨lb,lx,vp,h1,h2,h3⟩:=y;exact h1.frozen _
    have HS:=ar (y.drew.setW j hj aa);have Z:=ar G;generalize (az B (ps.take (k+1))).getD j 0=ae at *;clear y G J x1;go_wp2_with fail
    go_still_tail 20,(by kernel_rfl)
    go_wp2_with fail;go_roundg g;case measure=>omega
    case rel=>
     refine⟨k,by omega,by omega,by first|rfl|go_num,?_,Z.out.drew.setCell (by simp) _⟩;have :=HS.out;rw[HU.out] at this;exact this
 ·go_enter Tryz.func99,Tryz.ntmps99
  go_wp2_with fail;clear z f0;go_loopg [5] (n-q) (λgh s5 wx=>∃k:Nat,k=q+gh/\k<=n/\s5= .int .i64 ((k:Int)-1)/\Hid (iW wx b gp B (az B (ps.take k)) (iV B ps)/\ay [b] w wx))
  case atStart=>exact⟨n,by omega,by omega,rfl,YA.out,ay.refl _ _⟩
  case round=>
   obtain⟨k,hk,xG,rfl,J⟩:=hrel;cases gk with
   |zero=>
    obtain rfl:q=k:=by omega
    have W:¬((q:Int)<=(q:Int)-1):=by omega
    obtain⟨y,G⟩:=J.out;obtain⟨a,cap,z,f0,q1,q2⟩:=y.slice;have HC:=ar (y.cut q (by rw[U.out];omega) z);rw[U.out] at z q1;unfold maxLen at q2;rw[sO _ _ _ (by rw[V.out];omega)] at HC;have HT:=ar (Be Ay.out q);have Z:=ar G;have b1:(q:Int)<=(n:Int):=by omega
    have b2:(q:Int)<=(cap:Int):=by omega
    clear y G J hk;go_wp2_with fail;go_end0;exact⟨rfl,⟨HC.out,HT.out⟩,Z.out.setCell (by simp) _⟩
   |succ g=>
    obtain⟨k,rfl⟩:∃k',k=k'+1:=⟨k-1,by omega⟩;have ek:((k+1:Nat):Int)-1=(k:Int):=by omega
    rw[ek];clear ek;have W:(q:Int)<=(k:Int):=by omega
    have ez:(0:Int)<=(k:Int):=by omega
    have dc:(k:Int)<(n:Int):=by omega
    obtain⟨y,G⟩:=J.out;obtain⟨ac,z,q1,q2,c1,c2⟩:=y.note (k:=k) (by rw[U.out];omega);obtain⟨e1,e2⟩:=Bf B ps k (by rw[V.out];omega);obtain⟨x0,x1⟩:=wD Ay.out (k:=k) (by rw[V.out];omega);have HU:=ar (Hc B ps k (by rw[V.out];omega));rw[e1] at c1;rw[e2] at c2;clear e1 e2;rw[U.out] at z q1;unfold maxLen at q2;generalize iD ps k=x at *;generalize (az B (ps.take k)).getD x.toNat 0=aa at *;obtain⟨j,rfl⟩:=cj x0;rw[aH] at HU;have x2:(j:Int)<3128:=x1;have hj:j<3128:=by omega
    have d1:=y.cell1 hj;have d2:wr.frozen? ⟨b,3128+j,none⟩=false:=by obtain⟨lb,lx,vp,h1,h2,h3⟩:=y;exact h1.frozen _
    have HS:=ar (y.drew.setW j hj aa);have Z:=ar G;generalize (az B (ps.take (k+1))).getD j 0=ae at *;clear y G J x1;go_wp2_with fail
    go_still_tail 20,(by kernel_rfl)
    go_wp2_with fail;go_roundg g;case measure=>omega
    case rel=>
     refine⟨k,by omega,by omega,by first|rfl|go_num,?_,Z.out.drew.setCell (by simp) _⟩;have :=HS.out;rw[HU.out] at this;exact this
 ·go_enter Tryz.func99,Tryz.ntmps99
  go_wp2_with fail;clear z f0;go_loopg [5] (q-q) (λgh s5 wx=>∃k:Nat,k=q+gh/\k<=q/\s5= .int .i64 ((k:Int)-1)/\Hid (iW wx b gp B (az B (ps.take k)) (iV B ps)/\ay [b] w wx))
  case atStart=>exact⟨q,by omega,by omega,rfl,YA.out,ay.refl _ _⟩
  case round=>
   obtain⟨k,hk,xG,rfl,J⟩:=hrel;cases gk with
   |zero=>
    obtain rfl:q=k:=by omega
    have W:¬((q:Int)<=(q:Int)-1):=by omega
    obtain⟨y,G⟩:=J.out;obtain⟨a,cap,z,f0,q1,q2⟩:=y.slice;have HC:=ar (y.cut q (by rw[U.out];omega) z);rw[U.out] at z q1;unfold maxLen at q2;rw[sO _ _ _ (by rw[V.out];omega)] at HC;have HT:=ar (Be Ay.out q);have Z:=ar G;have b1:(q:Int)<=(q:Int):=by omega
    have b2:(q:Int)<=(cap:Int):=by omega
    clear y G J hk;go_wp2_with fail;go_end0;exact⟨rfl,⟨HC.out,HT.out⟩,Z.out.setCell (by simp) _⟩
   |succ g=>omega
theorem Kv{y:List (Int×Int)}(h:iW w b J B X y):
  Calls Tryz.prog 96 #[.pointer (some ⟨b,0,none⟩)] w λe w'=>e= .returned (.int .i64 (y.length:Int))/\w=w':=by
 obtain⟨lb,lx,U,G,z,V⟩:=h;have W:w.cell? ⟨b,6256,none⟩=some U:=by rw[G.cell,pV _ lb lx]
 obtain⟨a,cap,rfl,q1,q2⟩:=gD z;clear G z V lb lx;generalize y.length=n at *;go_enter Tryz.func96,Tryz.ntmps96;go_wp2;go_ret;exact⟨rfl,rfl⟩
theorem ND (h:eF w b y B ps):
  Calls Tryz.prog 96 #[.pointer (some ⟨b,0,none⟩)] w λe w'=>e= .returned (.int .i64 (ps.length:Int))/\w=w':=by
 have :=Kv h.raw;rw[oy] at this;exact this
end Go.Proofs.YtcecbdeamjigiaaGreatDoor
namespace Go.Proofs.YtcecbdeamjigiaaGreatDoor
variable{w w':World}{G J K a b c d e f g gp h j n x y z:Nat}{B X:List Int}{ps qs:List (Int×Int)}{l own:List Nat}{v:Value}{o:Oper}{next:Act->World->Prop}{row:Option Nat}
def ones (n x:Nat):Nat:=((List.range n).filter λj=>x.testBit j).length
def uu (x:Nat):List Nat:=(List.range 64).filter λj=>x.testBit j
theorem NF (x:Nat):ones 64 x=(uu x).length:=rfl
theorem lT (b a j:Nat)(h:b<256):(b+256*a).testBit j=if j<8 then b.testBit j else a.testBit (j-8):=by
 have :=Nat.testBit_two_pow_mul_add a (b:=b) (i:=8) (by simpa using h) j;rw[Nat.add_comm];simpa using this
theorem sQ (b m a M:Nat)(y:b<256)(z:m<256):(b+256*a) &&& (m+256*M)=(b &&& m)+256*(a &&& M):=by
 apply Nat.eq_of_testBit_eq;intro j;have h:b &&& m<256:=iw Nat.and_le_left y;rw[Nat.testBit_and,lT b a j y,lT m M j z,lT _ _ j h];split<;>simp[Nat.testBit_and]
theorem gF (p:Nat->Bool)(m n:Nat):(List.range (m+n)).filter p=(List.range m).filter p++((List.range n).filter λj=>p (m+j)).map (m+·):=by
 rw[List.range_add,dV,List.filter_map];rfl
theorem lu (n b a:Nat)(h:b<256):ones (8+n) (b+256*a)=ones 8 b+ones n a:=by
 unfold ones;rw[gF,aF,bJ]
 congr 1
 ·congr 1
  apply fR;intro j y;rw[bS] at y;rw[lT b a j h,aB y]
 ·congr 1
  apply fR;intro j _;rw[lT b a _ h,aA (by omega),cX]
def rep (m:Nat):Nat->Nat
 |0=>0
 |n+1=>m+256*rep m n
def q1 (b:Nat):Nat:=(b/2 &&& 85)+(b &&& 85)
def q2 (b:Nat):Nat:=(b/4 &&& 51)+(b &&& 51)
def q3 (b:Nat):Nat:=(b/16+b)%16
def st1 (n x:Nat):Nat:=(x/2 &&& rep 85 n)+(x &&& rep 85 n)
def st2 (n x:Nat):Nat:=(x/4 &&& rep 51 n)+(x &&& rep 51 n)
def YB (n x:Nat):Nat:=(x/16+x) &&& rep 15 n
theorem Rf:∀b:Fin 256,∀c:Fin 2,(b.val/2+128*c.val) &&& 85=b.val/2 &&& 85:=by decide+kernel
theorem Rg:∀b:Fin 256,∀c:Fin 4,(b.val/4+64*c.val) &&& 51=b.val/4 &&& 51:=by decide+kernel
theorem zf:∀b:Fin 256,q1 b.val<256/\q2 (q1 b.val)<256/\q2 (q1 b.val)/16<=4/\q2 (q1 b.val)%16<=4/\q3 (q2 (q1 b.val))=ones 8 b.val/\ones 8 b.val<=8:=by decide+kernel
theorem mQ (n b a:Nat)(h:b<256):st1 (n+1) (b+256*a)=q1 b+256*st1 n a:=by
 unfold st1 q1;have e:(b+256*a)/2=(b/2+128*(a%2))+256*(a/2):=by omega
 have c:=Rf ⟨b,h⟩ ⟨a%2,by omega⟩;simp only at c;rw[e,rep,sQ _ _ _ _ (by omega) (by omega),sQ _ _ _ _ h (by omega),c];omega
theorem mR (n b a:Nat)(h:b<256):st2 (n+1) (b+256*a)=q2 b+256*st2 n a:=by
 unfold st2 q2;have e:(b+256*a)/4=(b/4+64*(a%4))+256*(a/4):=by omega
 have c:=Rg ⟨b,h⟩ ⟨a%4,by omega⟩;simp only at c;rw[e,rep,sQ _ _ _ _ (by omega) (by omega),sQ _ _ _ _ h (by omega),c];omega
theorem aaU (x:Nat):x &&& 15=x%16:=by
 have :=dp x 4;simpa using this
theorem mS (n b a:Nat)(z:b/16<=4)(y:b%16<=4)(h:a%16<=4):YB (n+1) (b+256*a)=q3 b+256*YB n a:=by
 unfold YB q3;have e:(b+256*a)/16+(b+256*a)=(b/16+b+16*(a%16))+256*(a/16+a):=by omega
 rw[e,rep,sQ _ _ _ _ (by omega) (by omega),aaU];omega
theorem Rh:st1 0 0=0:=rfl
theorem Ri:st2 0 0=0:=rfl
theorem Rj:YB 0 0=0:=rfl
def Fy (a b c d e f g h:Nat):Nat:=a+256*(b+256*(c+256*(d+256*(e+256*(f+256*(g+256*(h+256*0)))))))
theorem NG (x:Nat)(y:x<18446744073709551616):∃a b c d e f g h,(a<256/\b<256/\c<256/\d<256/\e<256/\f<256/\g<256/\h<256)/\x=Fy a b c d e f g h:=by
 refine⟨x%256,x/256%256,x/65536%256,x/16777216%256,x/4294967296%256,x/1099511627776%256,x/281474976710656%256,x/72057594037927936,?_,?_⟩
 ·omega
 ·unfold Fy;omega
theorem po (z:a<256)(h:y<K):a+256*y<256*K:=by omega
theorem pq (z:a<=68)(h:y<=K):a+256*y<=68+256*K:=by omega
theorem YC (J:a<256)(U:b<256)(W:c<256)(z:d<256)(y:e<256)(G:f<256)(Z:g<256)(V:h<256):Fy a b c d e f g h<18446744073709551616:=
 bC (po J (po U (po W (po z (po y (po G (po Z (po V (Nat.zero_lt_one))))))))) (by decide)
theorem YD (J:a<=68)(U:b<=68)(W:c<=68)(z:d<=68)(y:e<=68)(G:f<=68)(Z:g<=68)(V:h<=68):Fy a b c d e f g h<=4919131752989213764:=
 cu (pq J (pq U (pq W (pq z (pq y (pq G (pq Z (pq V (aG 0))))))))) (by decide)
theorem U1 (Z W V U J f3 G h:Nat)(A6:Z<=8)(B6:W<=8)(C6:V<=8)(D6:U<=8)(E6:J<=8)(F6:f3<=8)(G6:G<=8)(H6:h<=8):∃x4 x5 x6,Fy Z W V U J f3 G h+Fy Z W V U J f3 G h/256=x4/\x4+x4/65536=x5/\x5+x5/4294967296=x6/\
  x4<9223372036854775808/\x5<9223372036854775808/\x6<9223372036854775808/\x6%128=Z+(W+(V+(U+(J+(f3+(G+(h+0))))))):=by
 refine⟨_,_,_,rfl,rfl,rfl,?_⟩;unfold Fy;have k3:(Z+256*(W+256*(V+256*(U+256*(J+256*(f3+256*(G+256*(h+256*0))))))))/256=W+256*(V+256*(U+256*(J+256*(f3+256*(G+256*h))))):=by omega
 rw[k3];clear k3;generalize hy:Z+256*(W+256*(V+256*(U+256*(J+256*(f3+256*(G+256*(h+256*0)))))))+(W+256*(V+256*(U+256*(J+256*(f3+256*(G+256*h))))))=y;have aa:y=(Z+W+256*(W+V))+65536*((V+U+256*(U+J))+65536*((J+f3+256*(f3+G))+65536*(G+h+256*h))):=by omega
 clear hy;have k4:y/65536=(V+U+256*(U+J))+65536*((J+f3+256*(f3+G))+65536*(G+h+256*h)):=by omega
 rw[k4];subst aa;clear k4;generalize hz:Z+W+256*(W+V)+65536*(V+U+256*(U+J)+65536*(J+f3+256*(f3+G)+65536*(G+h+256*h)))+(V+U+256*(U+J)+65536*(J+f3+256*(f3+G)+65536*(G+h+256*h)))=z;have ac:z=(Z+W+V+U+256*(W+V+U+J)+65536*(V+U+J+f3+256*(U+J+f3+G)))+4294967296*((J+f3+G+h)+256*(f3+G+h)+65536*(G+h+256*h)):=by omega
 clear hz;have k5:z/4294967296=(J+f3+G+h)+256*(f3+G+h)+65536*(G+h+256*h):=by omega
 rw[k5];refine⟨by omega,by omega,by omega,?_⟩;omega
theorem Hg (x:Nat)(hx:x<18446744073709551616):∃x1 W x3 U V Z,st1 8 x=x1/\st2 8 x1=W/\YB 8 W=x3/\x3+x3/256=U/\U+U/65536=V/\V+V/4294967296=Z/\
  x1<18446744073709551616/\W<18446744073709551616/\W/16+W<18446744073709551616/\x3<18446744073709551616/\U<9223372036854775808/\V<9223372036854775808/\Z<9223372036854775808/\Z%128=ones 64 x:=by
 obtain⟨a,b,c,d,e,f,g,h,⟨ha,hb,hc,hd,he,hf,hg,hh⟩,rfl⟩:=NG x hx;have A:=zf ⟨a,ha⟩;have B:=zf ⟨b,hb⟩;have C:=zf ⟨c,hc⟩;have D:=zf ⟨d,hd⟩;have E:=zf ⟨e,he⟩;have F:=zf ⟨f,hf⟩;have G:=zf ⟨g,hg⟩;have H:=zf ⟨h,hh⟩;simp only at A B C D E F G H;have J:st1 8 (Fy a b c d e f g h)=Fy (q1 a) (q1 b) (q1 c) (q1 d) (q1 e) (q1 f) (q1 g) (q1 h):=by
  unfold Fy;rw[mQ _ _ _ ha,mQ _ _ _ hb,mQ _ _ _ hc,mQ _ _ _ hd,mQ _ _ _ he,mQ _ _ _ hf,mQ _ _ _ hg,mQ _ _ _ hh,Rh]
 have y:st2 8 (Fy (q1 a) (q1 b) (q1 c) (q1 d) (q1 e) (q1 f) (q1 g) (q1 h))=Fy (q2 (q1 a)) (q2 (q1 b)) (q2 (q1 c)) (q2 (q1 d)) (q2 (q1 e)) (q2 (q1 f)) (q2 (q1 g)) (q2 (q1 h)):=by
  unfold Fy;rw[mR _ _ _ A.1,mR _ _ _ B.1,mR _ _ _ C.1,mR _ _ _ D.1,mR _ _ _ E.1,mR _ _ _ F.1,mR _ _ _ G.1,mR _ _ _ H.1,Ri]
 have z:YB 8 (Fy (q2 (q1 a)) (q2 (q1 b)) (q2 (q1 c)) (q2 (q1 d)) (q2 (q1 e)) (q2 (q1 f)) (q2 (q1 g)) (q2 (q1 h)))=Fy (ones 8 a) (ones 8 b) (ones 8 c) (ones 8 d) (ones 8 e) (ones 8 f) (ones 8 g) (ones 8 h):=by
  unfold Fy;rw[mS _ _ _ A.2.2.1 A.2.2.2.1 (by omega),mS _ _ _ B.2.2.1 B.2.2.2.1 (by omega),mS _ _ _ C.2.2.1 C.2.2.2.1 (by omega),mS _ _ _ D.2.2.1 D.2.2.2.1 (by omega),
   mS _ _ _ E.2.2.1 E.2.2.2.1 (by omega),mS _ _ _ F.2.2.1 F.2.2.2.1 (by omega),mS _ _ _ G.2.2.1 G.2.2.2.1 (by omega),mS _ _ _ H.2.2.1 H.2.2.2.1 (by omega),Rj,
   A.2.2.2.2.1,B.2.2.2.2.1,C.2.2.2.2.1,D.2.2.2.2.1,E.2.2.2.2.1,F.2.2.2.2.1,G.2.2.2.2.1,H.2.2.2.2.1]
 have ho:ones 64 (Fy a b c d e f g h)=ones 8 a+(ones 8 b+(ones 8 c+(ones 8 d+(ones 8 e+(ones 8 f+(ones 8 g+(ones 8 h+0))))))):=by
  unfold Fy;rw[show(64:Nat)=8+(8+(8+(8+(8+(8+(8+(8+0))))))) from rfl,lu _ _ _ ha,lu _ _ _ hb,lu _ _ _ hc,lu _ _ _ hd,lu _ _ _ he,lu _ _ _ hf,lu _ _ _ hg,lu _ _ _ hh];rfl
 obtain⟨U,V,Z,p4,p5,p6,b4,b5,b6,hm⟩:=U1 _ _ _ _ _ _ _ _ A.2.2.2.2.2 B.2.2.2.2.2 C.2.2.2.2.2 D.2.2.2.2.2 E.2.2.2.2.2 F.2.2.2.2.2 G.2.2.2.2.2 H.2.2.2.2.2;have l2:Fy (q2 (q1 a)) (q2 (q1 b)) (q2 (q1 c)) (q2 (q1 d)) (q2 (q1 e)) (q2 (q1 f)) (q2 (q1 g)) (q2 (q1 h))<=4919131752989213764:=by
  apply YD
  ·have :=A.2.2.1;have :=A.2.2.2.1;omega
  ·have :=B.2.2.1;have :=B.2.2.2.1;omega
  ·have :=C.2.2.1;have :=C.2.2.2.1;omega
  ·have :=D.2.2.1;have :=D.2.2.2.1;omega
  ·have :=E.2.2.1;have :=E.2.2.2.1;omega
  ·have :=F.2.2.1;have :=F.2.2.2.1;omega
  ·have :=G.2.2.1;have :=G.2.2.2.1;omega
  ·have :=H.2.2.1;have :=H.2.2.2.1;omega
 refine⟨_,_,_,U,V,Z,J,y,z,p4,p5,p6,YC A.1 B.1 C.1 D.1 E.1 F.1 G.1 H.1,?_,?_,?_,b4,b5,b6,?_⟩
 ·clear A B C D E F G H J y z ho p4 p5 p6 hm;omega
 ·clear A B C D E F G H J y z ho p4 p5 p6 hm;omega
 ·clear A B C D E F G H J y z ho p5 p6 hm;omega
 ·rw[ho];exact hm
theorem xW (p q:Nat->Bool)(n c:Nat)(Z:c<n)(G:∀j,j<c->p j=false/\q j=false)(V:p c=true)(W:q c=false)(y:∀j,c<j->p j=q j):
  (List.range n).filter p=c::(List.range n).filter q:=by
 obtain⟨d,rfl⟩:∃d,n=c+(1+d):=⟨n-c-1,by omega⟩;have z:∀r:Nat->Bool,(∀j,j<c->r j=false)->(List.range c).filter r=[]:=by
  intro r U;rw[List.filter_eq_nil_iff];intro j J;rw[bS] at J;simp[U j J]
 rw[gF p,gF q,z p λj h=>(G j h).1,z q λj h=>(G j h).2,gF _ 1 d,gF _ 1 d];have s1:(List.range 1).filter (λj=>p (c+j))=[0]:=by simp[dL,V]
 have s2:(List.range 1).filter (λj=>q (c+j))=[]:=by simp[dL,W]
 have s3:(List.range d).filter (λj=>p (c+(1+j)))=(List.range d).filter (λj=>q (c+(1+j))):=fR λj _=>y _ (by omega)
 rw[s1,s2,s3];simp
theorem rP (k m j:Nat):(2^k*m).testBit j=(decide (k<=j)&&m.testBit (j-k)):=by
 rw[Nat.mul_comm,Nat.testBit_mul_two_pow]
theorem Ec (x:Nat)(Z:x≠0)(hx:x<18446744073709551616):Lib.ctz 64 x<64/\uu x=Lib.ctz 64 x::uu (x &&& (x-1)):=by
 have W:x<2^64:=hx;obtain⟨m,V,U⟩:=Lib.ctzFrom_spec 64 x (by omega) W;have e:Lib.ctz 64 x=Lib.ctzFrom 64 x:=by simp[Lib.ctz,Z]
 rw[e];refine⟨U,?_⟩;generalize Lib.ctzFrom 64 x=k at *;clear e;have hp:0<2^k:=Nat.two_pow_pos k;have e1:x-1=2^k*(2*m)+(2^k-1):=by
  rw[V,Nat.mul_add,jT];omega
 have t0:∀j,(2^k*(2*m)).testBit j=(decide (k<j)&&m.testBit (j-k-1)):=by
  intro j;rw[rP];by_cases h:k<j
  ·obtain⟨d,rfl⟩:∃d,j=k+(d+1):=⟨j-k-1,by omega⟩
   have z:k+(d+1)-k=d+1:=by omega
   rw[z,Nat.testBit_succ,show 2*m/2=m by omega];simp
  ·have :k<=j->(2*m).testBit (j-k)=false:=by
    intro aa;rw[show j-k=0 by omega,Nat.testBit_zero];simp
   by_cases y:k<=j
   ·simp[this y,h]
   ·simp[y,h]
 have J:∀j,x.testBit j=(decide (j=k)||(decide (k<j)&&m.testBit (j-k-1))):=by
  intro j;rw[V,rP];by_cases h:k<j
  ·obtain⟨d,rfl⟩:∃d,j=k+(d+1):=⟨j-k-1,by omega⟩
   have z:k+(d+1)-k=d+1:=by omega
   rw[z,Nat.testBit_succ,show(2*m+1)/2=m by omega];simp
  ·by_cases y:k=j
   ·subst y;simp[Nat.testBit_zero]
   ·have G:¬k<=j:=by omega
    have h4:¬j=k:=by omega
    simp[h,G,h4]
 have ty:∀j,(x &&& (x-1)).testBit j=(decide (k<j)&&m.testBit (j-k-1)):=by
  intro j;rw[Nat.testBit_and,J,e1,Nat.testBit_two_pow_mul_add _ (by omega)];by_cases h:j<k
  ·have y:¬j=k:=by omega
   have G:¬k<j:=by omega
   simp[y,G]
  ·rw[aA h]
   by_cases y:k<j
   ·obtain⟨d,rfl⟩:∃d,j=k+(d+1):=⟨j-k-1,by omega⟩
    have z:k+(d+1)-k=d+1:=by omega
    rw[z,Nat.testBit_succ,show 2*m/2=m by omega];simp
   ·obtain rfl:j=k:=by omega
    simp[Nat.testBit_zero]
 unfold uu;refine xW _ _ 64 k U ?_ ?_ ?_ ?_
 ·intro j hj
  rw[J,ty];have y:¬j=k:=by omega
  have G:¬k<j:=by omega
  simp[y,G]
 ·rw[J];simp
 ·rw[ty];simp
 ·intro j hj
  rw[J,ty];have y:¬j=k:=by omega
  simp[y]
theorem Ed:uu 0=[]:=by simp[uu]
def dD (X:List Int):Prop:=∀i,0<=X.getD i 0/\X.getD i 0<18446744073709551616
theorem dD.set(h:dD X)(i:Nat)(x:Int)(y:0<=x)(z:x<18446744073709551616):dD (X.set i x):=by
 intro j;rw[aj,er];split
 ·split
  ·exact⟨y,z⟩
  ·exact⟨by simp,by simp⟩
 ·rw[<-aj];exact h j
theorem dD.put:∀{X:List Int},dD X->(∀p∈ps,0<=p.2/\p.2<18446744073709551616)->dD (az X ps):=by
 induction ps with
 |nil=>intro X h _;exact h
 |cons p ps ih=>
  intro X h y;show dD (az (X.set p.1.toNat p.2) ps);have :=y p (by simp);exact ih (h.set _ _ this.1 this.2) λq z=>y q (by simp[z])
def bw (X:List Int) (k:Nat):Nat:=(X.getD (816+k) 0).toNat
theorem Bi (h:dD X)(k:Nat):bw X k<18446744073709551616:=by have :=h (816+k);unfold bw;omega
theorem U2 (h:dD X)(k:Nat):((bw X k:Nat):Int)=X.getD (816+k) 0:=by have :=h (816+k);unfold bw;omega
def cT (X:List Int) (b:Nat):Bool:=(bw X (b/64)).testBit (b%64)
def Ee (X:List Int) (k:Nat):Nat:=if k=0 then (18446744073709551615-bw X 0) &&& (18446744073709551615-1) else 18446744073709551615-bw X k
theorem mU (x j:Nat)(h:x<18446744073709551616):(18446744073709551615-x).testBit j=(decide (j<64) && !x.testBit j):=by
 have :=Nat.testBit_two_pow_sub_succ (x:=x) (n:=64) h j;rw[<-this]
 congr 1
 show _=18446744073709551616-(x+1);omega
theorem Rk (X:List Int)(k:Nat):Ee X k<18446744073709551616:=by
 unfold Ee;split
 ·have :(18446744073709551615-bw X 0) &&& (18446744073709551615-1)<=18446744073709551615-bw X 0:=Nat.and_le_left
  omega
 ·omega
theorem Hh (h:dD X)(k j:Nat):(Ee X k).testBit j=(decide (j<64) && !(bw X k).testBit j && !(decide (k=0)&&decide (j=0))):=by
 unfold Ee;split
 ·rename_i hk
  subst hk;rw[Nat.testBit_and,mU _ _ (Bi h 0),mU _ _ (by omega),show(1:Nat)=2^0 from rfl,Nat.testBit_two_pow];by_cases z:j<64<;>by_cases y:j=0<;>simp[z,y]<;>(intro;omega)
 ·rename_i hk
  rw[mU _ _ (Bi h k)];simp[hk]
def fk (X:List Int) (n:Nat):List Nat:=(List.range n).filter λb=>b != 0 && !cT X b
def bb (X:List Int):List Nat:=fk X 256
theorem sS (h:dD X)(k:Nat):fk X (64*(k+1))=fk X (64*k)++(uu (Ee X k)).map (64*k+·):=by
 unfold fk uu;rw[show 64*(k+1)=64*k+64 by omega,gF]
 congr 2
 apply fR;intro j G;rw[bS] at G;rw[Hh h,cT,show(64*k+j)/64=k by omega,show(64*k+j)%64=j by omega];by_cases z:k=0<;>by_cases y:j=0
 ·subst z;subst y;simp
 ·simp[z,y,G]
 ·have J:¬(64*k=0):=by omega
  simp[z,y,J]
 ·have :¬(64*k+j=0):=by omega
  simp[z,y,G]
theorem iX:b∈fk X n↔b<n/\b≠0/\cT X b=false:=by
 unfold fk;rw[List.mem_filter,bS];simp
theorem nQ (X:List Int)(n:Nat):(fk X n).Nodup:=List.Pairwise.filter _ List.nodup_range
theorem xX (X:List Int):(bb X).length<=255:=by
 unfold bb fk;rw[show(256:Nat)=1+255 from rfl,gF,aF];have y:((List.range 1).filter λb=>b != 0 && !cT X b).length=0:=by simp[dL]
 have h:=eN (λj=>(1+j) != 0 && !cT X (1+j)) (List.range 255);rw[bJ,y];simp only[eJ] at h;omega
theorem Kw (h:dD X)(k:Nat):(fk X (64*(k+1))).length=(fk X (64*k)).length+ones 64 (Ee X k):=by
 rw[sS h,aF,bJ,NF]
def setW (x j:Nat) (u:Bool):Nat:=if u=true then (x &&& (18446744073709551615-2^j)) ||| 2^j else x &&& (18446744073709551615-2^j)
theorem Bj (h:j<64):2^j<18446744073709551616:=bC (Nat.pow_lt_pow_right (by decide) h) (by decide)
theorem U3 (y:x<18446744073709551616)(z:j<64)(u:Bool):setW x j u<18446744073709551616:=by
 have h:x &&& (18446744073709551615-2^j)<2^64:=iw Nat.and_le_left y;unfold setW;split
 ·exact Nat.or_lt_two_pow h (Bj z)
 ·exact h
theorem Fz (G:x<18446744073709551616)(J:j<64)(u:Bool)(i:Nat):(setW x j u).testBit i=if i=j then u else x.testBit i:=by
 have U:¬i<64->x.testBit i=false:=by
  intro h;apply Nat.testBit_lt_two_pow;exact bC G (gM (n:=2) (i:=64) (by decide) (by omega))
 have z:(x &&& (18446744073709551615-2^j)).testBit i=(x.testBit i && !decide (i=j)):=by
  rw[Nat.testBit_and,mU _ _ (Bj J),Nat.testBit_two_pow];by_cases h:i<64
  ·by_cases y:i=j
   ·simp[y]
   ·have :¬j=i:=λe=>y e.symm
    simp[h,y,this]
  ·simp[U h]
 unfold setW;split
 ·rename_i hu
  rw[Nat.testBit_or,z,Nat.testBit_two_pow,hu];by_cases y:i=j
  ·simp[y]
  ·have :¬j=i:=λe=>y e.symm
   simp[y,this]
 ·rename_i hu
  rw[z];have :u=false:=by simpa using hu
  subst this;by_cases y:i=j<;>simp[y]
def dG (X:List Int) (b:Nat) (u:Bool):List (Int×Int):=if b=0\/256<=b then [] else [((816+b/64:Nat),(setW (bw X (b/64)) (b%64) u:Nat))]
theorem Hi (h:dD X)(b:Nat)(u:Bool):∀p∈dG X b u,0<=p.2/\p.2<18446744073709551616:=by
 intro p y;unfold dG at y;split at y
 ·simp at y
 ·rw[au] at y
  subst y;have :=U3 (Bi h (b/64)) (fJ b (by decide:0<64)) u;exact⟨by simp,by show((_:Nat):Int)<_;omega⟩
theorem iR (l:List Int)(i j:Nat)(x:Int)(h:i<l.length):(l.set i x).getD j 0=if i=j then x else l.getD j 0:=by
 rw[aj,er];by_cases e:i=j
 ·subst e;simp[h]
 ·rw[aA e,aA e,aj]
theorem xY (h:dD X)(U:X.length=3128)(b:Nat)(G:b≠0)(J:b<256)(u:Bool)(c:Nat):cT (az X (dG X b u)) c=if c=b then u else cT X c:=by
 unfold dG;rw[aA (by omega),k9,aH];unfold cT bw;rw[iR _ _ _ _ (by omega)];by_cases e:816+b/64=816+c/64
 ·rw[aB e,aH,show(X.getD (816+b/64) 0).toNat=bw X (b/64) from rfl,Fz (Bi h (b/64)) (fJ b (by decide:0<64))]
  have y:c/64=b/64:=by omega
  rw[y];by_cases z:c=b
  ·rw[aB z,aB (by rw[z])]
  ·rw[aA z,aA (by omega)];rfl
 ·rw[aA e,aA (by intro y;subst y;exact e rfl)]
def kd (b k:Nat):List (Int×Int):=(List.range k).map λ(j:Nat)=>(((1080+b*8+j:Nat):Int),(0:Int))
def fg (b:Nat):List (Int×Int):=kd b 8
theorem wJ (b k:Nat):kd b (k+1)=kd b k++[(((1080+b*8+k:Nat):Int),(0:Int))]:=by
 unfold kd;rw[dL,dZ];rfl
theorem zg (b k:Nat):(kd b k).length=k:=by simp[kd]
theorem sT{p:Int×Int}(h:p∈fg b):∃j,j<8/\p=(((1080+b*8+j:Nat):Int),(0:Int)):=by
 unfold fg kd at h;rw[bB] at h;obtain⟨j,y,rfl⟩:=h;exact⟨j,bS.1 y,rfl⟩
theorem Hj (h:∀p∈ps,1080<=p.1)(c:Nat)(z:c<256):cT (az X ps) c=cT X c:=by
 unfold cT bw;rw[eo _ _ _ λp y=>by have :=h p y;omega]
def cL (X:List Int):List Nat->List (Int×Int)
 | []=>[]
 |b::l=>(dG X b true++fg b)++cL (az X (dG X b true++fg b)) l
theorem Rl (h:dD X)(b:Nat):∀p∈dG X b true++fg b,0<=p.2/\p.2<18446744073709551616:=by
 intro p y;rw[aP] at y;rcases y with y|y
 ·exact Hi h b true p y
 ·obtain⟨j,-,rfl⟩:=sT y
  exact⟨Int.le_refl 0,by show(0:Int)<_;omega⟩
theorem Hk (h:dD X)(U:X.length=3128)(b:Nat)(y:b≠0)(z:b<256)(c:Nat)(J:c<256):cT (az X (dG X b true++fg b)) c=(cT X c||decide (c=b)):=by
 rw[bo,Hj (λp G=>by obtain⟨j,-,rfl⟩:=sT G;show(1080:Int)<=((_:Nat):Int);omega) c J,xY h U b y z];by_cases e:c=b<;>simp[e]
theorem Ef (X:List Int)(b:Nat)(h:b≠0)(y:b<256)(u:Bool):(dG X b u).length=1:=by
 unfold dG;rw[aA (by omega)];rfl
theorem oA (l:List Nat):∀X:List Int,(∀b∈l,b≠0/\b<256)->(cL X l).length=9*l.length:=by
 induction l with
 |nil=>intro X _;rfl
 |cons b l ih=>
  intro X h;obtain⟨y,z⟩:=h b (by simp);show((dG X b true++fg b)++cL _ l).length=_;rw[aF,aF,Ef X b y z,fg,zg,ih _ λc G=>h c (by simp[G])];simp only[bH];omega
theorem Hl (l:List Nat)(b:Nat):∀X:List Int,cL X (l++[b])=cL X l++(dG (az X (cL X l)) b true++fg b):=by
 induction l with
 |nil=>intro X;show(dG X b true++fg b)++[]=[]++_;rw[bq];rfl
 |cons c l ih=>
  intro X;have e:az X (cL X (c::l))=az (az X (dG X c true++fg c)) (cL (az X (dG X c true++fg c)) l):=bo _ _ _;rw[e];show(dG X c true++fg c)++cL (az X (dG X c true++fg c)) (l++[b])=((dG X c true++fg c)++cL (az X (dG X c true++fg c)) l)++_;rw[ih,bf (dG X c true++fg c)]
theorem kA (l:List Nat):∀X:List Int,dD X->X.length=3128->(∀b∈l,b≠0/\b<256)->
  dD (az X (cL X l))/\(az X (cL X l)).length=3128/\∀c,c<256->cT (az X (cL X l)) c=(cT X c||decide (c∈l)):=by
 induction l with
 |nil=>intro X h z _;exact⟨h,z,λc _=>by simp[cL,az]⟩
 |cons b l ih=>
  intro X h z G;obtain⟨V,Z⟩:=G b (by simp);have J:dD (az X (dG X b true++fg b)):=h.put (Rl h b);obtain⟨k1,k2,U⟩:=ih (az X (dG X b true++fg b)) J (by rw[bO];exact z) λc y=>G c (by simp[y])
  have e:az X (cL X (b::l))=az (az X (dG X b true++fg b)) (cL (az X (dG X b true++fg b)) l):=bo _ _ _;rw[e];refine⟨k1,k2,λc y=> ?_⟩;rw[U c y,Hk h z b V Z c y];by_cases e1:c=b<;>by_cases W:c∈l<;>simp[e1,W]
theorem xZ (z:l.Nodup)(n:Nat):l.filter (λc=> !decide (c∈l.take n))=l.drop n:=by
 have U:l.filter (λc=> !decide (c∈l.take n))=(l.take n++l.drop n).filter (λc=> !decide (c∈l.take n)):=by rw[dM]
 rw[U,dV];have G:∀c,c∈l.take n->c∈l.drop n->False:=by
  rw[<-dM n l] at z;intro c J Z;exact(List.nodup_append.1 z).2.2 c J c Z rfl
 have V:(l.take n).filter (λc=> !decide (c∈l.take n))=[]:=by
  rw[List.filter_eq_nil_iff];intro c y;simp[y]
 have W:(l.drop n).filter (λc=> !decide (c∈l.take n))=l.drop n:=by
  rw[List.filter_eq_self];intro c y;have :c∉l.take n:=λh=>G c h y
  simp[this]
 rw[V,W,bW]
theorem Bk (h:dD X)(hl:X.length=3128)(n:Nat):dD (az X (cL X ((bb X).take n)))/\(az X (cL X ((bb X).take n))).length=3128/\bb (az X (cL X ((bb X).take n)))=(bb X).drop n:=by
 have J:∀b∈(bb X).take n,b≠0/\b<256:=λb Z=>by
  have :=iX.1 (bA Z);exact⟨this.2.1,this.1⟩
 obtain⟨U,V,z⟩:=kA ((bb X).take n) X h hl J;refine⟨U,V,?_⟩;have W:=xZ (nQ X 256) n;have e:∀Y,fk Y 256=(List.range 256).filter (λb=>b != 0 && !cT Y b):=λ_=>rfl
 have y:∀c,c<256->cT (az X (cL X (List.take n (fk X 256)))) c=(cT X c||decide (c∈List.take n (fk X 256))):=z;clear z U V J;show fk (az X (cL X (List.take n (fk X 256)))) 256=List.drop n (fk X 256);generalize List.take n (fk X 256)=L at *;rw[<-W,e X,e,List.filter_filter];apply fR;intro c G;rw[bS] at G;rw[y c G];by_cases e1:c∈L<;>simp[e1]
end Go.Proofs.YtcecbdeamjigiaaGreatDoor
namespace Go.Proofs.YtcecbdeamjigiaaGreatDoor
open Go.RowKit
variable{w w':World}{G J K a b c d e f g gp h j n x y z:Nat}{B X:List Int}{ps qs:List (Int×Int)}{l own:List Nat}{v:Value}{o:Oper}{next:Act->World->Prop}{row:Option Nat}
def gV (b:Int):Int:=if b<0\/256<=b then -1 else 1080+b*8
theorem jm (b:Int)(w:World):Calls Tryz.prog 146 #[.int .i64 b] w λe w'=>e= .returned (.int .i64 (gV b))/\w=w':=by
 rcases (show b<0\/256<=b\/(0<=b/\b<256) by omega) with h|h|⟨G,z⟩
 ·rw[gV,aB (.inl h)]
  go_enter Tryz.func146,Tryz.ntmps146;go_wp2;go_ret;exact⟨rfl,rfl⟩
 ·rw[gV,aB (.inr h)]
  have y:¬b<0:=by omega
  go_enter Tryz.func146,Tryz.ntmps146;go_wp2;go_ret;exact⟨rfl,rfl⟩
 ·rw[gV,aA (by omega)]
  go_enter Tryz.func146,Tryz.ntmps146;go_wp2;go_ret;exact⟨rfl,rfl⟩
theorem Hm{k:IntKind}{a b:Int}(h:a=b):Ending.returned (.int k a)= .returned (.int k b):=by rw[h]
def De (b:Int):Bool:=decide (0<=b)&&decide (b<256)
theorem sU{b:Int}:De b=true↔0<=b/\b<256:=by simp[De]
theorem wK (i:Int)(w:World):Calls Tryz.prog 161 #[.int .i64 i] w λe w'=>e= .returned (.bool (De i))/\w=w':=by
 by_cases h:0<=i
 ·by_cases y:i<256
  ·rw[sU.2 ⟨h,y⟩]
   go_enter Tryz.func161,Tryz.ntmps161;go_wp2;go_ret;exact⟨rfl,rfl⟩
  ·rw[show De i=false by simp[De];omega]
   go_enter Tryz.func161,Tryz.ntmps161;go_wp2;go_ret;exact⟨rfl,rfl⟩
 ·rw[show De i=false by simp[De];omega]
  go_enter Tryz.func161,Tryz.ntmps161;go_wp2;go_ret;exact⟨rfl,rfl⟩
theorem zh (b:Nat)(h:b<256)(w:World):Calls Tryz.prog 162 #[.int .i64 (b:Int)] w λe w'=>e= .returned (.int .i64 ((816+b/64:Nat):Int))/\w=w':=by
 have y:(0:Int)<=(b:Int):=by omega
 have z:(b:Int)<256:=by omega
 go_enter Tryz.func162,Tryz.ntmps162;go_wp2;go_ret;exact⟨Hm (by omega),rfl⟩
def lU (b:Nat):Nat:=2^(b%64)
theorem FA (b:Nat):lU b<18446744073709551616:=Bj (fJ _ (by decide))
theorem Rm (b:Nat):IntKind.u64.wrap (2^(b%64))=((lU b:Nat):Int):=by
 have h:=FA b;have e:((2:Int)^(b%64))=((2^(b%64):Nat):Int):=by simp
 rw[fu,e];unfold lU at *;generalize 2^(b%64)=x at *;omega
theorem sV (b:Nat)(h:b<256)(w:World):Calls Tryz.prog 163 #[.int .i64 (b:Int)] w λe w'=>e= .returned (.int .u64 ((lU b:Nat):Int))/\w=w':=by
 have y:(0:Int)<=(b:Int):=by omega
 have z:(b:Int)<256:=by omega
 have H:=ar (Rm b);go_enter Tryz.func163,Tryz.ntmps163;go_wp2;go_ret;exact⟨Hm H.out,rfl⟩
theorem U4 (x j:Nat):x &&& 2^j=if x.testBit j=true then 2^j else 0:=by
 apply Nat.eq_of_testBit_eq;intro i;rw[Nat.testBit_and,Nat.testBit_two_pow];by_cases e:j=i
 ·subst e
  cases h:x.testBit j<;>simp
 ·cases h:x.testBit j<;>simp[e]
theorem Rn (x b:Nat):(x &&& lU b≠0)↔x.testBit (b%64)=true:=by
 unfold lU;rw[U4];have :=Nat.two_pow_pos (b%64);cases x.testBit (b%64)<;>simp<;>omega
theorem x8 (h:dD (az B ps))(k:Nat)(y:k<2000):Dd B ps ((816+k:Nat):Int)=((bw (az B ps) k:Nat):Int):=by
 unfold Dd;rw[aB (by omega),U2 h,aH]
theorem NH (x b:Nat):setW x (b%64) false=x &&& (18446744073709551615-lU b)/\setW x (b%64) true=(x &&& (18446744073709551615-lU b)) ||| lU b:=⟨rfl,rfl⟩
theorem Hn (h:eF w b G B ps)(eT:dD (az B ps))(W:ps.length<=1000000)(i:Int)(u:Bool):
  Calls Tryz.prog 139 #[.pointer (some ⟨b,0,none⟩),.int .i64 i,.bool u] w (iy w b G B (ps++dG (az B ps) i.toNat u)):=by
 have V:=ar (wK i w);by_cases hz:i=0
 ·subst hz
  have J:Hid (iy w b G B (ps++dG (az B ps) (0:Int).toNat u) (.returned (.tuple #[])) w):=by
   show iy _ _ _ _ _ _ _;rw[show dG (az B ps) (0:Int).toNat u=[] by simp[dG],bq];exact⟨rfl,G,.inl rfl,h,ay.refl _ _⟩
  clear h;go_enter Tryz.func139,Tryz.ntmps139;go_wp2_with fail;go_end0;exact J.out
 have e0:(i==0)=false:=by simpa using hz
 cases hi:De i
 ·rw[hi] at V
  have J:Hid (iy w b G B (ps++dG (az B ps) i.toNat u) (.returned (.tuple #[])) w):=by
   show iy _ _ _ _ _ _ _;have :¬(0<=i/\i<256):=λe=>by rw[sU.2 e] at hi;cases hi
   rw[show dG (az B ps) i.toNat u=[] by unfold dG;rw[aB (by omega)],bq];exact⟨rfl,G,.inl rfl,h,ay.refl _ _⟩
  clear hi h hz;go_enter Tryz.func139,Tryz.ntmps139;go_wp2_with fail;refine V.out.mono ?_;rintro e w' ⟨rfl,rfl⟩;go_wp2_with fail;go_end0;exact J.out
 ·rw[hi] at V
  obtain⟨h0,h1⟩:=sU.1 hi;clear hi;obtain⟨j,rfl⟩:=cj h0;have hj:j<256:=by omega
  have zi:¬(j=0\/256<=j):=by omega
  clear hz;have Z:=ar (zh j hj w);have J:=ar (sV j hj w);have HG:=ar (mO h ((816+j/64:Nat):Int));rw[x8 eT (j/64) (by omega)] at HG;have hx:=Bi eT (j/64);have hm:=FA j;have ha:=u64_andNot_nat (bw (az B ps) (j/64)) (lU j) hx hm;have hy:bw (az B ps) (j/64) &&& (18446744073709551615-lU j)<18446744073709551616:=iw Nat.and_le_left hx;have k6:Ms ((816+j/64:Nat):Int)=true:=qX.2 ⟨by omega,by omega⟩;obtain⟨s0,s1⟩:=NH (bw (az B ps) (j/64)) j;cases u
  ·have HP:Hid (Calls Tryz.prog 48 #[.pointer (some ⟨b,0,none⟩),.int .i64 ((816+j/64:Nat):Int),.int .u64 ((bw (az B ps) (j/64) &&& (18446744073709551615-lU j):Nat):Int)] w (iy w b G B (ps++dG (az B ps) (j:Int).toNat false))):=by
    have :=oz h W ((816+j/64:Nat):Int) ((bw (az B ps) (j/64) &&& (18446744073709551615-lU j):Nat):Int);unfold zX at this;rw[aB k6] at this;unfold dG;rw[aH,aA zi,s0];exact this
   clear h eT W hx hm k6 s0 s1 zi hy;generalize ps++dG (az B ps) (j:Int).toNat false=qs at *;generalize bw (az B ps) (j/64) &&& (18446744073709551615-lU j)=y at *;generalize bw (az B ps) (j/64)=x at *;generalize lU j=m at *;go_enter Tryz.func139,Tryz.ntmps139;go_wp2_with fail;refine V.out.mono ?_;rintro e w' ⟨rfl,rfl⟩;go_wp2_with fail;refine Z.out.mono ?_;rintro e w' ⟨rfl,rfl⟩;go_wp2_with fail;refine HG.out.mono ?_;rintro e w' ⟨rfl,rfl⟩;go_wp2_with fail;refine J.out.mono ?_;rintro e w' ⟨rfl,rfl⟩;go_wp2_with fail;refine Z.out.mono ?_;rintro e w' ⟨rfl,rfl⟩;go_wp2_with fail;refine HP.out.mono ?_;rintro e w' U;have HQ:=ar U;obtain⟨rfl,-⟩:=U;go_wp2_with fail;go_end0;exact HQ.out
  ·have ho:=u64_or_nat (bw (az B ps) (j/64) &&& (18446744073709551615-lU j)) (lU j) hy hm
   have HP:Hid (Calls Tryz.prog 48 #[.pointer (some ⟨b,0,none⟩),.int .i64 ((816+j/64:Nat):Int),.int .u64 (((bw (az B ps) (j/64) &&& (18446744073709551615-lU j)) ||| lU j:Nat):Int)] w (iy w b G B (ps++dG (az B ps) (j:Int).toNat true))):=by
    have :=oz h W ((816+j/64:Nat):Int) (((bw (az B ps) (j/64) &&& (18446744073709551615-lU j)) ||| lU j:Nat):Int);unfold zX at this;rw[aB k6] at this;unfold dG;rw[aH,aA zi,s1];exact this
   clear h eT W hx hm k6 s0 s1 zi hy;generalize ps++dG (az B ps) (j:Int).toNat true=qs at *;generalize (bw (az B ps) (j/64) &&& (18446744073709551615-lU j)) ||| lU j=z at *
   generalize bw (az B ps) (j/64) &&& (18446744073709551615-lU j)=y at *;generalize bw (az B ps) (j/64)=x at *;generalize lU j=m at *;go_enter Tryz.func139,Tryz.ntmps139;go_wp2_with fail;refine V.out.mono ?_;rintro e w' ⟨rfl,rfl⟩;go_wp2_with fail;refine Z.out.mono ?_;rintro e w' ⟨rfl,rfl⟩;go_wp2_with fail;refine HG.out.mono ?_;rintro e w' ⟨rfl,rfl⟩;go_wp2_with fail;refine J.out.mono ?_;rintro e w' ⟨rfl,rfl⟩;go_wp2_with fail;refine J.out.mono ?_;rintro e w' ⟨rfl,rfl⟩;go_wp2_with fail;refine Z.out.mono ?_;rintro e w' ⟨rfl,rfl⟩;go_wp2_with fail;refine HP.out.mono ?_;rintro e w' U;have HQ:=ar U;obtain⟨rfl,-⟩:=U;go_wp2_with fail;go_end0;exact HQ.out
theorem U5 (x:Nat)(y:x<18446744073709551616):18446744073709551615 ^^^ x=18446744073709551615-x:=by
 apply Nat.eq_of_testBit_eq;intro j;rw[Nat.testBit_xor,mU x j y,show(18446744073709551615:Nat)=2^64-1 from rfl,Nat.testBit_two_pow_sub_one];by_cases h:j<64
 ·simp[h]
 ·have :x.testBit j=false:=by
   apply Nat.testBit_lt_two_pow;exact bC y (gM (n:=2) (i:=64) (by decide) (by omega))
  simp[h,this]
theorem U6 (x:Nat)(h:x<18446744073709551616):bits .xor .u64 IntKind.u64.max (x:Int)=((18446744073709551615-x:Nat):Int):=by
 rw[<-U5 x h];exact u64_xor_nat 18446744073709551615 x (by decide) h
theorem zj{V:Nat}(h:eF w b V B ps)(z:dD (az B ps))(k:Nat)(hk:k<4):
  Calls Tryz.prog 200 #[.pointer (some ⟨b,0,none⟩),.int .i64 (k:Int)] w λe w'=>e= .returned (.int .u64 ((Ee (az B ps) k:Nat):Int))/\w=w':=by
 have G:=ar (mO h ((816+k:Nat):Int));rw[x8 z k (by omega)] at G;have Z:=U6 _ (Bi z k);have ek:IntKind.i64.wrap (816+(k:Int))=((816+k:Nat):Int):=by rw[dY _ (by omega)];omega
 by_cases U:k=0
 ·subst U
  have W:Hid (Calls Tryz.prog 163 #[.int .i64 0] w (λe w'=>e= .returned (.int .u64 1)/\w=w')):=sV 0 (by decide) w;have ha:bits .andNot .u64 (((18446744073709551615-bw (az B ps) 0:Nat)):Int) 1=((Ee (az B ps) 0:Nat):Int):=by
   rw[Ee,aB rfl];exact u64_andNot_nat (18446744073709551615-bw (az B ps) 0) 1 (by omega) (by decide)
  generalize Ee (az B ps) 0=f at *;generalize 18446744073709551615-bw (az B ps) 0=y at *;generalize bw (az B ps) 0=x at *;clear h z;go_enter Tryz.func200,Tryz.ntmps200;go_wp2_with fail;refine G.out.mono ?_;rintro e w' ⟨rfl,rfl⟩;go_wp2_with fail;refine W.out.mono ?_;rintro e w' ⟨rfl,rfl⟩;go_wp2_with fail;go_ret;exact⟨rfl,rfl⟩
 ·have e0:((k:Int)==0)=false:=by simp;omega
  have J:18446744073709551615-bw (az B ps) k=Ee (az B ps) k:=by rw[Ee,aA U]
  rw[J] at Z;clear J;generalize Ee (az B ps) k=f at *;generalize bw (az B ps) k=x at *;clear h z;go_enter Tryz.func200,Tryz.ntmps200;go_wp2_with fail;refine G.out.mono ?_;rintro e w' ⟨rfl,rfl⟩;go_wp2_with fail;go_ret;exact⟨rfl,rfl⟩
theorem YE:rep 85 8=6148914691236517205:=by decide
theorem YF:rep 51 8=3689348814741910323:=by decide
theorem YG:rep 15 8=1085102592571150095:=by decide
theorem Eg (n:Nat)(h:n<18446744073709551616):IntKind.u64.wrap (n:Int)=(n:Int):=by rw[fu];omega
theorem Ho (x d m:Nat)(y:x<18446744073709551616)(h:m<18446744073709551616):bits .and .u64 ((x:Int)/(d:Int)) (m:Int)=((x/d &&& m:Nat):Int):=
 fI (x/d) m (iw (Nat.div_le_self x d) y) h
theorem i64_and127(x:Nat)(h:x<9223372036854775808):bits .and .i64 (x:Int) 127=((x%128:Nat):Int):=by
 show IntKind.i64.wrap ((BitVec.ofInt 64 (x:Int) &&& BitVec.ofInt 64 127).toNat:Int)=_;have y:BitVec.ofInt 64 127=BitVec.ofNat 64 127:=by decide
 rw[BitVec.toNat_and,ofInt_u64 x (by omega),y,BitVec.toNat_ofNat,show(127%2^64:Nat)=2^7-1 from rfl,dp];rw[dY _ (by omega)]
theorem Ky (x:Nat)(Z:x<18446744073709551616):∃y h U G z J:Nat,
  IntKind.u64.wrap (bits .and .u64 ((x:Int)/2) 6148914691236517205+bits .and .u64 (x:Int) 6148914691236517205)=(y:Int)/\
  IntKind.u64.wrap (bits .and .u64 ((y:Int)/4) 3689348814741910323+bits .and .u64 (y:Int) 3689348814741910323)=(h:Int)/\
  bits .and .u64 (IntKind.u64.wrap ((h:Int)/16+(h:Int))) 1085102592571150095=(U:Int)/\
  IntKind.u64.wrap ((U:Int)+(U:Int)/256)=(G:Int)/\
  IntKind.u64.wrap ((G:Int)+(G:Int)/65536)=(z:Int)/\
  IntKind.u64.wrap ((z:Int)+(z:Int)/4294967296)=(J:Int)/\
  IntKind.i64.wrap (J:Int)=(J:Int)/\bits .and .i64 (J:Int) 127=((ones 64 x:Nat):Int):=by
 obtain⟨y,h,U,G,z,J,s1,s2,s3,s4,s5,s6,W,b2,V,b3,b4,b5,b6,hm⟩:=Hg x Z;unfold st1 at s1;unfold st2 at s2;unfold YB at s3;rw[YE] at s1;rw[YF] at s2;rw[YG] at s3;refine⟨y,h,U,G,z,J,?_,?_,?_,?_,?_,?_,?_,?_⟩
 ·rw[show(bits .and .u64 ((x:Int)/2) 6148914691236517205)=_ from Ho x 2 6148914691236517205 Z (by decide),show(bits .and .u64 (x:Int) 6148914691236517205)=_ from fI x 6148914691236517205 Z (by decide),<-Int.natCast_add,s1]
  exact Eg _ W
 ·rw[show(bits .and .u64 ((y:Int)/4) 3689348814741910323)=_ from Ho y 4 3689348814741910323 W (by decide),show(bits .and .u64 (y:Int) 3689348814741910323)=_ from fI y 3689348814741910323 W (by decide),<-Int.natCast_add,s2]
  exact Eg _ b2
 ·rw[show(h:Int)/16+(h:Int)=((h/16+h:Nat):Int) by omega,Eg _ V,<-s3]
  exact fI (h/16+h) 1085102592571150095 V (by decide)
 ·rw[show(U:Int)+(U:Int)/256=((G:Nat):Int) by omega]
  exact Eg _ (by omega)
 ·rw[show(G:Int)+(G:Int)/65536=((z:Nat):Int) by omega]
  exact Eg _ (by omega)
 ·rw[show(z:Int)+(z:Int)/4294967296=((J:Nat):Int) by omega]
  exact Eg _ (by omega)
 ·exact dY _ (by omega)
 ·rw[i64_and127 _ b6,hm]
theorem U7 (x:Nat)(h:x<18446744073709551616)(w:World):Calls Tryz.prog 199 #[.int .u64 (x:Int)] w λe w'=>e= .returned (.int .i64 ((ones 64 x:Nat):Int))/\w=w':=by
 obtain⟨x1,y,x3,x4,G,U,z,E2,Z,J,W,E6,E7,V⟩:=Ky x h;generalize ones 64 x=r at *;clear h;go_enter Tryz.func199,Tryz.ntmps199;go_wp2;go_ret;exact⟨rfl,rfl⟩
def kI (w:World):Prop:=∀j,j<64->w.cell? ⟨0,j,none⟩=some (.int .u8 ((Lib.deBruijn64tab.getD j 0:Nat):Int))
theorem YH (x a:Nat)(y:x<18446744073709551616)(h:x≠0)(G:x &&& (18446744073709551616-x)=a):
  IntKind.u64.wrap (bits .and .u64 (x:Int) (IntKind.u64.wrap (-(x:Int)))*285870213051353865)/288230376151711744=((a*285870213051353865%18446744073709551616/288230376151711744:Nat):Int):=by
 have z:IntKind.u64.wrap (-(x:Int))=((18446744073709551616-x:Nat):Int):=by rw[fu];omega
 rw[z,fI x _ y (by omega),G,fu];omega
theorem U8 (x k h:Nat)(w:World)(G:((x:Int)==0)=false)
  (y:IntKind.u64.wrap (bits .and .u64 (x:Int) (IntKind.u64.wrap (-(x:Int)))*285870213051353865)/288230376151711744=(h:Int))
  (J:h<64) (U:k<64) (z:w.cell? ⟨0,h,none⟩=some (.int .u8 k)):
  Calls Tryz.prog 201 #[.int .u64 (x:Int)] w λe w'=>e= .returned (.int .i64 (k:Int))/\w=w':=by
 go_enter Tryz.func201,Tryz.ntmps201;go_wp2_with(simp only[y]);go_ret;exact⟨rfl,rfl⟩
theorem aaV (x:Nat)(U:x<18446744073709551616)(z:x≠0)(w:World)(W:kI w):Calls Tryz.prog 201 #[.int .u64 (x:Int)] w λe w'=>e= .returned (.int .i64 ((Lib.ctz 64 x:Nat):Int))/\w=w':=by
 obtain⟨V,J⟩:=Lib.lowest_bit 64 x z U;obtain⟨G,y⟩:=Lib.deBruijn64_at _ J;have h:=W _ G;rw[y] at h;exact U8 x _ _ w (by simp;omega) (YH x _ U z V) G J h
def ij (w:World) (b y:Nat) (B:List Int) (ps:List (Int×Int)) (w':World):Prop:=
 ∃h,(h=y\/(w.heap.size<=h/\h<w'.heap.size))/\eF w' b h B ps/\ay [b,y] w w'
theorem ij.refl(h:eF w b y B ps):ij w b y B ps w:=⟨y,.inl rfl,h,ay.refl _ _⟩
theorem ij.post(h:ij w b y B ps w'):iy w b y B ps (.returned (.tuple #[])) w':=⟨rfl,h⟩
theorem ij.trans{G J:World}(hg:y=z\/(w.heap.size<=y/\y<G.heap.size))(U:ay [b,z] w G)(h:ij G b y B qs J):ij w b z B qs J:=by
 obtain⟨Z,h1,W,V⟩:=h;have z1:=U.size;have z2:=V.size;refine⟨Z,by omega,W,U.trans V λx hx=> ?_⟩;simp only[aS,aV,bL] at hx ⊢;omega
theorem ij.mono{G z:World}(J:ay [] w G)(Df:y<w.heap.size)(h:ij G b y B qs z):ij w b y B qs z:=by
 obtain⟨W,h1,U,V⟩:=h;have z1:=J.size;exact⟨W,by omega,U,(J.mono (by simp)).trans V λx Z=> .inl Z⟩
theorem Ro (ps:List (Int×Int))(c k:Nat)(y:c<256)(h:k<8):zX (ps++kd c k) ((1080+c*8+k:Nat):Int) 0=ps++kd c (k+1):=by
 unfold zX;rw[aB (qX.2 ⟨by omega,by omega⟩),wJ,bf]
theorem Kz (h:eF w b y B ps)(J:ps.length<=999000)(c:Nat)(hc:c<256):
  Calls Tryz.prog 174 #[.pointer (some ⟨b,0,none⟩),.int .i64 (c:Int)] w (iy w b y B (ps++fg c)):=by
 have W:=ar h;have HN:=ar J;have V:∀w',Hid (Calls Tryz.prog 146 #[.int .i64 (c:Int)] w' λe G=>e= .returned (.int .i64 ((1080+c*8:Nat):Int))/\w'=G):=λw'=>by
  have :=jm (c:Int) w';rw[show gV (c:Int)=((1080+c*8:Nat):Int) by unfold gV;rw[aA (by omega)];omega] at this;exact this
 clear h J;go_enter Tryz.func174,Tryz.ntmps174;go_wp2_with fail;go_loopg [5] 8 (λZ s5 wx=>∃k:Nat,k+Z=8/\s5= .int .i64 (k:Int)/\Hid (ij w b y B (ps++kd c k) wx))
 case atStart=>exact⟨0,by omega,rfl,by show ij _ _ _ _ _ _;rw[show kd c 0=[] from rfl,bq];exact ij.refl W.out⟩
 case round=>
  obtain⟨k,hk,rfl,z⟩:=hrel;cases gk with
  |zero=>
   obtain rfl:k=8:=by omega
   clear hk;go_wp2_with fail;go_end0;exact ij.post z.out
  |succ gg=>
   have qP:k<8:=by omega
   have aa:(k:Int)<8:=by omega
   have ez:(0:Int)<=(k:Int):=by omega
   have HP:Hid (∀x:Int,x=((1080+c*8+k:Nat):Int)->Calls Tryz.prog 48 #[.pointer (some ⟨b,0,none⟩),.int .i64 x,.int .u64 0] wr λe w'=>e= .returned (.tuple #[])/\Hid (ij w b y B (ps++kd c (k+1)) w')):=by
    intro x hx;subst hx;obtain⟨lv,h1,h2,h3⟩:=z.out;refine(oz h2 (by rw[aF,zg];have :=HN.out;omega) _ 0).mono ?_;rintro e w' ⟨rfl,U⟩;rw[Ro ps c k hc qP] at U;exact⟨rfl,ij.trans h1 h3 U⟩
   have HB:=V wr;clear z V;go_wp2_with fail;refine HB.out.mono ?_;rintro e w' ⟨rfl,rfl⟩;go_wp2_with fail;refine(HP.out _ (by omega)).mono ?_;rintro e w' ⟨rfl,HQ⟩;go_wp2_with fail;go_roundg gg;case measure=>omega
   case rel=>exact⟨k+1,by omega,by go_num,HQ⟩
theorem Eh (X:List Int)(n:Nat):(fk X n).length<=n:=by
 unfold fk;have :=eN (λb=>b != 0 && !cT X b) (List.range n);simpa using this
theorem Ei{Z:Nat}(h:eF w b Z B ps)(U:dD (az B ps)):
  Calls Tryz.prog 172 #[.pointer (some ⟨b,0,none⟩)] w λe w'=>e= .returned (.int .i64 (((bb (az B ps)).length:Nat):Int))/\w=w':=by
 have V:=ar h;have z:=ar U;clear h U;go_enter Tryz.func172,Tryz.ntmps172;go_wp2_with fail;go_loop [3,5] (λs3 s5=>∃k:Nat,k<=4/\s5= .int .i64 (k:Int)/\s3= .int .i64 (((fk (az B ps) (64*k)).length:Nat):Int)) (λ_ s5=>4-(intOf s5).toNat)
 case atStart=>exact⟨0,by omega,rfl,rfl⟩
 case round=>
  obtain⟨k,hk,rfl,rfl⟩:=hrel;by_cases y:k<4
  ·have NI:(k:Int)<4:=by omega
   have ez:(0:Int)<=(k:Int):=by omega
   have G:=ar (Kw z.out k);have aa:=Eh (az B ps) (64*k);have J:=Eh (az B ps) (64*(k+1));have e:=G.out;have HI:=ar (zj V.out z.out k y);have HO:=ar (U7 (Ee (az B ps) k) (Rk (az B ps) k) w);have ho:ones 64 (Ee (az B ps) k)<=256:=by omega
   rw[e] at J;clear e J;generalize ones 64 (Ee (az B ps) k)=o at *;generalize W:Ee (az B ps) k=f at *;clear W;generalize hq:(fk (az B ps) (64*k)).length=q at *;clear hq;go_wp2_with fail;refine HI.out.mono ?_;rintro e w' ⟨rfl,rfl⟩;go_wp2_with fail;refine HO.out.mono ?_;rintro e w' ⟨rfl,rfl⟩;go_wp2_with fail
   go_round
   case rel=>exact⟨k+1,by omega,by go_num,by rw[G.out];go_num⟩
   case measure=>simp[intOf];omega
  ·obtain rfl:k=4:=by omega
   go_wp2_with fail;go_ret;exact⟨rfl,rfl⟩
def cW (l:List Nat):List Value:=l.map λx:Nat=>Value.int .i64 (x:Int)
theorem fO (l:List Nat):(cW l).length=l.length:=by simp[cW]
theorem mV (h:j<l.length):(cW l)[j]? =some (.int .i64 ((l.getD j 0:Nat):Int)):=by simp[cW,h]
theorem sW (l m:List Nat):cW (l++m)=cW l++cW m:=by simp[cW]
theorem Tryz.info_int:(Tryz.prog.info? 3).map (λi=>(i.zero,i.size,i.bytes))=some (some (.int .i64 0),1,8):=by kernel_rfl
theorem NJ (n:Nat)(U:n<=100000)(w:World):(Instr.makeSlice 134 (.int .i64 0) (.int .i64 (n:Int))).run Tryz.prog w=
  .ok (.slice (some ⟨w.heap.size,0,none⟩) 0 n) (w.alloc (.cells (madeCells #[.int .i64 0] n) 3)):=by
 obtain⟨J,G,z,y,h⟩:=cJ Tryz.info_int;have :=run_make (P:= Tryz.prog) w 134 3 J _ Tryz.underlying134 G z .i64 .i64 0 (n:Int) (by omega) (by omega) (by rw[h];omega) (by omega);rw[y,aH,jT] at this;exact this
theorem Dh (X:List Int)(k m:Nat)(h:k<=m):∃r,fk X m=fk X k++r:=by
 obtain⟨d,rfl⟩:∃d,m=k+d:=⟨m-k,by omega⟩;exact⟨_,gF _ k d⟩
theorem NK (G:y<18446744073709551616)(h:uu y=[]):y=0:=by
 by_cases z:y=0
 ·exact z
 ·have :=(Ec y z G).2
  rw[h] at this;cases this
def pX (w:World) (l:List Nat) (e:Ending) (w':World):Prop:=
 ∃v g,e= .returned v/\Reads w' v g (cW l)/\w.heap.size<=g/\g<w'.heap.size/\ay [] w w'
def Bl (w:World) (n:Nat) (l:List Nat) (v:Value) (h:World):Prop:=
 h.ownsRow w.heap.size 3 1 v l.length (cW l)/\ay [] w h/\l.length<=n/\v≠.slice none 0 0
theorem Bl.made{J:World}(h:Bl w n l v J):pX w l (.returned v) J:=by
 obtain⟨h1,Z,h3,h4⟩:=h;obtain⟨V,h6⟩:=h1;rcases h6 with ⟨rfl,-⟩|⟨g,cap,G,rfl,hg,U,W,h8,h9,y⟩
 ·exact absurd rfl h4
 ·have z:g<J.heap.size:=(Array.getElem?_eq_some_iff.1 U).1
  exact⟨_,g,rfl,eE.reads ⟨V,_,cap,rfl,W,h8,λ_=>⟨rfl,G,U,h9,y⟩⟩,hg,z,Z⟩
theorem kI.keep(h:kI w)(G:ay [] w w'):kI w':=λj z=>by
 have y:=h j z;rw[aL (w:=w) (G.block _ (Kf y) (by simp))];exact y
theorem Rp (y:Nat)(h:y<18446744073709551616)(z:y≠0):bits .and .u64 (y:Int) (IntKind.u64.wrap ((y:Int)-1))=((y &&& (y-1):Nat):Int)/\y &&& (y-1)<18446744073709551616:=by
 have e:IntKind.u64.wrap ((y:Int)-1)=((y-1:Nat):Int):=by rw[fu];omega
 rw[e];exact⟨fI y (y-1) h (by omega),iw Nat.and_le_left h⟩
theorem Bn (h:eF w b gp B ps)(eT:dD (az B ps))(hT:kI w)(n:Nat)(hn:n<=100000):
  Calls Tryz.prog 173 #[.pointer (some ⟨b,0,none⟩),.int .i64 (n:Int)] w (pX w ((bb (az B ps)).take n)):=by
 obtain⟨i0,hi,ai,af,ac⟩:=cJ Tryz.info_int;have HS:=ar h;have sf:=ar eT;have HT:=ar hT;clear h eT hT;have rO:=NJ n hn w;have ae:Hid (Bl w n [] (.slice (some ⟨w.heap.size,0,none⟩) 0 n) (w.alloc (.cells (madeCells #[.int .i64 0] n) 3))):=by
  refine⟨⟨rfl,.inr ⟨w.heap.size,n,madeCells #[.int .i64 0] n,rfl,aG _,bm.new _ _ _,by simp,by unfold maxLen;omega,by simp[madeCells],by simp[cW]⟩⟩,(ay.refl _ _).alloc _,by simp,by simp⟩
 go_enter Tryz.func173,Tryz.ntmps173;go_wp2_with fail;go_step3;go_wp2_with fail;go_step3;go_wp2_with fail;clear rO;go_loopg [5,10] 4 (λgh s5 Va wx=>∃k:Nat,k+gh=4/\Va= .int .i64 (k:Int)/\Hid (Bl w n (fk (az B ps) (64*k)) s5 wx))
 case atStart=>exact⟨0,by omega,rfl,ae.out⟩
 case round=>
  obtain⟨k,hk,rfl,J⟩:=hrel;cases gk with
  |zero=>
   obtain rfl:k=4:=by omega
   clear hk;have HM:Hid (pX w ((bb (az B ps)).take n) (.returned u5) wr):=by
    show pX _ _ _ _;have e:bb (az B ps)=fk (az B ps) (64*4):=rfl;rw[e,aQ J.out.2.2.1];exact J.out.made
   go_wp2_with fail;rw[Exit.noGoto_ret];go_ret;exact HM.out
  |succ gg=>
   have ag:k<4:=by omega
   have Z:(k:Int)<4:=by omega
   have ez:(0:Int)<=(k:Int):=by omega
   have HF:=ar (zj (HS.out.keep J.out.2.1 (by simp) (by simp)) sf.out k ag);have HY:=ar (Rk (az B ps) k);go_wp2_with fail;refine HF.out.mono ?_;rintro e w' ⟨rfl,rfl⟩;clear HF;go_wp2_with fail;clear ez Z;go_loopg [5,7] (uu (Ee (az B ps) k)).length (λgh s5 s7 wx=>∃(y:Nat) (G:List Nat),gh=(uu y).length/\s7= .int .u64 (y:Int)/\
    Hid (y<18446744073709551616/\uu (Ee (az B ps) k)=G++uu y/\Bl w n (fk (az B ps) (64*k)++G.map (64*k+·)) s5 wx))
   case atStart=>exact⟨_,[],rfl,rfl,HY.out,rfl,by rw[List.map_nil,bq];exact J.out⟩
   case round=>
    clear J HY;obtain⟨y,G,YI,rfl,J⟩:=hrel;cases gk with
    |zero=>
     have hy:y=0:=NK J.out.1 (bg YI.symm);subst hy;have Uv:Hid (Bl w n (fk (az B ps) (64*(k+1))) u5 wr):=by
      show Bl _ _ _ _ _;obtain⟨-,h2,h3⟩:=J.out;rw[sS sf.out,h2,Ed,bq];exact h3
     clear J YI;have Z:(k:Int)<4:=by omega
     have ez:(0:Int)<=(k:Int):=by omega
     go_wp2_with fail;go_roundg gg;case measure=>omega
     case rel=>exact⟨k+1,by omega,by go_num,Uv⟩
    |succ g2=>
     have Mu:y≠0:=by
      intro e;subst e;rw[Ed] at YI;cases YI
     obtain⟨hc,hb⟩:=Ec y Mu J.out.1;have e0:((y:Int)==0)=false:=by simp;omega
     have e1:((y:Int) != 0)=true:=by simp;omega
     by_cases Rs:(fk (az B ps) (64*k)++G.map (64*k+·)).length=n
     ·have HM:Hid (pX w ((bb (az B ps)).take n) (.returned u5) wr):=by
       show pX _ _ _ _;obtain⟨-,h2,h3⟩:=J.out;obtain⟨r,hr⟩:=Dh (az B ps) (64*(k+1)) 256 (by omega);have e:bb (az B ps)=fk (az B ps) 256:=rfl;rw[sS sf.out,h2,dZ] at hr;rw[e,hr,<-bf (fk (az B ps) (64*k)),bf,List.take_left' Rs];exact h3.made
      obtain⟨a,cap,rfl,q1,q2⟩:=gD J.out.2.2.1;rw[Rs] at HM ⊢;clear J YI hb hc Mu;go_wp2_with fail;rw[Exit.noGoto_ret];go_ret;exact HM.out
     ·obtain⟨f1,f2,⟨f3,f4,f5,f6⟩⟩:=J.out
      have ah:=ar (aaV y f1 Mu wr (HT.out.keep f4));obtain⟨sR,Ej⟩:=Rp y f1 Mu;have Rt:=ar Ej;have aa:(fk (az B ps) (64*k)++G.map (64*k+·)).length+1<=n:=by omega
      have pY:Hid (uu (Ee (az B ps) k)=(G++[Lib.ctz 64 y])++uu (y &&& (y-1))):=by
       show _=_;rw[f2,hb,bf];rfl
      have aj:Hid (g2=(uu (y &&& (y-1))).length):=by
       show _=_;rw[hb,bH] at YI;omega
      have ak:Hid (fk (az B ps) (64*k)++(G++[Lib.ctz 64 y]).map (64*k+·)=(fk (az B ps) (64*k)++G.map (64*k+·))++[64*k+Lib.ctz 64 y]):=by
       show _=_;rw[dZ,bf];rfl
      obtain⟨a,cap,rfl,q1,q2⟩:=gD f3;have zZ:=ar f3;have gI:=ar f4;have Xq:=f4.size;clear f1 f2 f3 f4 f5 f6 J YI hb Ej;generalize fk (az B ps) (64*k)++G.map (64*k+·)=L at *;generalize y &&& (y-1)=z at *;generalize Lib.ctz 64 y=c at *;have HI:Hid (cW (L++[64*k+c])=cW L++[.int .i64 ((k:Int)*64+(c:Int))]):=by
       show _=_;rw[sW];have :((64*k+c:Nat):Int)=(k:Int)*64+(c:Int):=by omega
       simp only[cW,List.map_cons,List.map_nil,this]
      have Ek:Hid ((L++[64*k+c]).length=L.length+1):=by show _=_;simp
      have Z:(k:Int)<4:=by omega
      have ez:(0:Int)<=(k:Int):=by omega
      have aq:(0:Int)<=(c:Int):=by omega
      have au:(c:Int)<64:=by omega
      generalize L.length=q at *;have e2:(q==n)=false:=by simpa using Rs
      have e3:((q:Int)==(n:Int))=false:=by simp;omega
      go_wp2_with fail;refine ah.out.mono ?_;rintro e w' ⟨rfl,rfl⟩;go_wp2_with(at_builtin;refine dE _ rfl _ _ 134 rfl w.heap.size 3 i0 (.int .i64 0) 1 8 Tryz.underlying134 hi ai af ac rfl (by decide) (.slice a q cap) q _ rfl (zZ.out.alloc _) ⟨wr.heap.size,0,none⟩ 1 1 [.int .i64 ((k:Int)*64+(c:Int))] rfl rfl ?c1 ?c2 (by unfold maxLen;omega) (by omega) (by simp;omega) ?_);case c1=>exact iP _ [_] _ _ rfl
      case c2=>simp[Value.oneCell']
      intro v' w1 U V W;have z6:=ar U;have iH:=ar ((gI.out.alloc _).grown V (cE zZ.out));have ap:Hid (v'≠.slice none 0 0):=W;clear U V W;go_wp2_with fail;go_roundg g2;case measure=>omega
      case rel=>
       refine⟨z,G++[c],aj.out,rfl,Rt.out,pY.out,?_⟩;rw[ak.out];refine⟨?_,iH.out,by rw[Ek.out];exact aa,ap.out⟩;rw[HI.out,Ek.out];exact z6.out
def jL (w:World) (v:Value) (g:Nat) (own:List Nat):Prop:=w.ownsRow g 3 1 v own.length (cW own)/\∀k,v.ownBlock=some k->k=g
theorem jL.reads(h:jL w v g own):Reads w v g (cW own):=by
 obtain⟨Z,W⟩:=h;obtain⟨V,U⟩:=Z;rcases U with ⟨rfl,h6⟩|⟨J,cap,G,rfl,hg,hh,y,h8,h9,z⟩
 ·have y:cW own=[]:=bg (by rw[fO];exact h6)
  exact⟨none,0,by rw[y];rfl,by simp[y],by simp[maxLen],λh=>absurd y h⟩
 ·obtain rfl:=W J rfl
  have :=eE.reads (w:=w) (g:=J) ⟨V,_,cap,rfl,y,h8,λ_=>⟨rfl,G,hh,h9,z⟩⟩;exact this
theorem jL.keep(h:jL w v g own){l:List Nat}(z:ay l w w')(G:g∉l):jL w' v g own:=
 ⟨cO h.1 z λk y=>by rw[h.2 k y];exact G,h.2⟩
theorem jL.nil(w:World)(g:Nat):jL w (.slice none 0 0) g []:=⟨⟨rfl,.inl ⟨rfl,rfl⟩⟩,λk h=>by cases h⟩
theorem jL.of_row(h:w.ownsRow y 3 1 v own.length (cW own)):∃g,jL w v g own/\y<=g:=by
 obtain⟨U,W⟩:=h;rcases W with ⟨rfl,h6⟩|⟨V,cap,J,rfl,hg,hh,Z,h8,h9,z⟩
 ·exact⟨y,⟨⟨U,.inl ⟨rfl,h6⟩⟩,λk G=>by cases G⟩,aG _⟩
 ·exact⟨V,⟨⟨U,.inr ⟨V,cap,J,rfl,aG _,hh,Z,h8,h9,z⟩⟩,λk G=>by cases G;rfl⟩,hg⟩
theorem jL.away(h:jL w v g own)(G:J<=g){l:List Nat}(z:ay l w w')(hl:∀x∈l,w.heap.size<=x):∃y,jL w' v y own/\J<=y:=by
 have h1:=h.1;obtain⟨h0,V⟩:=h1;rcases V with ⟨rfl,h6⟩|⟨y,cap,aa,rfl,hg,Z,h7,h8,h9,U⟩
 ·exact⟨J,⟨⟨h0,.inl ⟨rfl,h6⟩⟩,λk z=>by cases z⟩,aG _⟩
 ·obtain rfl:=h.2 y rfl
  have W:y<w.heap.size:=(Array.getElem?_eq_some_iff.1 Z).1;exact⟨y,h.keep z (λhm=>by have :=hl _ hm;omega),G⟩
variable {P:Program} {n:Nat} {r:Option Nat} {ops:Array Oper} {Q:Exit->Act->World->Prop}
theorem Bo{a:Act}{y:Result Next}(h:o.upon P a next Q y):o.uponIn { Fence.wide with round:=r } n P a next Q y:=by
 unfold Oper.upon at h;split at h<;>unfold Oper.uponIn<;>simp only
 ·exact h
 ·exact h
 ·exact h
 ·exact⟨λh=>(by cases h),callsIn_wide.2 h⟩
 ·refine⟨λh=>(by cases h),λc cs _=> ?_⟩
  obtain⟨v,w',G,z⟩:=h c cs;exact⟨v,w',G,stepsIn_wide.2 z⟩
 ·exact h
 ·exact h.elim
theorem qZ{a:Act}(y:∀c,o.op≠.defer c)(h:o.wp P a w next Q):o.wpIn { Fence.wide with round:=r } n P a w next Q:=by
 refine⟨λ_ _=>trivial,?_⟩;rw[Oper.semAt_eq _ _ _ y];exact Bo h
theorem NL{K z:Act->World->Prop}(J:¬LetsOut Q)(G:∀(i:Nat) (o:Oper),ops[i]? =some o->∀c,o.op≠.defer c)(y:∀a w,K a w->z a w){i:Nat}{a:Act}{w:World}(h:wpOp P ops Q i K a w):wpOpIn { Fence.wide with round:=r } n P ops Q i z a w:=by
 unfold wpOp at h;unfold wpOpIn;cases ho:ops[i]? with
 |none=>rw[ho] at h;exact y _ _ h
 |some o=>
  rw[ho] at h;simp only at h ⊢;split
  ·rename_i hw
   rw[aB hw] at h;rcases h with h|h
   ·exact Oper.wpIn_mono y (qZ (G i o ho) h)
   ·exact absurd h.2 J
  ·rename_i hw
   rw[aA hw] at h;exact⟨λ_ _=>trivial,y _ _ h⟩
theorem KA{md:Region.Mode}(J:¬LetsOut Q)(z:∀(i:Nat) (o:Oper),ops[i]? =some o->∀c,o.op≠.defer c):∀(fuel:Nat) (y:Array Bool) {a:Act} {w:World},wpAny P md ops Q fuel y a w->wpAnyIn { Fence.wide with round:=r } n P md ops Q fuel y a w:=by
 intro fuel;induction fuel with
 |zero=>intro y a w h;exact h
 |succ fuel ih=>
  intro y a w h;exact⟨h.1,λi G=>NL J z (λa w h=>ih _ h) (h.2 i G)⟩
theorem sX{a:Act}(G:P.follows .mixedOrders=true)(J:¬LetsOut Q)(y:∀(i:Nat) (o:Oper),ops[i]? =some o->∀c,o.op≠.defer c)
  (h:wpAny P .any ops Q ops.size (Array.replicate ops.size false) a { w with drawn:=w.drawn+1 }):(Code.region z ops true).wpIn { Fence.wide with round:=r } n P Q a w:=
 wpIn_region_any G (KA J y _ _ h)
theorem KeepsFrom.of_keeps{B:Nat}(h:ay l w w')(J:∀k,k∈l->k<w.heap.size->k<B\/∃c T,bm w k c T):KeepsFrom B w w':=by
 refine⟨h.size,λk o Z z V=> ?_⟩;have y:=(Array.getElem?_eq_some_iff.1 z).1;refine(h.block k y λU=> ?_).trans z;rcases J k U y with W|⟨c,T,G⟩
 ·omega
 ·rw[G] at z
  cases z;cases V
theorem bm.turn{c:Array Value}{T:Nat}(h:bm w b c T)(J:w.grownBy w' row)(z:∀r,row=some r->∃o:Obj,w.heap[r]? =some o/\o.isCells=false):bm w' b c T:=by
 refine(J.block b h.lt λe=> ?_).trans h;obtain⟨o,y,G⟩:=z b e.symm;rw[h] at y;cases y;cases G
theorem ay.turn{y:World}{B:Nat}(h:ay l w y)(U:y.grownBy w' row)(z:∀r,row=some r->B<=r)(V:w.heap.size<=B):ay l w w':=
 h.trans (l':=row.toList) (ay.of_grown U λk G=> .inl (by rw[G];simp)) λx J=> .inr (by have :=z x (by simpa using J);omega)
end Go.Proofs.YtcecbdeamjigiaaGreatDoor
