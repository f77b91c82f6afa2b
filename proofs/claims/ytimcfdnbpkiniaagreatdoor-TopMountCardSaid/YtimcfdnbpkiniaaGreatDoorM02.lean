/- Lemmas. -/
import Derived.Test.YtimcfdnbpkiniaaGreatDoorM01
import Derived.BigRegion
import Derived.StillTailTactics
import Derived.Lib.TrailingZeros
import Derived.IntWalk
import Derived.WalkMore
import Derived.RangeFuncWrites
import Derived.RangeFuncLeaves
import Derived.RangeFuncCalls
import Derived.RangeFuncRecord
import Derived.OrdersIn
import Derived.TacticsIn
set_option maxHeartbeats 4000000
set_option maxRecDepth 100000
namespace Go.Proofs.YtimcfdnbpkiniaaGreatDoor
open Go.Proofs.Tryz
section
open Go.RowKit
variable{w w':World}{G J K U a b c d e f g gp h j n x y z:Nat}{B X:List Int}{ps qs:List (Int×Int)}{l own:List Nat}{v:Value}{o:Oper}{next:Act->World->Prop}{row:Option Nat}
theorem kW.setW{z:List (Int×Int)}(h:kW w b G B X z)(i:Nat)(hi:i<3128)(x:Int):kW (w.setCell ⟨b,3128+i,none⟩ (.int .u64 x)) b G B (X.set i x) z:=by
 obtain⟨lb,lx,V,W,J,h3⟩:=h;refine⟨lb,by rw[cY];exact lx,V,?_,?_,h3⟩
 ·have :=W.set (3128+i) (.int .u64 x)
  rwa[Bd _ lb (by omega)] at this
 ·refine eu J (l:=[b]) ((ay.refl [b] _).setCell (by simp) _) λk U=> ?_
  have :=dQ J k U;simp;omega
theorem kW.drew{z:List (Int×Int)}(h:kW w b G B X z):kW w.drew b G B X z:=h.keep ((ay.refl [] w).drew) (by simp) (by simp)
theorem kW.note{z:List (Int×Int)}(h:kW w b G B X z){k:Nat}(J:k<z.length):
  ∃cap,w.cell? ⟨b,6256,none⟩=some (.slice G z.length cap)/\z.length<=cap/\cap<=maxLen/\w.cell? ⟨G,k*2,none⟩=some (.int .i64 (iQ z k))/\w.cell? ⟨G,k*2+1,none⟩=some (.int .u64 (l9 z k)):=by
 obtain⟨lb,lx,vp,V,h2,h3⟩:=h;obtain⟨g,ho,W⟩:=eZ.of_row h2;obtain⟨aa,⟨cap,hv,q1,q2⟩,U,-⟩:=ho.cell (by omega);obtain rfl:g=G:=h3 g (W (by omega)).2;subst hv;refine⟨cap,by rw[V.cell,uP _ lb lx],q1,q2,?_,?_⟩
 ·rw[U _ (by omega)];exact(ny z k J).1
 ·rw[U _ (by omega)];exact(ny z k J).2
theorem kW.slice{z:List (Int×Int)}(h:kW w b J B X z):
  ∃a cap,w.cell? ⟨b,6256,none⟩=some (.slice a z.length cap)/\w.frozen? ⟨b,6256,none⟩=false/\z.length<=cap/\cap<=maxLen:=by
 obtain⟨lb,lx,V,G,U,W⟩:=h;obtain⟨a,cap,rfl,q1,q2⟩:=iV U;exact⟨a,cap,by rw[G.cell,uP _ lb lx],G.frozen _,q1,q2⟩
theorem ME (z:List (Int×Int))(m:Nat)(h:m<=z.length):(jb z).take (m*2)=jb (z.take m):=by
 have e:jb z=jb (z.take m)++jb (z.drop m):=by rw[<-uz,dt]
 rw[e,List.take_left' (by rw[sK,aJ,cT h])]
theorem kW.cut{J:List (Int×Int)}(h:kW w b gp B X J)(m:Nat)(G:m<=J.length){a:Option Addr}{n cap:Nat}(W:w.cell? ⟨b,6256,none⟩=some (.slice a n cap)):
  kW (w.setCell ⟨b,6256,none⟩ (.slice a m cap)) b gp B X (J.take m):=by
 obtain⟨lb,lx,vp,V,h2,h3⟩:=h;rw[V.cell,uP _ lb lx] at W;cases W;refine⟨lb,lx,.slice a m cap,?_,?_,?_⟩
 ·have :=V.set 6256 (.slice a m cap)
  rwa[Be _ lb lx] at this
 ·have z:ay [b] w (w.setCell ⟨b,6256,none⟩ (.slice a m cap)):=(ay.refl [b] _).setCell (by simp) _
  obtain⟨h4,h5⟩:=h2;rw[aJ,cT G];refine⟨by rw[sK,aJ,cT G],?_⟩;rcases h5 with ⟨e,e'⟩|⟨g,aa,U,e,hg,hh,q2,q3,q4,q5⟩
  ·cases e
   obtain rfl:m=0:=by omega
   exact .inl ⟨rfl,rfl⟩
  ·cases e
   refine .inr ⟨g,cap,U,rfl,hg,?_,by omega,q3,q4,?_⟩
   ·rw[<-hh]
    exact z.block g (Array.getElem?_eq_some_iff.1 hh).1 (by simp;omega)
   ·rw[<-ME _ _ G,<-q5,List.take_take,cT (by omega)]
 ·intro k z
  cases a with
  |none=>cases z
  |some ad=>exact h3 k z
def MF (w:World) (b h:Nat) (B:List Int) (ps:List (Int×Int)) (e:Ending) (w':World):Prop:=
 e= .returned (.tuple #[])/\eK w' b h B ps/\ay [b] w w'
theorem TN (h:eK w b gp B ps)(m:Int):
  Calls prog 104 #[b,m] w (MF w b gp B (ps.take (DK m ps.length))):=by
 have Fb:=ar h.inp;have ae:Hid (kW w b gp B (az B (ps.take ps.length)) (kV B ps)):=by rw[aW (aH _)];exact h.raw
 obtain⟨a,cap,G,f0,q1,q2⟩:=h.raw.slice;have hm:=Xi m ps.length;have ai:=Jr m ps.length;clear h;rw[sM] at *;unfold maxLen at q2;generalize DK m ps.length=q at *;generalize af:ps.length=n at *;have W:=ar af;clear af;have V:Hid ((kV B ps).length=n):=by rw[<-W.out];exact sM B ps
 have ak:(m<0/\q=0)\/(0<=m/\m<=(n:Int)/\m=(q:Int))\/((n:Int)<m/\0<=m/\q=n):=by omega
 clear ai;rcases ak with ⟨k1,rfl⟩|⟨k1,k2,rfl⟩|⟨k1,k2,rfl⟩
 ·go_in
  go_wp2_with fail;clear G f0;go_loopg [5] (n-0) (λgh s5 wx=>∃k:Nat,k=0+gh/\k<=n/\s5= .int .i64 ((k:Int)-1)/\Hid (kW wx b gp B (az B (ps.take k)) (kV B ps)/\ay [b] w wx))
  case atStart=>exact⟨n,by omega,by omega,rfl,ae.out,ay.refl _ _⟩
  case round=>
   obtain⟨k,hk,ag,rfl,U⟩:=hrel;cases gk with
   |zero=>
    obtain rfl:k=0:=by omega
    have aa:¬((0:Int)<=((0:Nat):Int)-1):=by omega
    obtain⟨z,J⟩:=U.out;obtain⟨a,cap,G,f0,q1,q2⟩:=z.slice;have HC:=ar (z.cut 0 (by rw[V.out];omega) G);rw[V.out] at G q1;unfold maxLen at q2;rw[xM _ _ _ (by rw[W.out];omega)] at HC;obtain⟨HT,jr⟩:=hh2 (FJ Fb.out 0) J;have b1:(0:Int)<=(n:Int):=by omega
    have b2:(0:Int)<=(cap:Int):=by omega
    clear z J U hk;go_wp2_with fail;go_end0;exact⟨rfl,⟨HC.out,HT.out⟩,jr.out.setCell (by simp) _⟩
   |succ g=>
    obtain⟨k,rfl⟩:∃k',k=k'+1:=⟨k-1,by omega⟩;have ek:((k+1:Nat):Int)-1=(k:Int):=by omega
    rw[ek];clear ek;have aa:(0:Int)<=(k:Int):=by omega
    have cM:(0:Int)<=(k:Int):=by omega
    have aj:(k:Int)<(n:Int):=by omega
    obtain⟨z,J⟩:=U.out;obtain⟨ah,G,q1,q2,c1,c2⟩:=z.note (k:=k) (by rw[V.out];omega);obtain⟨e1,e2⟩:=FK B ps k (by rw[W.out];omega);obtain⟨x0,x1⟩:=yO Fb.out (k:=k) (by rw[W.out];omega);have HU:=ar (MB B ps k (by rw[W.out];omega));rw[e1] at c1;rw[e2] at c2;clear e1 e2;rw[V.out] at G q1;unfold maxLen at q2;generalize iQ ps k=x at *;generalize (az B (ps.take k)).getD x.toNat 0=ac at *;obtain⟨j,rfl⟩:=cA x0;rw[aG] at HU;have x2:(j:Int)<3128:=x1;have hj:j<3128:=by omega
    have d1:=z.cell1 hj;have d2:wr.frozen? ⟨b,3128+j,none⟩=false:=by obtain⟨lb,lx,vp,h1,h2,h3⟩:=z;exact h1.frozen _
    obtain⟨HS,jr⟩:=hh2 (z.drew.setW j hj ac) J;generalize (az B (ps.take (k+1))).getD j 0=au at *;clear z J U x1;go_wp2_with fail
    go_still_tail 20,(by kernel_rfl)
    go_wp2_with fail;go_roundg g;case measure=>omega
    case rel=>
     refine⟨k,by omega,by omega,by first|rfl|go_num,?_,jr.out.drew.setCell (by simp) _⟩;have :=HS.out;rw[HU.out] at this;exact this
 ·go_in
  go_wp2_with fail;clear G f0;go_loopg [5] (n-q) (λgh s5 wx=>∃k:Nat,k=q+gh/\k<=n/\s5= .int .i64 ((k:Int)-1)/\Hid (kW wx b gp B (az B (ps.take k)) (kV B ps)/\ay [b] w wx))
  case atStart=>exact⟨n,by omega,by omega,rfl,ae.out,ay.refl _ _⟩
  case round=>
   obtain⟨k,hk,ag,rfl,U⟩:=hrel;cases gk with
   |zero=>
    obtain rfl:q=k:=by omega
    have aa:¬((q:Int)<=(q:Int)-1):=by omega
    obtain⟨z,J⟩:=U.out;obtain⟨a,cap,G,f0,q1,q2⟩:=z.slice;have HC:=ar (z.cut q (by rw[V.out];omega) G);rw[V.out] at G q1;unfold maxLen at q2;rw[xM _ _ _ (by rw[W.out];omega)] at HC;obtain⟨HT,jr⟩:=hh2 (FJ Fb.out q) J;have b1:(q:Int)<=(n:Int):=by omega
    have b2:(q:Int)<=(cap:Int):=by omega
    clear z J U hk;go_wp2_with fail;go_end0;exact⟨rfl,⟨HC.out,HT.out⟩,jr.out.setCell (by simp) _⟩
   |succ g=>
    obtain⟨k,rfl⟩:∃k',k=k'+1:=⟨k-1,by omega⟩;have ek:((k+1:Nat):Int)-1=(k:Int):=by omega
    rw[ek];clear ek;have aa:(q:Int)<=(k:Int):=by omega
    have cM:(0:Int)<=(k:Int):=by omega
    have aj:(k:Int)<(n:Int):=by omega
    obtain⟨z,J⟩:=U.out;obtain⟨ah,G,q1,q2,c1,c2⟩:=z.note (k:=k) (by rw[V.out];omega);obtain⟨e1,e2⟩:=FK B ps k (by rw[W.out];omega);obtain⟨x0,x1⟩:=yO Fb.out (k:=k) (by rw[W.out];omega);have HU:=ar (MB B ps k (by rw[W.out];omega));rw[e1] at c1;rw[e2] at c2;clear e1 e2;rw[V.out] at G q1;unfold maxLen at q2;generalize iQ ps k=x at *;generalize (az B (ps.take k)).getD x.toNat 0=ac at *;obtain⟨j,rfl⟩:=cA x0;rw[aG] at HU;have x2:(j:Int)<3128:=x1;have hj:j<3128:=by omega
    have d1:=z.cell1 hj;have d2:wr.frozen? ⟨b,3128+j,none⟩=false:=by obtain⟨lb,lx,vp,h1,h2,h3⟩:=z;exact h1.frozen _
    obtain⟨HS,jr⟩:=hh2 (z.drew.setW j hj ac) J;generalize (az B (ps.take (k+1))).getD j 0=au at *;clear z J U x1;go_wp2_with fail
    go_still_tail 20,(by kernel_rfl)
    go_wp2_with fail;go_roundg g;case measure=>omega
    case rel=>
     refine⟨k,by omega,by omega,by first|rfl|go_num,?_,jr.out.drew.setCell (by simp) _⟩;have :=HS.out;rw[HU.out] at this;exact this
 ·go_in
  go_wp2_with fail;clear G f0;go_loopg [5] (q-q) (λgh s5 wx=>∃k:Nat,k=q+gh/\k<=q/\s5= .int .i64 ((k:Int)-1)/\Hid (kW wx b gp B (az B (ps.take k)) (kV B ps)/\ay [b] w wx))
  case atStart=>exact⟨q,by omega,by omega,rfl,ae.out,ay.refl _ _⟩
  case round=>
   obtain⟨k,hk,ag,rfl,U⟩:=hrel;cases gk with
   |zero=>
    obtain rfl:q=k:=by omega
    have aa:¬((q:Int)<=(q:Int)-1):=by omega
    obtain⟨z,J⟩:=U.out;obtain⟨a,cap,G,f0,q1,q2⟩:=z.slice;have HC:=ar (z.cut q (by rw[V.out];omega) G);rw[V.out] at G q1;unfold maxLen at q2;rw[xM _ _ _ (by rw[W.out];omega)] at HC;obtain⟨HT,jr⟩:=hh2 (FJ Fb.out q) J;have b1:(q:Int)<=(q:Int):=by omega
    have b2:(q:Int)<=(cap:Int):=by omega
    clear z J U hk;go_wp2_with fail;go_end0;exact⟨rfl,⟨HC.out,HT.out⟩,jr.out.setCell (by simp) _⟩
   |succ g=>omega
theorem P4{V:Nat}{z:List (Int×Int)}(h:kW w b V B X z):
  Calls prog 102 #[b] w λe w'=>e=(z.length:Int)/\w=w':=by
 obtain⟨lb,lx,U,G,J,W⟩:=h;have hc:w.cell? ⟨b,6256,none⟩=some U:=by rw[G.cell,uP _ lb lx]
 obtain⟨a,cap,rfl,q1,q2⟩:=iV J;clear G J W lb lx;generalize z.length=n at *;go_in;go_wp2;go_ret;exact⟨rfl,rfl⟩
theorem TP (h:eK w b z B ps):
  Calls prog 102 #[b] w λe w'=>e=(ps.length:Int)/\w=w':=by
 have :=P4 h.raw;rw[sM] at this;exact this
end
section
variable{w w':World}{G J K U a b c d e f g gp h j n x y z:Nat}{B X:List Int}{ps qs:List (Int×Int)}{l own:List Nat}{v:Value}{o:Oper}{next:Act->World->Prop}{row:Option Nat}
def ones (n x:Nat):Nat:=((List.range n).filter λj=>x.testBit j).length
def zz (x:Nat):List Nat:=(List.range 64).filter λj=>x.testBit j
theorem TQ (x:Nat):ones 64 x=(zz x).length:=rfl
theorem pA (b a j:Nat)(h:b<256):(b+256*a).testBit j=if j<8 then b.testBit j else a.testBit (j-8):=by
 have :=Nat.testBit_two_pow_mul_add a (b:=b) (i:=8) (by simpa using h) j;rw[Nat.add_comm];simpa using this
theorem xO (b m a M:Nat)(z:b<256)(G:m<256):(b+256*a) &&& (m+256*M)=(b &&& m)+256*(a &&& M):=by
 apply Nat.eq_of_testBit_eq;intro j;have h:b &&& m<256:=jU Nat.and_le_left z;rw[j0,pA b a j z,pA m M j G,pA _ _ j h];split<;>simp
theorem iW (p:Nat->Bool)(m n:Nat):(List.range (m+n)).filter p=(List.range m).filter p++((List.range n).filter λj=>p (m+j)).map (m+·):=by
 rw[List.range_add,eJ,List.filter_map];rfl
theorem oQ (n b a:Nat)(h:b<256):ones (8+n) (b+256*a)=ones 8 b+ones n a:=by
 unfold ones;rw[iW,aC,bY]
 congr 1
 ·congr 1
  apply iG;intro j z;rw[b7] at z;rw[pA b a j h,aB z]
 ·congr 1
  apply iG;intro j _;rw[pA b a _ h,aA,dD]
def rep (m:Nat):Nat->Nat
 |0=>0
 |n+1=>m+256*rep m n
def q1 (b:Nat):Nat:=(b/2 &&& 85)+(b &&& 85)
def q2 (b:Nat):Nat:=(b/4 &&& 51)+(b &&& 51)
def q3 (b:Nat):Nat:=(b/16+b)%16
def st1 (n x:Nat):Nat:=(x/2 &&& rep 85 n)+(x &&& rep 85 n)
def st2 (n x:Nat):Nat:=(x/4 &&& rep 51 n)+(x &&& rep 51 n)
def st3 (n x:Nat):Nat:=(x/16+x) &&& rep 15 n
theorem Xk:∀b:Fin 256,∀c:Fin 2,(b.val/2+128*c.val) &&& 85=b.val/2 &&& 85:=by decide+kernel
theorem Xl:∀b:Fin 256,∀c:Fin 4,(b.val/4+64*c.val) &&& 51=b.val/4 &&& 51:=by decide+kernel
theorem DN:∀b:Fin 256,q1 b.val<256/\q2 (q1 b.val)<256/\q2 (q1 b.val)/16<=4/\q2 (q1 b.val)%16<=4/\q3 (q2 (q1 b.val))=ones 8 b.val/\ones 8 b.val<=8:=by decide+kernel
theorem qO (n b a:Nat)(h:b<256):st1 (n+1) (b+256*a)=q1 b+256*st1 n a:=by
 unfold st1 q1;have e:(b+256*a)/2=(b/2+128*(a%2))+256*(a/2):=by omega
 have c:=Xk ⟨b,h⟩ ⟨a%2,by omega⟩;simp only at c;rw[e,rep,xO _ _ _ _ (by omega) (by omega),xO _ _ _ _ h (by omega),c];omega
theorem qP (n b a:Nat)(h:b<256):st2 (n+1) (b+256*a)=q2 b+256*st2 n a:=by
 unfold st2 q2;have e:(b+256*a)/4=(b/4+64*(a%4))+256*(a/4):=by omega
 have c:=Xl ⟨b,h⟩ ⟨a%4,by omega⟩;simp only at c;rw[e,rep,xO _ _ _ _ (by omega) (by omega),xO _ _ _ _ h (by omega),c];omega
theorem afe (x:Nat):x &&& 15=x%16:=by
 have :=dW x 4;simpa using this
theorem qQ (n b a:Nat)(h:b/16<=4)(G:b%16<=4)(z:a%16<=4):st3 (n+1) (b+256*a)=q3 b+256*st3 n a:=by
 unfold st3 q3;have e:(b+256*a)/16+(b+256*a)=(b/16+b+16*(a%16))+256*(a/16+a):=by omega
 rw[e,rep,xO _ _ _ _ (by omega) (by omega),afe];omega
theorem Xm:st1 0 0=0:=rfl
theorem Xn:st2 0 0=0:=rfl
theorem Xo:st3 0 0=0:=rfl
def KQ (a b c d e f g h:Nat):Nat:=a+256*(b+256*(c+256*(d+256*(e+256*(f+256*(g+256*(h+256*0)))))))
theorem TR (x:Nat)(z:x<18446744073709551616):∃a b c d e f g h,(a<256/\b<256/\c<256/\d<256/\e<256/\f<256/\g<256/\h<256)/\x=KQ a b c d e f g h:=by
 refine⟨x%256,x/256%256,x/65536%256,x/16777216%256,x/4294967296%256,x/1099511627776%256,x/281474976710656%256,x/72057594037927936,?_,?_⟩
 ·omega
 ·unfold KQ;omega
theorem tZ (z:a<256)(h:y<K):a+256*y<256*K:=by omega
theorem ua (z:a<=68)(h:y<=K):a+256*y<=68+256*K:=by omega
theorem adq (G:a<256)(hb:b<256)(J:c<256)(z:d<256)(he:e<256)(U:f<256)(V:g<256)(W:h<256):KQ a b c d e f g h<18446744073709551616:=
 bS (tZ G (tZ hb (tZ J (tZ z (tZ he (tZ U (tZ V (tZ W (Nat.zero_lt_one))))))))) (by decide)
theorem adr (G:a<=68)(hb:b<=68)(J:c<=68)(z:d<=68)(he:e<=68)(U:f<=68)(V:g<=68)(W:h<=68):KQ a b c d e f g h<=4919131752989213764:=
 cG (ua G (ua hb (ua J (ua z (ua he (ua U (ua V (ua W (aH 0))))))))) (by decide)
theorem aaX (a3 W V U J f3 G h:Nat)(A6:a3<=8)(B6:W<=8)(C6:V<=8)(D6:U<=8)(E6:J<=8)(F6:f3<=8)(G6:G<=8)(H6:h<=8):∃x4 x5 x6,KQ a3 W V U J f3 G h+KQ a3 W V U J f3 G h/256=x4/\x4+x4/65536=x5/\x5+x5/4294967296=x6/\
  x4<9223372036854775808/\x5<9223372036854775808/\x6<9223372036854775808/\x6%128=a3+(W+(V+(U+(J+(f3+(G+(h+0))))))):=by
 refine⟨_,_,_,rfl,rfl,rfl,?_⟩;unfold KQ;have k3:(a3+256*(W+256*(V+256*(U+256*(J+256*(f3+256*(G+256*(h+256*0))))))))/256=W+256*(V+256*(U+256*(J+256*(f3+256*(G+256*h))))):=by omega
 rw[k3];clear k3;generalize hy:a3+256*(W+256*(V+256*(U+256*(J+256*(f3+256*(G+256*(h+256*0)))))))+(W+256*(V+256*(U+256*(J+256*(f3+256*(G+256*h))))))=y;have aa:y=(a3+W+256*(W+V))+65536*((V+U+256*(U+J))+65536*((J+f3+256*(f3+G))+65536*(G+h+256*h))):=by omega
 clear hy;have k4:y/65536=(V+U+256*(U+J))+65536*((J+f3+256*(f3+G))+65536*(G+h+256*h)):=by omega
 rw[k4];subst aa;clear k4;generalize hz:a3+W+256*(W+V)+65536*(V+U+256*(U+J)+65536*(J+f3+256*(f3+G)+65536*(G+h+256*h)))+(V+U+256*(U+J)+65536*(J+f3+256*(f3+G)+65536*(G+h+256*h)))=z;have ac:z=(a3+W+V+U+256*(W+V+U+J)+65536*(V+U+J+f3+256*(U+J+f3+G)))+4294967296*((J+f3+G+h)+256*(f3+G+h)+65536*(G+h+256*h)):=by omega
 clear hz;have k5:z/4294967296=(J+f3+G+h)+256*(f3+G+h)+65536*(G+h+256*h):=by omega
 rw[k5];refine⟨by omega,by omega,by omega,?_⟩;omega
theorem MG (x:Nat)(hx:x<18446744073709551616):∃x1 x2 x3 W V x6,st1 8 x=x1/\st2 8 x1=x2/\st3 8 x2=x3/\x3+x3/256=W/\W+W/65536=V/\V+V/4294967296=x6/\
  x1<18446744073709551616/\x2<18446744073709551616/\x2/16+x2<18446744073709551616/\x3<18446744073709551616/\W<9223372036854775808/\V<9223372036854775808/\x6<9223372036854775808/\x6%128=ones 64 x:=by
 obtain⟨a,b,c,d,e,f,g,h,⟨ha,hb,hc,hd,he,hf,hg,hh⟩,rfl⟩:=TR x hx;have A:=DN ⟨a,ha⟩;have B:=DN ⟨b,hb⟩;have C:=DN ⟨c,hc⟩;have D:=DN ⟨d,hd⟩;have E:=DN ⟨e,he⟩;have F:=DN ⟨f,hf⟩;have G:=DN ⟨g,hg⟩;have H:=DN ⟨h,hh⟩;simp only at A B C D E F G H;have J:st1 8 (KQ a b c d e f g h)=KQ (q1 a) (q1 b) (q1 c) (q1 d) (q1 e) (q1 f) (q1 g) (q1 h):=by
  unfold KQ;rw[qO _ _ _ ha,qO _ _ _ hb,qO _ _ _ hc,qO _ _ _ hd,qO _ _ _ he,qO _ _ _ hf,qO _ _ _ hg,qO _ _ _ hh,Xm]
 have U:st2 8 (KQ (q1 a) (q1 b) (q1 c) (q1 d) (q1 e) (q1 f) (q1 g) (q1 h))=KQ (q2 (q1 a)) (q2 (q1 b)) (q2 (q1 c)) (q2 (q1 d)) (q2 (q1 e)) (q2 (q1 f)) (q2 (q1 g)) (q2 (q1 h)):=by
  unfold KQ;rw[qP _ _ _ A.1,qP _ _ _ B.1,qP _ _ _ C.1,qP _ _ _ D.1,qP _ _ _ E.1,qP _ _ _ F.1,qP _ _ _ G.1,qP _ _ _ H.1,Xn]
 have z:st3 8 (KQ (q2 (q1 a)) (q2 (q1 b)) (q2 (q1 c)) (q2 (q1 d)) (q2 (q1 e)) (q2 (q1 f)) (q2 (q1 g)) (q2 (q1 h)))=KQ (ones 8 a) (ones 8 b) (ones 8 c) (ones 8 d) (ones 8 e) (ones 8 f) (ones 8 g) (ones 8 h):=by
  unfold KQ;rw[qQ _ _ _ A.2.2.1 A.2.2.2.1 (by omega),qQ _ _ _ B.2.2.1 B.2.2.2.1 (by omega),qQ _ _ _ C.2.2.1 C.2.2.2.1 (by omega),qQ _ _ _ D.2.2.1 D.2.2.2.1 (by omega),
   qQ _ _ _ E.2.2.1 E.2.2.2.1 (by omega),qQ _ _ _ F.2.2.1 F.2.2.2.1 (by omega),qQ _ _ _ G.2.2.1 G.2.2.2.1 (by omega),qQ _ _ _ H.2.2.1 H.2.2.2.1 (by omega),Xo,
   A.2.2.2.2.1,B.2.2.2.2.1,C.2.2.2.2.1,D.2.2.2.2.1,E.2.2.2.2.1,F.2.2.2.2.1,G.2.2.2.2.1,H.2.2.2.2.1]
 have ho:ones 64 (KQ a b c d e f g h)=ones 8 a+(ones 8 b+(ones 8 c+(ones 8 d+(ones 8 e+(ones 8 f+(ones 8 g+(ones 8 h+0))))))):=by
  unfold KQ;rw[show(64:Nat)=8+(8+(8+(8+(8+(8+(8+(8+0))))))) from rfl,oQ _ _ _ ha,oQ _ _ _ hb,oQ _ _ _ hc,oQ _ _ _ hd,oQ _ _ _ he,oQ _ _ _ hf,oQ _ _ _ hg,oQ _ _ _ hh];rfl
 obtain⟨W,V,x6,p4,p5,p6,b4,b5,b6,hm⟩:=aaX _ _ _ _ _ _ _ _ A.2.2.2.2.2 B.2.2.2.2.2 C.2.2.2.2.2 D.2.2.2.2.2 E.2.2.2.2.2 F.2.2.2.2.2 G.2.2.2.2.2 H.2.2.2.2.2;have l2:KQ (q2 (q1 a)) (q2 (q1 b)) (q2 (q1 c)) (q2 (q1 d)) (q2 (q1 e)) (q2 (q1 f)) (q2 (q1 g)) (q2 (q1 h))<=4919131752989213764:=by
  apply adr
  ·have :=A.2.2.1;have :=A.2.2.2.1;omega
  ·have :=B.2.2.1;have :=B.2.2.2.1;omega
  ·have :=C.2.2.1;have :=C.2.2.2.1;omega
  ·have :=D.2.2.1;have :=D.2.2.2.1;omega
  ·have :=E.2.2.1;have :=E.2.2.2.1;omega
  ·have :=F.2.2.1;have :=F.2.2.2.1;omega
  ·have :=G.2.2.1;have :=G.2.2.2.1;omega
  ·have :=H.2.2.1;have :=H.2.2.2.1;omega
 refine⟨_,_,_,W,V,x6,J,U,z,p4,p5,p6,adq A.1 B.1 C.1 D.1 E.1 F.1 G.1 H.1,?_,?_,?_,b4,b5,b6,?_⟩
 ·clear A B C D E F G H J U z ho p4 p5 p6 hm;omega
 ·clear A B C D E F G H J U z ho p4 p5 p6 hm;omega
 ·clear A B C D E F G H J U z ho p5 p6 hm;omega
 ·rw[ho];exact hm
theorem Cy (p q:Nat->Bool)(n c:Nat)(hc:c<n)(U:∀j,j<c->p j=false/\q j=false)(V:p c=true)(hq:q c=false)(z:∀j,c<j->p j=q j):
  (List.range n).filter p=c::(List.range n).filter q:=by
 obtain⟨d,rfl⟩:∃d,n=c+(1+d):=⟨n-c-1,by omega⟩;have G:∀r:Nat->Bool,(∀j,j<c->r j=false)->(List.range c).filter r=[]:=by
  intro r W;rw[List.filter_eq_nil_iff];intro j J;rw[b7] at J;simp[W j J]
 rw[iW p,iW q,G p λj h=>(U j h).1,G q λj h=>(U j h).2,iW _ 1 d,iW _ 1 d];have s1:(List.range 1).filter (λj=>p (c+j))=[0]:=by simp[dV,V]
 have s2:(List.range 1).filter (λj=>q (c+j))=[]:=by simp[dV,hq]
 have s3:(List.range d).filter (λj=>p (c+(1+j)))=(List.range d).filter (λj=>q (c+(1+j))):=iG λj _=>z _ (by omega)
 rw[s1,s2,s3];simp
theorem xc (k m j:Nat):(2^k*m).testBit j=(decide (k<=j)&&m.testBit (j-k)):=by
 rw[Nat.mul_comm,Nat.testBit_mul_two_pow]
theorem Jt (x:Nat)(h0:x≠0)(hx:x<18446744073709551616):Lib.ctz 64 x<64/\zz x=Lib.ctz 64 x::zz (x &&& (x-1)):=by
 have V:x<2^64:=hx;obtain⟨m,hm,W⟩:=Lib.ctzFrom_spec 64 x (by omega) V;have e:Lib.ctz 64 x=Lib.ctzFrom 64 x:=by simp[Lib.ctz,h0]
 rw[e];refine⟨W,?_⟩;generalize Lib.ctzFrom 64 x=k at *;clear e;have hp:0<2^k:=Nat.two_pow_pos k;have e1:x-1=2^k*(2*m)+(2^k-1):=by
  rw[hm,Nat.mul_add,iJ];omega
 have t0:∀j,(2^k*(2*m)).testBit j=(decide (k<j)&&m.testBit (j-k-1)):=by
  intro j;rw[xc];by_cases h:k<j
  ·obtain⟨d,rfl⟩:∃d,j=k+(d+1):=⟨j-k-1,by omega⟩
   have G:k+(d+1)-k=d+1:=by omega
   rw[G,Nat.testBit_succ,show 2*m/2=m by omega];simp
  ·have :k<=j->(2*m).testBit (j-k)=false:=by
    intro aa;rw[show j-k=0 by omega,Nat.testBit_zero];simp
   by_cases z:k<=j
   ·simp[this z,h]
   ·simp[z,h]
 have U:∀j,x.testBit j=(decide (j=k)||(decide (k<j)&&m.testBit (j-k-1))):=by
  intro j;rw[hm,xc];by_cases h:k<j
  ·obtain⟨d,rfl⟩:∃d,j=k+(d+1):=⟨j-k-1,by omega⟩
   have G:k+(d+1)-k=d+1:=by omega
   rw[G,Nat.testBit_succ,show(2*m+1)/2=m by omega];simp
  ·by_cases z:k=j
   ·subst z;simp[Nat.testBit_zero]
   ·have J:¬k<=j:=by omega
    have h4:¬j=k:=by omega
    simp[h,J,h4]
 have ty:∀j,(x &&& (x-1)).testBit j=(decide (k<j)&&m.testBit (j-k-1)):=by
  intro j;rw[j0,U,e1,Nat.testBit_two_pow_mul_add _ (by omega)];by_cases h:j<k
  ·have z:¬j=k:=by omega
   have J:¬k<j:=by omega
   simp[z,J]
  ·rw[aA h]
   by_cases z:k<j
   ·obtain⟨d,rfl⟩:∃d,j=k+(d+1):=⟨j-k-1,by omega⟩
    have G:k+(d+1)-k=d+1:=by omega
    rw[G,Nat.testBit_succ,show 2*m/2=m by omega];simp
   ·obtain rfl:j=k:=by omega
    simp[Nat.testBit_zero]
 unfold zz;refine Cy _ _ 64 k W ?_ ?_ ?_ ?_
 ·intro j hj
  rw[U,ty];have z:¬j=k:=by omega
  have J:¬k<j:=by omega
  simp[z,J]
 ·rw[U];simp
 ·rw[ty];simp
 ·intro j hj
  rw[U,ty];have z:¬j=k:=by omega
  simp[z]
theorem Ju:zz 0=[]:=by simp[zz]
def In64 (X:List Int):Prop:=∀i,0<=X.getD i 0/\X.getD i 0<18446744073709551616
theorem In64.set(h:In64 X)(i:Nat)(x:Int)(G:0<=x)(z:x<18446744073709551616):In64 (X.set i x):=by
 intro j;rw[aj,fh];split
 ·split
  ·exact⟨G,z⟩
  ·exact⟨by simp,by simp⟩
 ·rw[<-aj];exact h j
theorem In64.put:∀{X:List Int},In64 X->(∀p∈ps,0<=p.2/\p.2<18446744073709551616)->In64 (az X ps):=by
 induction ps with
 |nil=>intro X h _;exact h
 |cons p ps ih=>
  intro X h z;show In64 (az (X.set p.1.toNat p.2) ps);have :=z p (by simp);exact ih (h.set _ _ this.1 this.2) λq G=>z q (by simp[G])
def bw (X:List Int) (k:Nat):Nat:=(X.getD (816+k) 0).toNat
theorem FN (h:In64 X)(k:Nat):bw X k<18446744073709551616:=by have :=h (816+k);unfold bw;omega
theorem aaY (h:In64 X)(k:Nat):((bw X k:Nat):Int)=X.getD (816+k) 0:=by have :=h (816+k);unfold bw;omega
def dG (X:List Int) (b:Nat):Bool:=(bw X (b/64)).testBit (b%64)
def Jv (X:List Int) (k:Nat):Nat:=if k=0 then (18446744073709551615-bw X 0) &&& (18446744073709551615-1) else 18446744073709551615-bw X k
theorem qR (x j:Nat)(h:x<18446744073709551616):(18446744073709551615-x).testBit j=(decide (j<64) && !x.testBit j):=by
 have :=Nat.testBit_two_pow_sub_succ (x:=x) (n:=64) h j;rw[<-this]
 congr 1
 show _=18446744073709551616-(x+1);omega
theorem Xp (X:List Int)(k:Nat):Jv X k<18446744073709551616:=by
 unfold Jv;split
 ·have :(18446744073709551615-bw X 0) &&& (18446744073709551615-1)<=18446744073709551615-bw X 0:=Nat.and_le_left
  omega
 ·omega
theorem MH (h:In64 X)(k j:Nat):(Jv X k).testBit j=(decide (j<64) && !(bw X k).testBit j && !(decide (k=0)&&decide (j=0))):=by
 unfold Jv;split
 ·rename_i hk
  subst hk;rw[j0,qR _ _ (FN h 0),qR _ _ (by omega),show(1:Nat)=2^0 from rfl,Nat.testBit_two_pow];by_cases z:j<64<;>by_cases G:j=0<;>simp[z,G]<;>(intro;omega)
 ·rename_i hk
  rw[qR _ _ (FN h k)];simp[hk]
def gY (X:List Int) (n:Nat):List Nat:=(List.range n).filter λb=>b != 0 && !dG X b
def aZ (X:List Int):List Nat:=gY X 256
theorem xQ (h:In64 X)(k:Nat):gY X (64*(k+1))=gY X (64*k)++(zz (Jv X k)).map (64*k+·):=by
 unfold gY zz;rw[show 64*(k+1)=64*k+64 by omega,iW]
 congr 2
 apply iG;intro j J;rw[b7] at J;rw[MH h,dG,show(64*k+j)/64=k by omega,show(64*k+j)%64=j by omega];by_cases z:k=0<;>by_cases G:j=0
 ·subst z;subst G;simp
 ·simp[z,G,J]
 ·have U:¬(64*k=0):=by omega
  simp[z,G,U]
 ·have :¬(64*k+j=0):=by omega
  simp[z,G,J]
theorem ku:b∈gY X n↔b<n/\b≠0/\dG X b=false:=by
 unfold gY;rw[List.mem_filter,b7];simp
theorem rR (X:List Int)(n:Nat):(gY X n).Nodup:=List.Pairwise.filter _ List.nodup_range
theorem Cz (X:List Int):(aZ X).length<=255:=by
 unfold aZ gY;rw[show(256:Nat)=1+255 from rfl,iW,aC];have h:((List.range 1).filter λb=>b != 0 && !dG X b).length=0:=by simp[dV]
 have z:=fR (λj=>(1+j) != 0 && !dG X (1+j)) (List.range 255);rw[bY,h];simp only[fL] at z;omega
theorem P5 (h:In64 X)(k:Nat):(gY X (64*(k+1))).length=(gY X (64*k)).length+ones 64 (Jv X k):=by
 rw[xQ h,aC,bY,TQ]
def setW (x j:Nat) (u:Bool):Nat:=if u=true then (x &&& (18446744073709551615-2^j)) ||| 2^j else x &&& (18446744073709551615-2^j)
theorem FO (h:j<64):2^j<18446744073709551616:=bS (Nat.pow_lt_pow_right (by decide) h) (by decide)
theorem aaZ (z:x<18446744073709551616)(G:j<64)(u:Bool):setW x j u<18446744073709551616:=by
 have h:x &&& (18446744073709551615-2^j)<2^64:=jU Nat.and_le_left z;unfold setW;split
 ·exact Nat.or_lt_two_pow h (FO G)
 ·exact h
theorem KR (V:x<18446744073709551616)(U:j<64)(u:Bool)(i:Nat):(setW x j u).testBit i=if i=j then u else x.testBit i:=by
 have G:¬i<64->x.testBit i=false:=by
  intro h;apply Nat.testBit_lt_two_pow;exact bS V (jf (n:=2) (i:=64) (by decide) (by omega))
 have J:(x &&& (18446744073709551615-2^j)).testBit i=(x.testBit i && !decide (i=j)):=by
  rw[j0,qR _ _ (FO U),Nat.testBit_two_pow];by_cases h:i<64
  ·by_cases z:i=j
   ·simp[z]
   ·have :¬j=i:=λe=>z e.symm
    simp[h,z,this]
  ·simp[G h]
 unfold setW;split
 ·rename_i hu
  rw[Nat.testBit_or,J,Nat.testBit_two_pow,hu];by_cases z:i=j
  ·simp[z]
  ·have :¬j=i:=λe=>z e.symm
   simp[z,this]
 ·rename_i hu
  rw[J];have :u=false:=by simpa using hu
  subst this;by_cases z:i=j<;>simp[z]
def eI (X:List Int) (b:Nat) (u:Bool):List (Int×Int):=if b=0\/256<=b then [] else [((816+b/64:Nat),(setW (bw X (b/64)) (b%64) u:Nat))]
theorem MI (h:In64 X)(b:Nat)(u:Bool):∀p∈eI X b u,0<=p.2/\p.2<18446744073709551616:=by
 intro p z;unfold eI at z;split at z
 ·simp at z
 ·rw[au] at z
  subst z;have :=aaZ (FN h (b/64)) (iw b (by decide:0<64)) u;exact⟨by simp,by show((_:Nat):Int)<_;omega⟩
theorem jl (l:List Int)(i j:Nat)(x:Int)(h:i<l.length):(l.set i x).getD j 0=if i=j then x else l.getD j 0:=by
 rw[aj,fh];by_cases e:i=j
 ·subst e;simp[h]
 ·rw[aA e,aA e,aj]
theorem CA (h:In64 X)(U:X.length=3128)(b:Nat)(J:b≠0)(V:b<256)(u:Bool)(c:Nat):dG (az X (eI X b u)) c=if c=b then u else dG X c:=by
 unfold eI;rw[aA,lO,aG];unfold dG bw;rw[jl _ _ _ _ (by omega)];by_cases e:816+b/64=816+c/64
 ·rw[aB e,aG,show(X.getD (816+b/64) 0).toNat=bw X (b/64) from rfl,KR (FN h (b/64)) (iw b (by decide:0<64))]
  have z:c/64=b/64:=by omega
  rw[z];by_cases G:c=b
  ·rw[aB G,aB (by rw[G])]
  ·rw[aA G,aA];rfl
 ·rw[aA e,aA (by intro z;subst z;exact e rfl)]
def nj (b k:Nat):List (Int×Int):=(List.range k).map λ(j:Nat)=>(((1080+b*8+j:Nat):Int),(0:Int))
def gW (b:Nat):List (Int×Int):=nj b 8
theorem Bh (b k:Nat):nj b (k+1)=nj b k++[(((1080+b*8+k:Nat):Int),(0:Int))]:=by
 unfold nj;rw[dV,ey];rfl
theorem DR (b k:Nat):(nj b k).length=k:=by simp[nj]
theorem xR{p:Int×Int}(h:p∈gW b):∃j,j<8/\p=(((1080+b*8+j:Nat):Int),(0:Int)):=by
 unfold gW nj at h;rw[bH] at h;obtain⟨j,z,rfl⟩:=h;exact⟨j,b7.1 z,rfl⟩
theorem MJ (h:∀p∈ps,1080<=p.1)(c:Nat)(G:c<256):dG (az X ps) c=dG X c:=by
 unfold dG bw;rw[dX _ _ _ λp z=>by have :=h p z;omega]
def dm (X:List Int):List Nat->List (Int×Int)
 | []=>[]
 |b::l=>(eI X b true++gW b)++dm (az X (eI X b true++gW b)) l
theorem Xq (h:In64 X)(b:Nat):∀p∈eI X b true++gW b,0<=p.2/\p.2<18446744073709551616:=by
 intro p z;rw[aT] at z;rcases z with z|z
 ·exact MI h b true p z
 ·obtain⟨j,-,rfl⟩:=xR z
  exact⟨Int.le_refl 0,by show(0:Int)<_;omega⟩
theorem MK (h:In64 X)(U:X.length=3128)(b:Nat)(z:b≠0)(V:b<256)(c:Nat)(G:c<256):dG (az X (eI X b true++gW b)) c=(dG X c||decide (c=b)):=by
 rw[bz,MJ (λp J=>by obtain⟨j,-,rfl⟩:=xR J;show(1080:Int)<=((_:Nat):Int);omega) c G,CA h U b z V];by_cases e:c=b<;>simp[e]
theorem Jw (X:List Int)(b:Nat)(h:b≠0)(z:b<256)(u:Bool):(eI X b u).length=1:=by
 unfold eI;rw[aA];rfl
theorem qj (l:List Nat):∀X:List Int,(∀b∈l,b≠0/\b<256)->(dm X l).length=9*l.length:=by
 induction l with
 |nil=>intro X _;rfl
 |cons b l ih=>
  intro X h;obtain⟨G,z⟩:=h b (by simp);show((eI X b true++gW b)++dm _ l).length=_;rw[aC,aC,Jw X b G z,gW,DR,ih _ λc J=>h c (by simp[J])];simp only[cu];omega
theorem ML (l:List Nat)(b:Nat):∀X:List Int,dm X (l++[b])=dm X l++(eI (az X (dm X l)) b true++gW b):=by
 induction l with
 |nil=>intro X;show(eI X b true++gW b)++[]=[]++_;rw[br];rfl
 |cons c l ih=>
  intro X;have e:az X (dm X (c::l))=az (az X (eI X c true++gW c)) (dm (az X (eI X c true++gW c)) l):=bz _ _ _;rw[e];show(eI X c true++gW c)++dm (az X (eI X c true++gW c)) (l++[b])=((eI X c true++gW c)++dm (az X (eI X c true++gW c)) l)++_;rw[ih,aV (eI X c true++gW c)]
theorem nP (l:List Nat):∀X:List Int,In64 X->X.length=3128->(∀b∈l,b≠0/\b<256)->
  In64 (az X (dm X l))/\(az X (dm X l)).length=3128/\∀c,c<256->dG (az X (dm X l)) c=(dG X c||decide (c∈l)):=by
 induction l with
 |nil=>intro X h G _;exact⟨h,G,λc _=>by simp[dm,az]⟩
 |cons b l ih=>
  intro X h G J;obtain⟨h0,W⟩:=J b (by simp);have hX:In64 (az X (eI X b true++gW b)):=h.put (Xq h b);obtain⟨U,k2,V⟩:=ih (az X (eI X b true++gW b)) hX (by rw[cj];exact G) λc z=>J c (by simp[z])
  have e:az X (dm X (b::l))=az (az X (eI X b true++gW b)) (dm (az X (eI X b true++gW b)) l):=bz _ _ _;rw[e];refine⟨U,k2,λc z=> ?_⟩;rw[V c z,MK h G b h0 W c z];by_cases e1:c=b<;>by_cases e2:c∈l<;>simp[e1,e2]
theorem CB (G:l.Nodup)(n:Nat):l.filter (λc=> !decide (c∈l.take n))=l.drop n:=by
 have U:l.filter (λc=> !decide (c∈l.take n))=(l.take n++l.drop n).filter (λc=> !decide (c∈l.take n)):=by rw[dt]
 rw[U,eJ];have J:∀c,c∈l.take n->c∈l.drop n->False:=by
  rw[<-dt n l] at G;intro c h2 W;exact(List.nodup_append.1 G).2.2 c h2 c W rfl
 have e1:(l.take n).filter (λc=> !decide (c∈l.take n))=[]:=by
  rw[List.filter_eq_nil_iff];intro c z;simp[z]
 have V:(l.drop n).filter (λc=> !decide (c∈l.take n))=l.drop n:=by
  rw[List.filter_eq_self];intro c z;have :c∉l.take n:=λh=>J c h z
  simp[this]
 rw[e1,V,bQ]
theorem FP (h:In64 X)(hl:X.length=3128)(n:Nat):In64 (az X (dm X ((aZ X).take n)))/\(az X (dm X ((aZ X).take n))).length=3128/\aZ (az X (dm X ((aZ X).take n)))=(aZ X).drop n:=by
 have V:∀b∈(aZ X).take n,b≠0/\b<256:=λb hb=>by
  have :=ku.1 (bO hb);exact⟨this.2.1,this.1⟩
 obtain⟨G,W,J⟩:=nP ((aZ X).take n) X h hl V;refine⟨G,W,?_⟩;have hd:=CB (rR X 256) n;have e:∀Y,gY Y 256=(List.range 256).filter (λb=>b != 0 && !dG Y b):=λ_=>rfl
 have z:∀c,c<256->dG (az X (dm X (List.take n (gY X 256)))) c=(dG X c||decide (c∈List.take n (gY X 256))):=J;clear J G W V;show gY (az X (dm X (List.take n (gY X 256)))) 256=List.drop n (gY X 256);generalize List.take n (gY X 256)=L at *;rw[<-hd,e X,e,List.filter_filter];apply iG;intro c U;rw[b7] at U;rw[z c U];by_cases e1:c∈L<;>simp[e1]
end
section
open Go.RowKit
variable{w w':World}{G J K U a b c d e f g gp h j n x y z:Nat}{B X:List Int}{ps qs:List (Int×Int)}{l own:List Nat}{v:Value}{o:Oper}{next:Act->World->Prop}{row:Option Nat}
def iN (b:Int):Int:=if b<0\/256<=b then -1 else 1080+b*8
theorem kv (b:Int)(w:World):Calls prog 155 #[b] w λe w'=>e=(iN b:Int)/\w=w':=by
 rcases (show b<0\/256<=b\/(0<=b/\b<256) by omega) with h|h|⟨z,J⟩
 ·rw[iN,aB (.inl h)]
  go_in;go_wp2;go_ret;exact⟨rfl,rfl⟩
 ·rw[iN,aB (.inr h)]
  have G:¬b<0:=by omega
  go_in;go_wp2;go_ret;exact⟨rfl,rfl⟩
 ·rw[iN,aA]
  go_in;go_wp2;go_ret;exact⟨rfl,rfl⟩
theorem MM{k:IntKind}{a b:Int}(h:a=b):Ending.returned (.int k a)= .returned (.int k b):=by rw[h]
def IE (b:Int):Bool:=decide (0<=b)&&decide (b<256)
theorem xS{b:Int}:IE b=true↔0<=b/\b<256:=by simp[IE]
theorem Bi (i:Int)(w:World):Calls prog 170 #[i] w λe w'=>e=(IE i:Bool)/\w=w':=by
 by_cases z:0<=i
 ·by_cases h:i<256
  ·rw[xS.2 ⟨z,h⟩]
   go_in;go_wp2;go_ret;exact⟨rfl,rfl⟩
  ·rw[show IE i=false by simp[IE];omega]
   go_in;go_wp2;go_ret;exact⟨rfl,rfl⟩
 ·rw[show IE i=false by simp[IE];omega]
  go_in;go_wp2;go_ret;exact⟨rfl,rfl⟩
theorem DT (b:Nat)(G:b<256)(w:World):Calls prog 171 #[(b:Int)] w λe w'=>e=((816+b/64:Nat):Int)/\w=w':=by
 have z:(0:Int)<=(b:Int):=by omega
 have h:(b:Int)<256:=by omega
 go_in;go_wp2;go_ret;exact⟨MM (by omega),rfl⟩
def pB (b:Nat):Nat:=2^(b%64)
theorem KS (b:Nat):pB b<18446744073709551616:=FO (iw _ (by decide))
theorem Xr (b:Nat):IntKind.u64.wrap (2^(b%64))=((pB b:Nat):Int):=by
 have h:=KS b;have e:((2:Int)^(b%64))=((2^(b%64):Nat):Int):=by simp
 rw[fY,e];unfold pB at *;generalize 2^(b%64)=x at *;omega
theorem xU (b:Nat)(G:b<256)(w:World):Calls prog 172 #[(b:Int)] w λe w'=>e= .returned (.int .u64 ((pB b:Nat):Int))/\w=w':=by
 have z:(0:Int)<=(b:Int):=by omega
 have h:(b:Int)<256:=by omega
 have H:=ar (Xr b);go_in;go_wp2;go_ret;exact⟨MM H.out,rfl⟩
theorem aa0 (x j:Nat):x &&& 2^j=if x.testBit j=true then 2^j else 0:=by
 apply Nat.eq_of_testBit_eq;intro i;rw[j0,Nat.testBit_two_pow];by_cases e:j=i
 ·subst e
  cases h:x.testBit j<;>simp
 ·cases h:x.testBit j<;>simp[e]
theorem Xt (x b:Nat):(x &&& pB b≠0)↔x.testBit (b%64)=true:=by
 unfold pB;rw[aa0];have :=Nat.two_pow_pos (b%64);cases x.testBit (b%64)<;>simp<;>omega
theorem CD (h:In64 (az B ps))(k:Nat)(z:k<2000):Bb B ps ((816+k:Nat):Int)=((bw (az B ps) k:Nat):Int):=by
 unfold Bb;rw[aB,aaY h,aG]
theorem TS (x b:Nat):setW x (b%64) false=x &&& (18446744073709551615-pB b)/\setW x (b%64) true=(x &&& (18446744073709551615-pB b)) ||| pB b:=⟨rfl,rfl⟩
theorem MN (h:eK w b U B ps)(J:In64 (az B ps))(hn:ps.length<=1000000)(i:Int)(u:Bool):
  Calls prog 145 #[b,i,u] w (jQ w b U B (ps++eI (az B ps) i.toNat u)):=by
 have HI:=ar (Bi i w);by_cases hz:i=0
 ·subst hz
  have V:Hid (jQ w b U B (ps++eI (az B ps) (0:Int).toNat u) (.returned (.tuple #[])) w):=by
   show jQ _ _ _ _ _ _ _;rw[show eI (az B ps) (0:Int).toNat u=[] by simp[eI],br];exact⟨rfl,U,.inl rfl,h,ay.refl _ _⟩
  clear h;go_in;go_wp2_with fail;go_end0;exact V.out
 have e0:(i==0)=false:=by simpa using hz
 cases hi:IE i
 ·rw[hi] at HI
  have V:Hid (jQ w b U B (ps++eI (az B ps) i.toNat u) (.returned (.tuple #[])) w):=by
   show jQ _ _ _ _ _ _ _;have :¬(0<=i/\i<256):=λe=>by rw[xS.2 e] at hi;cases hi
   rw[show eI (az B ps) i.toNat u=[] by unfold eI;rw[aB],br];exact⟨rfl,U,.inl rfl,h,ay.refl _ _⟩
  clear hi h hz;go_in;go_wp2_with fail;refine C' HI.out ?_;go_wp2_with fail;go_end0;exact V.out
 ·rw[hi] at HI
  obtain⟨h0,h1⟩:=xS.1 hi;clear hi;obtain⟨j,rfl⟩:=cA h0;have hj:j<256:=by omega
  have Ci:¬(j=0\/256<=j):=by omega
  clear hz;obtain⟨HB,V,HG⟩:=hh3 (DT j hj w) (xU j hj w) (py h ((816+j/64:Nat):Int));rw[CD J (j/64) (by omega)] at HG;have hx:=FN J (j/64);have hm:=KS j;have ha:=u64_andNot_nat (bw (az B ps) (j/64)) (pB j) hx hm;have hy:bw (az B ps) (j/64) &&& (18446744073709551615-pB j)<18446744073709551616:=jU Nat.and_le_left hx;have G:Si ((816+j/64:Nat):Int)=true:=tY.2 ⟨by omega,by omega⟩;obtain⟨s0,s1⟩:=TS (bw (az B ps) (j/64)) j;cases u
  ·have HP:Hid (Calls prog 47 #[b,((816+j/64:Nat):Int),.int .u64 ((bw (az B ps) (j/64) &&& (18446744073709551615-pB j):Nat):Int)] w (jQ w b U B (ps++eI (az B ps) (j:Int).toNat false))):=by
    have :=pz h hn ((816+j/64:Nat):Int) ((bw (az B ps) (j/64) &&& (18446744073709551615-pB j):Nat):Int);unfold Aj at this;rw[aB G] at this;unfold eI;rw[aG,aA Ci,s0];exact this
   clear h J hn hx hm G s0 s1 Ci hy;generalize ps++eI (az B ps) (j:Int).toNat false=qs,bw (az B ps) (j/64) &&& (18446744073709551615-pB j)=y at *;generalize bw (az B ps) (j/64)=x,pB j=m at *;go_in;go_wp2_with fail;refine C' HI.out ?_;go_wp2_with fail;refine C' HB.out ?_;go_wp2_with fail;refine C' HG.out ?_;go_wp2_with fail;refine C' V.out ?_;go_wp2_with fail;refine C' HB.out ?_;go_wp2_with fail;refine HP.out.mono ?_;rintro e w' W;have HQ:=ar W;obtain⟨rfl,-⟩:=W;go_wp2_with fail;go_end0;exact HQ.out
  ·have ho:=u64_or_nat (bw (az B ps) (j/64) &&& (18446744073709551615-pB j)) (pB j) hy hm
   have HP:Hid (Calls prog 47 #[b,((816+j/64:Nat):Int),.int .u64 (((bw (az B ps) (j/64) &&& (18446744073709551615-pB j)) ||| pB j:Nat):Int)] w (jQ w b U B (ps++eI (az B ps) (j:Int).toNat true))):=by
    have :=pz h hn ((816+j/64:Nat):Int) (((bw (az B ps) (j/64) &&& (18446744073709551615-pB j)) ||| pB j:Nat):Int);unfold Aj at this;rw[aB G] at this;unfold eI;rw[aG,aA Ci,s1];exact this
   clear h J hn hx hm G s0 s1 Ci hy;generalize ps++eI (az B ps) (j:Int).toNat true=qs,(bw (az B ps) (j/64) &&& (18446744073709551615-pB j)) ||| pB j=z at *
   generalize bw (az B ps) (j/64) &&& (18446744073709551615-pB j)=y at *;generalize bw (az B ps) (j/64)=x,pB j=m at *;go_in;go_wp2_with fail;refine C' HI.out ?_;go_wp2_with fail;refine C' HB.out ?_;go_wp2_with fail;refine C' HG.out ?_;go_wp2_with fail;refine C' V.out ?_;go_wp2_with fail;refine C' V.out ?_;go_wp2_with fail;refine C' HB.out ?_;go_wp2_with fail;refine HP.out.mono ?_;rintro e w' W;have HQ:=ar W;obtain⟨rfl,-⟩:=W;go_wp2_with fail;go_end0;exact HQ.out
theorem aa1 (x:Nat)(z:x<18446744073709551616):18446744073709551615 ^^^ x=18446744073709551615-x:=by
 apply Nat.eq_of_testBit_eq;intro j;rw[Nat.testBit_xor,qR x j z,show(18446744073709551615:Nat)=2^64-1 from rfl,Nat.testBit_two_pow_sub_one];by_cases h:j<64
 ·simp[h]
 ·have :x.testBit j=false:=by
   apply Nat.testBit_lt_two_pow;exact bS z (jf (n:=2) (i:=64) (by decide) (by omega))
  simp[h,this]
theorem aa2 (x:Nat)(h:x<18446744073709551616):bits .xor .u64 IntKind.u64.max (x:Int)=((18446744073709551615-x:Nat):Int):=by
 rw[<-aa1 x h];exact u64_xor_nat 18446744073709551615 x (by decide) h
theorem DU{W:Nat}(h:eK w b W B ps)(z:In64 (az B ps))(k:Nat)(hk:k<4):
  Calls prog 215 #[b,(k:Int)] w λe w'=>e= .returned (.int .u64 ((Jv (az B ps) k:Nat):Int))/\w=w':=by
 have G:=ar (py h ((816+k:Nat):Int));rw[CD z k (by omega)] at G;have hx:=aa2 _ (FN z k);have ek:IntKind.i64.wrap (816+(k:Int))=((816+k:Nat):Int):=by rw[fS _ (by omega)];omega
 by_cases J:k=0
 ·subst J
  have V:Hid (Calls prog 172 #[(0:Int)] w (λe w'=>e= .returned (.int .u64 1)/\w=w')):=xU 0 (by decide) w;have ha:bits .andNot .u64 (((18446744073709551615-bw (az B ps) 0:Nat)):Int) 1=((Jv (az B ps) 0:Nat):Int):=by
   rw[Jv,aB rfl];exact u64_andNot_nat (18446744073709551615-bw (az B ps) 0) 1 (by omega) (by decide)
  generalize Jv (az B ps) 0=f,18446744073709551615-bw (az B ps) 0=y at *;generalize bw (az B ps) 0=x at *;clear h z;go_in;go_wp2_with fail;refine C' G.out ?_;go_wp2_with fail;refine C' V.out ?_;go_wp2_with fail;go_ret;exact⟨rfl,rfl⟩
 ·have e0:((k:Int)==0)=false:=by simp;omega
  have U:18446744073709551615-bw (az B ps) k=Jv (az B ps) k:=by rw[Jv,aA J]
  rw[U] at hx;clear U;generalize Jv (az B ps) k=f,bw (az B ps) k=x at *;clear h z;go_in;go_wp2_with fail;refine C' G.out ?_;go_wp2_with fail;go_ret;exact⟨rfl,rfl⟩
theorem ads:rep 85 8=6148914691236517205:=by decide
theorem adt:rep 51 8=3689348814741910323:=by decide
theorem adu:rep 15 8=1085102592571150095:=by decide
theorem Jy (n:Nat)(h:n<18446744073709551616):IntKind.u64.wrap (n:Int)=(n:Int):=by rw[fY];omega
theorem MO (x d m:Nat)(h:x<18446744073709551616)(z:m<18446744073709551616):bits .and .u64 ((x:Int)/(d:Int)) (m:Int)=((x/d &&& m:Nat):Int):=
 ir (x/d) m (jU (Nat.div_le_self x d) h) z
theorem i64_and127(x:Nat)(h:x<9223372036854775808):bits .and .i64 (x:Int) 127=((x%128:Nat):Int):=by
 show IntKind.i64.wrap ((BitVec.ofInt 64 (x:Int) &&& BitVec.ofInt 64 127).toNat:Int)=_;have z:BitVec.ofInt 64 127=BitVec.ofNat 64 127:=by decide
 rw[BitVec.toNat_and,ofInt_u64 x (by omega),z,BitVec.toNat_ofNat,show(127%2^64:Nat)=2^7-1 from rfl,dW];rw[fS _ (by omega)]
theorem P6 (x:Nat)(hx:x<18446744073709551616):∃z h U J G V:Nat,
  IntKind.u64.wrap (bits .and .u64 ((x:Int)/2) 6148914691236517205+bits .and .u64 (x:Int) 6148914691236517205)=(z:Int)/\
  IntKind.u64.wrap (bits .and .u64 ((z:Int)/4) 3689348814741910323+bits .and .u64 (z:Int) 3689348814741910323)=(h:Int)/\
  bits .and .u64 (IntKind.u64.wrap ((h:Int)/16+(h:Int))) 1085102592571150095=(U:Int)/\
  IntKind.u64.wrap ((U:Int)+(U:Int)/256)=(J:Int)/\
  IntKind.u64.wrap ((J:Int)+(J:Int)/65536)=(G:Int)/\
  IntKind.u64.wrap ((G:Int)+(G:Int)/4294967296)=(V:Int)/\
  IntKind.i64.wrap (V:Int)=(V:Int)/\bits .and .i64 (V:Int) 127=((ones 64 x:Nat):Int):=by
 obtain⟨z,h,U,J,G,V,s1,s2,s3,s4,s5,s6,b1,b2,W,b3,b4,b5,b6,hm⟩:=MG x hx;unfold st1 at s1;unfold st2 at s2;unfold st3 at s3;rw[ads] at s1;rw[adt] at s2;rw[adu] at s3;refine⟨z,h,U,J,G,V,?_,?_,?_,?_,?_,?_,?_,?_⟩
 ·rw[show(bits .and .u64 ((x:Int)/2) 6148914691236517205)=_ from MO x 2 6148914691236517205 hx (by decide),show(bits .and .u64 (x:Int) 6148914691236517205)=_ from ir x 6148914691236517205 hx (by decide),<-Int.natCast_add,s1]
  exact Jy _ b1
 ·rw[show(bits .and .u64 ((z:Int)/4) 3689348814741910323)=_ from MO z 4 3689348814741910323 b1 (by decide),show(bits .and .u64 (z:Int) 3689348814741910323)=_ from ir z 3689348814741910323 b1 (by decide),<-Int.natCast_add,s2]
  exact Jy _ b2
 ·rw[show(h:Int)/16+(h:Int)=((h/16+h:Nat):Int) by omega,Jy _ W,<-s3]
  exact ir (h/16+h) 1085102592571150095 W (by decide)
 ·rw[show(U:Int)+(U:Int)/256=((J:Nat):Int) by omega]
  exact Jy _ (by omega)
 ·rw[show(J:Int)+(J:Int)/65536=((G:Nat):Int) by omega]
  exact Jy _ (by omega)
 ·rw[show(G:Int)+(G:Int)/4294967296=((V:Nat):Int) by omega]
  exact Jy _ (by omega)
 ·exact fS _ (by omega)
 ·rw[i64_and127 _ b6,hm]
theorem aa3 (x:Nat)(h:x<18446744073709551616)(w:World):Calls prog 214 #[.int .u64 (x:Int)] w λe w'=>e=((ones 64 x:Nat):Int)/\w=w':=by
 obtain⟨U,V,W,x4,x5,x6,E1,E2,J,G,E5,z,E7,E8⟩:=P6 x h;generalize ones 64 x=r at *;clear h;go_in;go_wp2;go_ret;exact⟨rfl,rfl⟩
def kN (w:World):Prop:=∀j,j<64->w.cell? ⟨0,j,none⟩=some (.int .u8 ((Lib.deBruijn64tab.getD j 0:Nat):Int))
theorem adv (x a:Nat)(h:x<18446744073709551616)(z:x≠0)(J:x &&& (18446744073709551616-x)=a):
  IntKind.u64.wrap (bits .and .u64 (x:Int) (IntKind.u64.wrap (-(x:Int)))*285870213051353865)/288230376151711744=((a*285870213051353865%18446744073709551616/288230376151711744:Nat):Int):=by
 have G:IntKind.u64.wrap (-(x:Int))=((18446744073709551616-x:Nat):Int):=by rw[fY];omega
 rw[G,ir x _ h (by omega),J,fY];omega
theorem aa4 (x k h:Nat)(w:World)(J:((x:Int)==0)=false)
  (G:IntKind.u64.wrap (bits .and .u64 (x:Int) (IntKind.u64.wrap (-(x:Int)))*285870213051353865)/288230376151711744=(h:Int))
  (V:h<64) (U:k<64) (z:w.cell? ⟨0,h,none⟩=some (.int .u8 k)):
  Calls prog 216 #[.int .u64 (x:Int)] w λe w'=>e=(k:Int)/\w=w':=by
 go_in;go_wp2_with(simp only[G]);go_ret;exact⟨rfl,rfl⟩
theorem aff (x:Nat)(V:x<18446744073709551616)(J:x≠0)(w:World)(W:kN w):Calls prog 216 #[.int .u64 (x:Int)] w λe w'=>e=((Lib.ctz 64 x:Nat):Int)/\w=w':=by
 obtain⟨xP,G⟩:=Lib.lowest_bit 64 x J V;obtain⟨U,z⟩:=Lib.deBruijn64_at _ G;have h:=W _ U;rw[z] at h;exact aa4 x _ _ w (by simp;omega) (adv x _ V J xP) U G h
def Onto (w:World) (b z:Nat) (B:List Int) (ps:List (Int×Int)) (w':World):Prop:=
 ∃h,(h=z\/(w.heap.size<=h/\h<w'.heap.size))/\eK w' b h B ps/\ay [b,z] w w'
theorem Onto.refl(h:eK w b z B ps):Onto w b z B ps w:=⟨z,.inl rfl,h,ay.refl _ _⟩
theorem Onto.post(h:Onto w b z B ps w'):jQ w b z B ps (.returned (.tuple #[])) w':=⟨rfl,h⟩
theorem Onto.trans{G U:World}(hg:z=J\/(w.heap.size<=z/\z<G.heap.size))(V:ay [b,J] w G)(h:Onto G b z B qs U):Onto w b J B qs U:=by
 obtain⟨lS,h1,h2,W⟩:=h;have z1:=V.size;have z2:=W.size;refine⟨lS,by omega,h2,V.trans W λx hx=> ?_⟩;simp only[aL,aK,bC] at hx ⊢;omega
theorem Onto.mono{G J:World}(U:ay [] w G)(DV:z<w.heap.size)(h:Onto G b z B qs J):Onto w b z B qs J:=by
 obtain⟨lS,h1,W,V⟩:=h;have z1:=U.size;exact⟨lS,by omega,W,(U.mono (by simp)).trans V λx hx=> .inl hx⟩
theorem Xu (ps:List (Int×Int))(c k:Nat)(h:c<256)(z:k<8):Aj (ps++nj c k) ((1080+c*8+k:Nat):Int) 0=ps++nj c (k+1):=by
 unfold Aj;rw[aB (tY.2 ⟨by omega,by omega⟩),Bh,aV]
theorem P7 (h:eK w b z B ps)(W:ps.length<=999000)(c:Nat)(hc:c<256):
  Calls prog 191 #[b,(c:Int)] w (jQ w b z B (ps++gW c)):=by
 obtain⟨HS,HN⟩:=hh2 h W;have U:∀w',Hid (Calls prog 155 #[(c:Int)] w' λe J=>e=((1080+c*8:Nat):Int)/\w'=J):=λw'=>by
  have :=kv (c:Int) w';rw[show iN (c:Int)=((1080+c*8:Nat):Int) by unfold iN;rw[aA];omega] at this;exact this
 clear h W;go_in;go_wp2_with fail;go_loopg [5] 8 (λgh s5 wx=>∃k:Nat,k+gh=8/\s5= .int .i64 (k:Int)/\Hid (Onto w b z B (ps++nj c k) wx))
 case atStart=>exact⟨0,by omega,rfl,by show Onto _ _ _ _ _ _;rw[show nj c 0=[] from rfl,br];exact Onto.refl HS.out⟩
 case round=>
  obtain⟨k,hk,rfl,G⟩:=hrel;cases gk with
  |zero=>
   obtain rfl:k=8:=by omega
   clear hk;go_wp2_with fail;go_end0;exact Onto.post G.out
  |succ gg=>
   have uA:k<8:=by omega
   have aa:(k:Int)<8:=by omega
   have cM:(0:Int)<=(k:Int):=by omega
   have HP:Hid (∀x:Int,x=((1080+c*8+k:Nat):Int)->Calls prog 47 #[b,x,.int .u64 0] wr λe w'=>e= .returned (.tuple #[])/\Hid (Onto w b z B (ps++nj c (k+1)) w')):=by
    intro x hx;subst hx;obtain⟨kX,h1,h2,h3⟩:=G.out;refine Rr (pz h2 (by rw[aC,DR];have :=HN.out;omega) _ 0) λw' V=> ?_;rw[Xu ps c k hc uA] at V;exact⟨rfl,Onto.trans h1 h3 V⟩
   have HB:=U wr;clear G U;go_wp2_with fail;refine C' HB.out ?_;go_wp2_with fail;refine Rr (HP.out _ (by omega)) λw' HQ=> ?_;go_wp2_with fail;go_roundg gg;case measure=>omega
   case rel=>exact⟨k+1,by omega,by go_num,HQ⟩
theorem Jz (X:List Int)(n:Nat):(gY X n).length<=n:=by
 unfold gY;have :=fR (λb=>b != 0 && !dG X b) (List.range n);simpa using this
theorem JA (h:eK w b gp B ps)(G:In64 (az B ps)):
  Calls prog 189 #[b] w λe w'=>e=(((aZ (az B ps)).length:Nat):Int)/\w=w':=by
 obtain⟨HS,V⟩:=hh2 h G;clear h G;go_in;go_wp2_with fail;go_loop [3,5] (λs3 s5=>∃k:Nat,k<=4/\s5= .int .i64 (k:Int)/\s3= .int .i64 (((gY (az B ps) (64*k)).length:Nat):Int)) (λ_ s5=>4-(intOf s5).toNat)
 case atStart=>exact⟨0,by omega,rfl,rfl⟩
 case round=>
  obtain⟨k,hk,rfl,rfl⟩:=hrel;by_cases J:k<4
  ·have U:(k:Int)<4:=by omega
   have cM:(0:Int)<=(k:Int):=by omega
   have W:=ar (P5 V.out k);have aa:=Jz (az B ps) (64*k);have z:=Jz (az B ps) (64*(k+1));have e:=W.out;obtain⟨HI,HO⟩:=hh2 (DU HS.out V.out k J) (aa3 (Jv (az B ps) k) (Xp (az B ps) k) w);have ho:ones 64 (Jv (az B ps) k)<=256:=by omega
   rw[e] at z;clear e z;generalize ones 64 (Jv (az B ps) k)=o at *;generalize hf:Jv (az B ps) k=f at *;clear hf;generalize hq:(gY (az B ps) (64*k)).length=q at *;clear hq;go_wp2_with fail;refine C' HI.out ?_;go_wp2_with fail;refine C' HO.out ?_;go_wp2_with fail
   go_round
   case rel=>exact⟨k+1,by omega,by go_num,by rw[W.out];go_num⟩
   case measure=>simp[intOf];omega
  ·obtain rfl:k=4:=by omega
   go_wp2_with fail;go_ret;exact⟨rfl,rfl⟩
def dL (l:List Nat):List Value:=l.map λx:Nat=>Value.int .i64 (x:Int)
theorem fp (l:List Nat):(dL l).length=l.length:=by simp[dL]
theorem nA (h:j<l.length):(dL l)[j]? =some (.int .i64 ((l.getD j 0:Nat):Int)):=by simp[dL,h]
theorem ub (l m:List Nat):dL (l++m)=dL l++dL m:=by simp[dL]
theorem Tryz.info_int:(prog.info? 3).map (λi=>(i.zero,i.size,i.bytes))=some (some (.int .i64 0),1,8):=by kernel_rfl
theorem TT (n:Nat)(V:n<=100000)(w:World):(Instr.makeSlice 76 (.int .i64 0) (.int .i64 (n:Int))).run prog w=
  .ok (.slice w.heap.size 0 n) (w.alloc (.cells (madeCells #[(0:Int)] n) 3)):=by
 obtain⟨U,J,h,z,G⟩:=df Tryz.info_int;have :=run_make (P:= prog) w 76 3 U _ underlying76 J h .i64 .i64 0 (n:Int) (by omega) (by omega) (by rw[G];omega) (by omega);rw[z,aG,iJ] at this;exact this
theorem IG (X:List Int)(k m:Nat)(h:k<=m):∃r,gY X m=gY X k++r:=by
 obtain⟨d,rfl⟩:∃d,m=k+d:=⟨m-k,by omega⟩;exact⟨_,iW _ k d⟩
theorem TU (G:y<18446744073709551616)(h:zz y=[]):y=0:=by
 by_cases z:y=0
 ·exact z
 ·have :=(Jt y z G).2
  rw[h] at this;cases this
def uR (w:World) (l:List Nat) (e:Ending) (w':World):Prop:=
 ∃v g,e=(v:Value)/\Reads w' v g (dL l)/\w.heap.size<=g/\g<w'.heap.size/\ay [] w w'
def FQ (w:World) (n:Nat) (l:List Nat) (v:Value) (h:World):Prop:=
 h.ownsRow w.heap.size 3 1 v l.length (dL l)/\ay [] w h/\l.length<=n/\v≠.slice none 0 0
theorem FQ.made{z:World}(h:FQ w n l v z):uR w l (.returned v) z:=by
 obtain⟨h1,h2,h3,h4⟩:=h;obtain⟨h5,h6⟩:=h1;rcases h6 with ⟨rfl,-⟩|⟨g,cap,J,rfl,hg,V,h7,h8,W,U⟩
 ·exact absurd rfl h4
 ·have G:g<z.heap.size:=(Array.getElem?_eq_some_iff.1 V).1
  exact⟨_,g,rfl,eZ.reads ⟨h5,_,cap,rfl,h7,h8,λ_=>⟨rfl,J,V,W,U⟩⟩,hg,G,h2⟩
theorem kN.keep(h:kN w)(J:ay [] w w'):kN w':=λj G=>by
 have z:=h j G;rw[aO (w:=w) (J.block _ (lt_of_cell z) (by simp))];exact z
theorem Xv (y:Nat)(h:y<18446744073709551616)(z:y≠0):bits .and .u64 (y:Int) (IntKind.u64.wrap ((y:Int)-1))=((y &&& (y-1):Nat):Int)/\y &&& (y-1)<18446744073709551616:=by
 have e:IntKind.u64.wrap ((y:Int)-1)=((y-1:Nat):Int):=by rw[fY];omega
 rw[e];exact⟨ir y (y-1) h (by omega),jU Nat.and_le_left h⟩
theorem FR (h:eK w b gp B ps)(ai:In64 (az B ps))(hT:kN w)(n:Nat)(hn:n<=100000):
  Calls prog 190 #[b,(n:Int)] w (uR w ((aZ (az B ps)).take n)):=by
 obtain⟨i0,hi,ax,aF,aC⟩:=df Tryz.info_int;obtain⟨HS,uQ,HT⟩:=hh3 h ai hT;clear h ai hT;have aj:=TT n hn w;have av:Hid (FQ w n [] (.slice w.heap.size 0 n) (w.alloc (.cells (madeCells #[(0:Int)] n) 3))):=by
  refine⟨⟨rfl,.inr ⟨w.heap.size,n,madeCells #[(0:Int)] n,rfl,aH _,bh.new _ _ _,by simp,by unfold maxLen;omega,by simp[madeCells],by simp[dL]⟩⟩,(ay.refl _ _).alloc _,by simp,by simp⟩
 go_in;go_wp2_with fail;go_step3;go_wp2_with fail;go_step3;go_wp2_with fail;clear aj;go_loopg [5,10] 4 (λgh s5 Xw wx=>∃k:Nat,k+gh=4/\Xw= .int .i64 (k:Int)/\Hid (FQ w n (gY (az B ps) (64*k)) s5 wx))
 case atStart=>exact⟨0,by omega,rfl,av.out⟩
 case round=>
  obtain⟨k,hk,rfl,J⟩:=hrel;cases gk with
  |zero=>
   obtain rfl:k=4:=by omega
   clear hk;have HM:Hid (uR w ((aZ (az B ps)).take n) (.returned u5) wr):=by
    show uR _ _ _ _;have e:aZ (az B ps)=gY (az B ps) (64*4):=rfl;rw[e,aW J.out.2.2.1];exact J.out.made
   go_wp2_with fail;rw[Exit.noGoto_ret];go_ret;exact HM.out
  |succ gg=>
   have au:k<4:=by omega
   have ag:(k:Int)<4:=by omega
   have cM:(0:Int)<=(k:Int):=by omega
   obtain⟨HF,HY⟩:=hh2 (DU (HS.out.keep J.out.2.1 (by simp) (by simp)) uQ.out k au) (Xp (az B ps) k);go_wp2_with fail;refine C' HF.out ?_;clear HF;go_wp2_with fail;clear cM ag;go_loopg [5,7] (zz (Jv (az B ps) k)).length (λgh s5 s7 wx=>∃(y:Nat) (G:List Nat),gh=(zz y).length/\s7= .int .u64 (y:Int)/\
    Hid (y<18446744073709551616/\zz (Jv (az B ps) k)=G++zz y/\FQ w n (gY (az B ps) (64*k)++G.map (64*k+·)) s5 wx))
   case atStart=>exact⟨_,[],rfl,rfl,HY.out,rfl,by rw[List.map_nil,br];exact J.out⟩
   case round=>
    clear J HY;obtain⟨y,G,U,rfl,J⟩:=hrel;cases gk with
    |zero=>
     have hy:y=0:=TU J.out.1 (bo U.symm);subst hy;have TM:Hid (FQ w n (gY (az B ps) (64*(k+1))) u5 wr):=by
      show FQ _ _ _ _ _;obtain⟨-,h2,h3⟩:=J.out;rw[xQ uQ.out,h2,Ju,br];exact h3
     clear J U;have ag:(k:Int)<4:=by omega
     have cM:(0:Int)<=(k:Int):=by omega
     go_wp2_with fail;go_roundg gg;case measure=>omega
     case rel=>exact⟨k+1,by omega,by go_num,TM⟩
    |succ g2=>
     have ac:y≠0:=by
      intro e;subst e;rw[Ju] at U;cases U
     obtain⟨hc,hb⟩:=Jt y ac J.out.1;have e0:((y:Int)==0)=false:=by simp;omega
     have e1:((y:Int) != 0)=true:=by simp;omega
     by_cases V:(gY (az B ps) (64*k)++G.map (64*k+·)).length=n
     ·have HM:Hid (uR w ((aZ (az B ps)).take n) (.returned u5) wr):=by
       show uR _ _ _ _;obtain⟨-,h2,h3⟩:=J.out;obtain⟨r,hr⟩:=IG (az B ps) (64*(k+1)) 256 (by omega);have e:aZ (az B ps)=gY (az B ps) 256:=rfl;rw[xQ uQ.out,h2,ey] at hr;rw[e,hr,<-aV (gY (az B ps) (64*k)),aV,List.take_left' V];exact h3.made
      obtain⟨a,cap,rfl,q1,q2⟩:=iV J.out.2.2.1;rw[V] at HM ⊢;clear J U hb hc ac;go_wp2_with fail;rw[Exit.noGoto_ret];go_ret;exact HM.out
     ·obtain⟨f1,f2,⟨f3,f4,f5,f6⟩⟩:=J.out
      have aB:=ar (aff y f1 ac wr (HT.out.keep f4));obtain⟨xP,JB⟩:=Xv y f1 ac;have Fe:=ar JB;have ah:(gY (az B ps) (64*k)++G.map (64*k+·)).length+1<=n:=by omega
      have xo:Hid (zz (Jv (az B ps) k)=(G++[Lib.ctz 64 y])++zz (y &&& (y-1))):=by
       show _=_;rw[f2,hb,aV];rfl
      have ak:Hid (g2=(zz (y &&& (y-1))).length):=by
       show _=_;rw[hb,cu] at U;omega
      have aD:Hid (gY (az B ps) (64*k)++(G++[Lib.ctz 64 y]).map (64*k+·)=(gY (az B ps) (64*k)++G.map (64*k+·))++[64*k+Lib.ctz 64 y]):=by
       show _=_;rw[ey,aV];rfl
      obtain⟨a,cap,rfl,q1,q2⟩:=iV f3;obtain⟨af,jr⟩:=hh2 f3 f4;have aJ:=f4.size;clear f1 f2 f3 f4 f5 f6 J U hb JB;generalize gY (az B ps) (64*k)++G.map (64*k+·)=L,y &&& (y-1)=z,Lib.ctz 64 y=c at *;have HI:Hid (dL (L++[64*k+c])=dL L++[.int .i64 ((k:Int)*64+(c:Int))]):=by
       show _=_;rw[ub];have :((64*k+c:Nat):Int)=(k:Int)*64+(c:Int):=by omega
       simp only[dL,List.map_cons,List.map_nil,this]
      have EC:Hid ((L++[64*k+c]).length=L.length+1):=by show _=_;simp
      have ag:(k:Int)<4:=by omega
      have cM:(0:Int)<=(k:Int):=by omega
      have aG:(0:Int)<=(c:Int):=by omega
      have aI:(c:Int)<64:=by omega
      generalize L.length=q at *;have e2:(q==n)=false:=by simpa using V
      have e3:((q:Int)==(n:Int))=false:=by simp;omega
      go_wp2_with fail;refine C' aB.out ?_;go_wp2_with(at_builtin;refine eU _ rfl _ _ 76 rfl w.heap.size 3 i0 (.int .i64 0) 1 8 underlying76 hi ax aF aC rfl (by decide) (.slice a q cap) q _ rfl (af.out.alloc _) ⟨wr.heap.size,0,none⟩ 1 1 [.int .i64 ((k:Int)*64+(c:Int))] rfl rfl ?c1 ?c2 (by unfold maxLen;omega) (by omega) (by simp;omega) ?_);case c1=>exact lH _ [_] _ _ rfl
      case c2=>simp[Value.oneCell']
      intro v' w1 W aa ae;obtain⟨MP,jH⟩:=hh2 W ((jr.out.alloc _).grown aa (dQ af.out));have aA:Hid (v'≠.slice none 0 0):=ae;clear W aa ae;go_wp2_with fail;go_roundg g2;case measure=>omega
      case rel=>
       refine⟨z,G++[c],ak.out,rfl,Fe.out,xo.out,?_⟩;rw[aD.out];refine⟨?_,jH.out,by rw[EC.out];exact ah,aA.out⟩;rw[HI.out,EC.out];exact MP.out
def ma (w:World) (v:Value) (g:Nat) (own:List Nat):Prop:=w.ownsRow g 3 1 v own.length (dL own)/\∀k,v.ownBlock=some k->k=g
theorem ma.reads(h:ma w v g own):Reads w v g (dL own):=by
 obtain⟨h1,h2⟩:=h;obtain⟨h0,h5⟩:=h1;rcases h5 with ⟨rfl,h6⟩|⟨U,cap,G,rfl,hg,hh,z,W,V,J⟩
 ·have z:dL own=[]:=bo (by rw[fp];exact h6)
  exact⟨none,0,by rw[z];rfl,by simp[z],by simp[maxLen],λh=>absurd z h⟩
 ·obtain rfl:=h2 U rfl
  have :=eZ.reads (w:=w) (g:=U) ⟨h0,_,cap,rfl,z,W,λ_=>⟨rfl,G,hh,V,J⟩⟩;exact this
theorem ma.keep(h:ma w v g own){l:List Nat}(J:ay l w w')(G:g∉l):ma w' v g own:=
 ⟨eu h.1 J λk z=>by rw[h.2 k z];exact G,h.2⟩
theorem ma.nil(w:World)(g:Nat):ma w (.slice none 0 0) g []:=⟨⟨rfl,.inl ⟨rfl,rfl⟩⟩,λk h=>by cases h⟩
theorem ma.of_row(h:w.ownsRow z 3 1 v own.length (dL own)):∃g,ma w v g own/\z<=g:=by
 obtain⟨V,h5⟩:=h;rcases h5 with ⟨rfl,h6⟩|⟨W,cap,J,rfl,hg,hh,h7,h8,h9,U⟩
 ·exact⟨z,⟨⟨V,.inl ⟨rfl,h6⟩⟩,λk G=>by cases G⟩,aH _⟩
 ·exact⟨W,⟨⟨V,.inr ⟨W,cap,J,rfl,aH _,hh,h7,h8,h9,U⟩⟩,λk G=>by cases G;rfl⟩,hg⟩
theorem ma.away(h:ma w v g own)(J:U<=g){l:List Nat}(G:ay l w w')(hl:∀x∈l,w.heap.size<=x):∃z,ma w' v z own/\U<=z:=by
 have V:=h.1;obtain⟨W,h5⟩:=V;rcases h5 with ⟨rfl,h6⟩|⟨z,cap,ae,rfl,hg,hh,h7,h8,h9,aa⟩
 ·exact⟨U,⟨⟨W,.inl ⟨rfl,h6⟩⟩,λk G=>by cases G⟩,aH _⟩
 ·obtain rfl:=h.2 z rfl
  have ac:z<w.heap.size:=(Array.getElem?_eq_some_iff.1 hh).1;exact⟨z,h.keep G (λhm=>by have :=hl _ hm;omega),J⟩
variable {P:Program} {n:Nat} {r:Option Nat} {ops:Array Oper} {Q:Exit->Act->World->Prop}
theorem FT{a:Act}{z:Result Next}(h:o.upon P a next Q z):o.uponIn { Fence.wide with round:=r } n P a next Q z:=by
 unfold Oper.upon at h;split at h<;>unfold Oper.uponIn<;>simp only
 ·exact h
 ·exact h
 ·exact h
 ·exact⟨λh=>(by cases h),callsIn_wide.2 h⟩
 ·refine⟨λh=>(by cases h),λc cs _=> ?_⟩
  obtain⟨v,w',G,J⟩:=h c cs;exact⟨v,w',G,stepsIn_wide.2 J⟩
 ·exact h
 ·exact h.elim
theorem vX{a:Act}(z:∀c,o.op≠.defer c)(h:o.wp P a w next Q):o.wpIn { Fence.wide with round:=r } n P a w next Q:=by
 refine⟨λ_ _=>trivial,?_⟩;rw[Oper.semAt_eq _ _ _ z];exact FT h
theorem TV{K G:Act->World->Prop}(U:¬LetsOut Q)(J:∀(i:Nat) (o:Oper),ops[i]? =some o->∀c,o.op≠.defer c)(z:∀a w,K a w->G a w){i:Nat}{a:Act}{w:World}(h:wpOp P ops Q i K a w):wpOpIn { Fence.wide with round:=r } n P ops Q i G a w:=by
 unfold wpOp at h;unfold wpOpIn;cases ho:ops[i]? with
 |none=>rw[ho] at h;exact z _ _ h
 |some o=>
  rw[ho] at h;simp only at h ⊢;split
  ·rename_i hw
   rw[aB hw] at h;rcases h with h|h
   ·exact Oper.wpIn_mono z (vX (J i o ho) h)
   ·exact absurd h.2 U
  ·rename_i hw
   rw[aA hw] at h;exact⟨λ_ _=>trivial,z _ _ h⟩
theorem P8{md:Region.Mode}(U:¬LetsOut Q)(G:∀(i:Nat) (o:Oper),ops[i]? =some o->∀c,o.op≠.defer c):∀(fuel:Nat) (z:Array Bool) {a:Act} {w:World},wpAny P md ops Q fuel z a w->wpAnyIn { Fence.wide with round:=r } n P md ops Q fuel z a w:=by
 intro fuel;induction fuel with
 |zero=>intro z a w h;exact h
 |succ fuel ih=>
  intro z a w h;exact⟨h.1,λi J=>TV U G (λa w h=>ih _ h) (h.2 i J)⟩
theorem xV{a:Act}(G:P.follows .mixedOrders=true)(U:¬LetsOut Q)(z:∀(i:Nat) (o:Oper),ops[i]? =some o->∀c,o.op≠.defer c)
  (h:wpAny P .any ops Q ops.size (Array.replicate ops.size false) a { w with drawn:=w.drawn+1 }):(Code.region J ops true).wpIn { Fence.wide with round:=r } n P Q a w:=
 wpIn_region_any G (P8 U z _ _ h)
theorem KeepsFrom.of_keeps{B:Nat}(h:ay l w w')(U:∀k,k∈l->k<w.heap.size->k<B\/∃c T,bh w k c T):KeepsFrom B w w':=by
 refine⟨h.size,λk o hB G V=> ?_⟩;have z:=(Array.getElem?_eq_some_iff.1 G).1;refine(h.block k z λJ=> ?_).trans G;rcases U k J z with h1|⟨c,T,W⟩
 ·omega
 ·rw[W] at G
  cases G;cases V
theorem bh.turn{c:Array Value}{T:Nat}(h:bh w b c T)(J:w.grownBy w' row)(U:∀r,row=some r->∃o:Obj,w.heap[r]? =some o/\o.isCells=false):bh w' b c T:=by
 refine(J.block b h.lt λe=> ?_).trans h;obtain⟨o,z,G⟩:=U b e.symm;rw[h] at z;cases z;cases G
theorem ay.turn{z:World}{B:Nat}(h:ay l w z)(J:z.grownBy w' row)(U:∀r,row=some r->B<=r)(W:w.heap.size<=B):ay l w w':=
 h.trans (l':=row.toList) (ay.of_grown J λk G=> .inl (by rw[G];simp)) λx V=> .inr (by have :=U x (by simpa using V);omega)
end
end Go.Proofs.YtimcfdnbpkiniaaGreatDoor
