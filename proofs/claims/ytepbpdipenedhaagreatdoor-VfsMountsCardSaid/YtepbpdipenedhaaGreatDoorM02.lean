/- Lemmas. -/
import Derived.Test.YtepbpdipenedhaaGreatDoorM01
import Derived.BigRegion
import Derived.StillTailTactics
import Derived.Lib.TrailingZeros
import Derived.IntWalk
import Derived.WalkMore
import Derived.RangeFuncWrites
import Derived.RangeFuncLeaves
import Derived.RangeFuncCalls
import Derived.RangeFuncRecord
import Derived.OrdersIn
import Derived.TacticsIn
set_option maxHeartbeats 4000000
set_option maxRecDepth 100000
namespace Go.Proofs.YtepbpdipenedhaaGreatDoor
open Go.Proofs.Tryz
section
open Go.RowKit
variable{w w':World}{J K W a b c d e f g gp h j n x y z:Nat}{B X:List Int}{G ps qs:List (Int×Int)}{l own:List Nat}{v:Value}{o:Oper}{next:Act->World->Prop}{row:Option Nat}
theorem kW.setW(h:kW w b z B X G)(i:Nat)(hi:i<3128)(x:Int):kW (w.setCell ⟨b,3128+i,none⟩ (.int .u64 x)) b z B (X.set i x) G:=by
 obtain⟨lb,lx,V,h1,J,W⟩:=h;refine⟨lb,by rw[cX];exact lx,V,?_,?_,W⟩
 ·have :=h1.set (3128+i) (.int .u64 x)
  rwa[A8 _ lb (by omega)] at this
 ·refine eo J (l:=[b]) ((ay.refl [b] _).setCell (by simp) _) λk U=> ?_
  have :=dP J k U;simp;omega
theorem kW.drew(h:kW w b z B X G):kW w.drew b z B X G:=h.keep ((ay.refl [] w).drew) (by simp) (by simp)
theorem kW.note{G:Nat}{z:List (Int×Int)}(h:kW w b G B X z){k:Nat}(J:k<z.length):
  ∃cap,w.cell? ⟨b,6256,none⟩=some (.slice G z.length cap)/\z.length<=cap/\cap<=maxLen/\w.cell? ⟨G,k*2,none⟩=some (.int .i64 (iw z k))/\w.cell? ⟨G,k*2+1,none⟩=some (.int .u64 (lv z k)):=by
 obtain⟨lb,lx,vp,V,h2,h3⟩:=h;obtain⟨g,ho,hg⟩:=fp.of_row h2;obtain⟨aa,⟨cap,W,q1,q2⟩,U,-⟩:=ho.cell (by omega);obtain rfl:g=G:=h3 g (hg (by omega)).2;subst W;refine⟨cap,by rw[V.cell,uU _ lb lx],q1,q2,?_,?_⟩
 ·rw[U _ (by omega)];exact(nz z k J).1
 ·rw[U _ (by omega)];exact(nz z k J).2
theorem kW.slice{z:List (Int×Int)}(h:kW w b J B X z):
  ∃a cap,w.cell? ⟨b,6256,none⟩=some (.slice a z.length cap)/\w.frozen? ⟨b,6256,none⟩=false/\z.length<=cap/\cap<=maxLen:=by
 obtain⟨lb,lx,V,G,U,W⟩:=h;obtain⟨a,cap,rfl,q1,q2⟩:=iX U;exact⟨a,cap,by rw[G.cell,uU _ lb lx],G.frozen _,q1,q2⟩
theorem MD (z:List (Int×Int))(m:Nat)(h:m<=z.length):(jd z).take (m*2)=jd (z.take m):=by
 have e:jd z=jd (z.take m)++jd (z.drop m):=by rw[<-uF,dn]
 rw[e,List.take_left' (by rw[sO,aJ,cQ h])]
theorem kW.cut(h:kW w b W B X G)(m:Nat)(J:m<=G.length){a:Option Addr}{n cap:Nat}(hc:w.cell? ⟨b,6256,none⟩=some (.slice a n cap)):
  kW (w.setCell ⟨b,6256,none⟩ (.slice a m cap)) b W B X (G.take m):=by
 obtain⟨lb,lx,vp,h1,h2,h3⟩:=h;rw[h1.cell,uU _ lb lx] at hc;cases hc;refine⟨lb,lx,.slice a m cap,?_,?_,?_⟩
 ·have :=h1.set 6256 (.slice a m cap)
  rwa[A9 _ lb lx] at this
 ·have z:ay [b] w (w.setCell ⟨b,6256,none⟩ (.slice a m cap)):=(ay.refl [b] _).setCell (by simp) _
  obtain⟨h4,h5⟩:=h2;rw[aJ,cQ J];refine⟨by rw[sO,aJ,cQ J],?_⟩;rcases h5 with ⟨e,e'⟩|⟨g,V,U,e,hg,hh,q2,q3,q4,q5⟩
  ·cases e
   obtain rfl:m=0:=by omega
   exact .inl ⟨rfl,rfl⟩
  ·cases e
   refine .inr ⟨g,cap,U,rfl,hg,?_,by omega,q3,q4,?_⟩
   ·rw[<-hh]
    exact z.block g (Array.getElem?_eq_some_iff.1 hh).1 (by simp;omega)
   ·rw[<-MD _ _ J,<-q5,List.take_take,cQ (by omega)]
 ·intro k z
  cases a with
  |none=>cases z
  |some ad=>exact h3 k z
def ME (w:World) (b h:Nat) (B:List Int) (ps:List (Int×Int)) (e:Ending) (w':World):Prop:=
 e= .returned (.tuple #[])/\eK w' b h B ps/\ay [b] w w'
theorem TP (h:eK w b gp B ps)(m:Int):
  Calls prog 101 #[b,m] w (ME w b gp B (ps.take (DC m ps.length))):=by
 have EW:=ar h.inp;have ae:Hid (kW w b gp B (az B (ps.take ps.length)) (kV B ps)):=by rw[aW (aH _)];exact h.raw
 obtain⟨a,cap,G,f0,q1,q2⟩:=h.raw.slice;have hm:=Xf m ps.length;have ai:=Ju m ps.length;clear h;rw[sP] at *;unfold maxLen at q2;generalize DC m ps.length=q at *;generalize ah:ps.length=n at *;have W:=ar ah;clear ah;have V:Hid ((kV B ps).length=n):=by rw[<-W.out];exact sP B ps
 have au:(m<0/\q=0)\/(0<=m/\m<=(n:Int)/\m=(q:Int))\/((n:Int)<m/\0<=m/\q=n):=by omega
 clear ai;rcases au with ⟨k1,rfl⟩|⟨k1,k2,rfl⟩|⟨k1,k2,rfl⟩
 ·go_in
  go_wp2_with fail;clear G f0;go_loopg [5] (n-0) (λgh s5 wx=>∃k:Nat,k=0+gh/\k<=n/\s5= .int .i64 ((k:Int)-1)/\Hid (kW wx b gp B (az B (ps.take k)) (kV B ps)/\ay [b] w wx))
  case atStart=>exact⟨n,by omega,by omega,rfl,ae.out,ay.refl _ _⟩
  case round=>
   obtain⟨k,hk,ag,rfl,U⟩:=hrel;cases gk with
   |zero=>
    obtain rfl:k=0:=by omega
    have aa:¬((0:Int)<=((0:Nat):Int)-1):=by omega
    obtain⟨z,J⟩:=U.out;obtain⟨a,cap,G,f0,q1,q2⟩:=z.slice;have HC:=ar (z.cut 0 (by rw[V.out];omega) G);rw[V.out] at G q1;unfold maxLen at q2;rw[xN _ _ _ (by rw[W.out];omega)] at HC;obtain⟨HT,jA⟩:=hh2 (FH EW.out 0) J;have b1:(0:Int)<=(n:Int):=by omega
    have b2:(0:Int)<=(cap:Int):=by omega
    clear z J U hk;go_wp2_with fail;go_end0;exact⟨rfl,⟨HC.out,HT.out⟩,jA.out.setCell (by simp) _⟩
   |succ g=>
    obtain⟨k,rfl⟩:∃k',k=k'+1:=⟨k-1,by omega⟩;have ek:((k+1:Nat):Int)-1=(k:Int):=by omega
    rw[ek];clear ek;have aa:(0:Int)<=(k:Int):=by omega
    have cJ:(0:Int)<=(k:Int):=by omega
    have ak:(k:Int)<(n:Int):=by omega
    obtain⟨z,J⟩:=U.out;obtain⟨af,G,q1,q2,c1,c2⟩:=z.note (k:=k) (by rw[V.out];omega);obtain⟨e1,e2⟩:=FI B ps k (by rw[W.out];omega);obtain⟨x0,x1⟩:=ug EW.out (k:=k) (by rw[W.out];omega);have HU:=ar (MA B ps k (by rw[W.out];omega));rw[e1] at c1;rw[e2] at c2;clear e1 e2;rw[V.out] at G q1;unfold maxLen at q2;generalize iw ps k=x at *;generalize (az B (ps.take k)).getD x.toNat 0=ac at *;obtain⟨j,rfl⟩:=cy x0;rw[aG] at HU;have x2:(j:Int)<3128:=x1;have hj:j<3128:=by omega
    have d1:=z.cell1 hj;have d2:wr.frozen? ⟨b,3128+j,none⟩=false:=by obtain⟨lb,lx,vp,h1,h2,h3⟩:=z;exact h1.frozen _
    obtain⟨HS,jA⟩:=hh2 (z.drew.setW j hj ac) J;generalize (az B (ps.take (k+1))).getD j 0=aj at *;clear z J U x1;go_wp2_with fail
    go_still_tail 20,(by kernel_rfl)
    go_wp2_with fail;go_roundg g;case measure=>omega
    case rel=>
     refine⟨k,by omega,by omega,by first|rfl|go_num,?_,jA.out.drew.setCell (by simp) _⟩;have :=HS.out;rw[HU.out] at this;exact this
 ·go_in
  go_wp2_with fail;clear G f0;go_loopg [5] (n-q) (λgh s5 wx=>∃k:Nat,k=q+gh/\k<=n/\s5= .int .i64 ((k:Int)-1)/\Hid (kW wx b gp B (az B (ps.take k)) (kV B ps)/\ay [b] w wx))
  case atStart=>exact⟨n,by omega,by omega,rfl,ae.out,ay.refl _ _⟩
  case round=>
   obtain⟨k,hk,ag,rfl,U⟩:=hrel;cases gk with
   |zero=>
    obtain rfl:q=k:=by omega
    have aa:¬((q:Int)<=(q:Int)-1):=by omega
    obtain⟨z,J⟩:=U.out;obtain⟨a,cap,G,f0,q1,q2⟩:=z.slice;have HC:=ar (z.cut q (by rw[V.out];omega) G);rw[V.out] at G q1;unfold maxLen at q2;rw[xN _ _ _ (by rw[W.out];omega)] at HC;obtain⟨HT,jA⟩:=hh2 (FH EW.out q) J;have b1:(q:Int)<=(n:Int):=by omega
    have b2:(q:Int)<=(cap:Int):=by omega
    clear z J U hk;go_wp2_with fail;go_end0;exact⟨rfl,⟨HC.out,HT.out⟩,jA.out.setCell (by simp) _⟩
   |succ g=>
    obtain⟨k,rfl⟩:∃k',k=k'+1:=⟨k-1,by omega⟩;have ek:((k+1:Nat):Int)-1=(k:Int):=by omega
    rw[ek];clear ek;have aa:(q:Int)<=(k:Int):=by omega
    have cJ:(0:Int)<=(k:Int):=by omega
    have ak:(k:Int)<(n:Int):=by omega
    obtain⟨z,J⟩:=U.out;obtain⟨af,G,q1,q2,c1,c2⟩:=z.note (k:=k) (by rw[V.out];omega);obtain⟨e1,e2⟩:=FI B ps k (by rw[W.out];omega);obtain⟨x0,x1⟩:=ug EW.out (k:=k) (by rw[W.out];omega);have HU:=ar (MA B ps k (by rw[W.out];omega));rw[e1] at c1;rw[e2] at c2;clear e1 e2;rw[V.out] at G q1;unfold maxLen at q2;generalize iw ps k=x at *;generalize (az B (ps.take k)).getD x.toNat 0=ac at *;obtain⟨j,rfl⟩:=cy x0;rw[aG] at HU;have x2:(j:Int)<3128:=x1;have hj:j<3128:=by omega
    have d1:=z.cell1 hj;have d2:wr.frozen? ⟨b,3128+j,none⟩=false:=by obtain⟨lb,lx,vp,h1,h2,h3⟩:=z;exact h1.frozen _
    obtain⟨HS,jA⟩:=hh2 (z.drew.setW j hj ac) J;generalize (az B (ps.take (k+1))).getD j 0=aj at *;clear z J U x1;go_wp2_with fail
    go_still_tail 20,(by kernel_rfl)
    go_wp2_with fail;go_roundg g;case measure=>omega
    case rel=>
     refine⟨k,by omega,by omega,by first|rfl|go_num,?_,jA.out.drew.setCell (by simp) _⟩;have :=HS.out;rw[HU.out] at this;exact this
 ·go_in
  go_wp2_with fail;clear G f0;go_loopg [5] (q-q) (λgh s5 wx=>∃k:Nat,k=q+gh/\k<=q/\s5= .int .i64 ((k:Int)-1)/\Hid (kW wx b gp B (az B (ps.take k)) (kV B ps)/\ay [b] w wx))
  case atStart=>exact⟨q,by omega,by omega,rfl,ae.out,ay.refl _ _⟩
  case round=>
   obtain⟨k,hk,ag,rfl,U⟩:=hrel;cases gk with
   |zero=>
    obtain rfl:q=k:=by omega
    have aa:¬((q:Int)<=(q:Int)-1):=by omega
    obtain⟨z,J⟩:=U.out;obtain⟨a,cap,G,f0,q1,q2⟩:=z.slice;have HC:=ar (z.cut q (by rw[V.out];omega) G);rw[V.out] at G q1;unfold maxLen at q2;rw[xN _ _ _ (by rw[W.out];omega)] at HC;obtain⟨HT,jA⟩:=hh2 (FH EW.out q) J;have b1:(q:Int)<=(q:Int):=by omega
    have b2:(q:Int)<=(cap:Int):=by omega
    clear z J U hk;go_wp2_with fail;go_end0;exact⟨rfl,⟨HC.out,HT.out⟩,jA.out.setCell (by simp) _⟩
   |succ g=>omega
theorem P4{z:List (Int×Int)}(h:kW w b W B X z):
  Calls prog 98 #[b] w λe w'=>e=(z.length:Int)/\w=w':=by
 obtain⟨lb,lx,U,J,G,V⟩:=h;have hc:w.cell? ⟨b,6256,none⟩=some U:=by rw[J.cell,uU _ lb lx]
 obtain⟨a,cap,rfl,q1,q2⟩:=iX G;clear J G V lb lx;generalize z.length=n at *;go_in;go_wp2;go_ret;exact⟨rfl,rfl⟩
theorem TQ (h:eK w b z B ps):
  Calls prog 98 #[b] w λe w'=>e=(ps.length:Int)/\w=w':=by
 have :=P4 h.raw;rw[sP] at this;exact this
end
section
variable{w w':World}{J K W a b c d e f g gp h j n x y z:Nat}{B X:List Int}{G ps qs:List (Int×Int)}{l own:List Nat}{v:Value}{o:Oper}{next:Act->World->Prop}{row:Option Nat}
def ones (n x:Nat):Nat:=((List.range n).filter λj=>x.testBit j).length
def zy (x:Nat):List Nat:=(List.range 64).filter λj=>x.testBit j
theorem TR (x:Nat):ones 64 x=(zy x).length:=rfl
theorem pB (b a j:Nat)(h:b<256):(b+256*a).testBit j=if j<8 then b.testBit j else a.testBit (j-8):=by
 have :=Nat.testBit_two_pow_mul_add a (b:=b) (i:=8) (by simpa using h) j;rw[Nat.add_comm];simpa using this
theorem xP (b m a M:Nat)(z:b<256)(G:m<256):(b+256*a) &&& (m+256*M)=(b &&& m)+256*(a &&& M):=by
 apply Nat.eq_of_testBit_eq;intro j;have h:b &&& m<256:=jZ Nat.and_le_left z;rw[kb,pB b a j z,pB m M j G,pB _ _ j h];split<;>simp
theorem iY (p:Nat->Bool)(m n:Nat):(List.range (m+n)).filter p=(List.range m).filter p++((List.range n).filter λj=>p (m+j)).map (m+·):=by
 rw[List.range_add,eJ,List.filter_map];rfl
theorem oU (n b a:Nat)(z:b<256):ones (8+n) (b+256*a)=ones 8 b+ones n a:=by
 unfold ones;rw[iY,aC,bZ]
 congr 1
 ·congr 1
  apply iH;intro j h;rw[bW] at h;rw[pB b a j z,aB h]
 ·congr 1
  apply iH;intro j _;rw[pB b a _ z,aA,dD]
def rep (m:Nat):Nat->Nat
 |0=>0
 |n+1=>m+256*rep m n
def q1 (b:Nat):Nat:=(b/2 &&& 85)+(b &&& 85)
def q2 (b:Nat):Nat:=(b/4 &&& 51)+(b &&& 51)
def q3 (b:Nat):Nat:=(b/16+b)%16
def st1 (n x:Nat):Nat:=(x/2 &&& rep 85 n)+(x &&& rep 85 n)
def st2 (n x:Nat):Nat:=(x/4 &&& rep 51 n)+(x &&& rep 51 n)
def st3 (n x:Nat):Nat:=(x/16+x) &&& rep 15 n
theorem Xh:∀b:Fin 256,∀c:Fin 2,(b.val/2+128*c.val) &&& 85=b.val/2 &&& 85:=by decide+kernel
theorem Xi:∀b:Fin 256,∀c:Fin 4,(b.val/4+64*c.val) &&& 51=b.val/4 &&& 51:=by decide+kernel
theorem DF:∀b:Fin 256,q1 b.val<256/\q2 (q1 b.val)<256/\q2 (q1 b.val)/16<=4/\q2 (q1 b.val)%16<=4/\q3 (q2 (q1 b.val))=ones 8 b.val/\ones 8 b.val<=8:=by decide+kernel
theorem qM (n b a:Nat)(h:b<256):st1 (n+1) (b+256*a)=q1 b+256*st1 n a:=by
 unfold st1 q1;have e:(b+256*a)/2=(b/2+128*(a%2))+256*(a/2):=by omega
 have c:=Xh ⟨b,h⟩ ⟨a%2,by omega⟩;simp only at c;rw[e,rep,xP _ _ _ _ (by omega) (by omega),xP _ _ _ _ h (by omega),c];omega
theorem qN (n b a:Nat)(h:b<256):st2 (n+1) (b+256*a)=q2 b+256*st2 n a:=by
 unfold st2 q2;have e:(b+256*a)/4=(b/4+64*(a%4))+256*(a/4):=by omega
 have c:=Xi ⟨b,h⟩ ⟨a%4,by omega⟩;simp only at c;rw[e,rep,xP _ _ _ _ (by omega) (by omega),xP _ _ _ _ h (by omega),c];omega
theorem afa (x:Nat):x &&& 15=x%16:=by
 have :=dV x 4;simpa using this
theorem qO (n b a:Nat)(z:b/16<=4)(h:b%16<=4)(G:a%16<=4):st3 (n+1) (b+256*a)=q3 b+256*st3 n a:=by
 unfold st3 q3;have e:(b+256*a)/16+(b+256*a)=(b/16+b+16*(a%16))+256*(a/16+a):=by omega
 rw[e,rep,xP _ _ _ _ (by omega) (by omega),afa];omega
theorem Xj:st1 0 0=0:=rfl
theorem Xk:st2 0 0=0:=rfl
theorem Xl:st3 0 0=0:=rfl
def KU (a b c d e f g h:Nat):Nat:=a+256*(b+256*(c+256*(d+256*(e+256*(f+256*(g+256*(h+256*0)))))))
theorem TS (x:Nat)(z:x<18446744073709551616):∃a b c d e f g h,(a<256/\b<256/\c<256/\d<256/\e<256/\f<256/\g<256/\h<256)/\x=KU a b c d e f g h:=by
 refine⟨x%256,x/256%256,x/65536%256,x/16777216%256,x/4294967296%256,x/1099511627776%256,x/281474976710656%256,x/72057594037927936,?_,?_⟩
 ·omega
 ·unfold KU;omega
theorem ui (z:a<256)(h:y<K):a+256*y<256*K:=by omega
theorem uj (z:a<=68)(h:y<=K):a+256*y<=68+256*K:=by omega
theorem adk (J:a<256)(hb:b<256)(hc:c<256)(U:d<256)(G:e<256)(V:f<256)(W:g<256)(z:h<256):KU a b c d e f g h<18446744073709551616:=
 bS (ui J (ui hb (ui hc (ui U (ui G (ui V (ui W (ui z (Nat.zero_lt_one))))))))) (by decide)
theorem adl (J:a<=68)(hb:b<=68)(hc:c<=68)(U:d<=68)(G:e<=68)(V:f<=68)(W:g<=68)(z:h<=68):KU a b c d e f g h<=4919131752989213764:=
 cE (uj J (uj hb (uj hc (uj U (uj G (uj V (uj W (uj z (aH 0))))))))) (by decide)
theorem aaS (a3 W V U J f3 G h:Nat)(A6:a3<=8)(B6:W<=8)(C6:V<=8)(D6:U<=8)(E6:J<=8)(F6:f3<=8)(G6:G<=8)(H6:h<=8):∃x4 x5 x6,KU a3 W V U J f3 G h+KU a3 W V U J f3 G h/256=x4/\x4+x4/65536=x5/\x5+x5/4294967296=x6/\
  x4<9223372036854775808/\x5<9223372036854775808/\x6<9223372036854775808/\x6%128=a3+(W+(V+(U+(J+(f3+(G+(h+0))))))):=by
 refine⟨_,_,_,rfl,rfl,rfl,?_⟩;unfold KU;have k3:(a3+256*(W+256*(V+256*(U+256*(J+256*(f3+256*(G+256*(h+256*0))))))))/256=W+256*(V+256*(U+256*(J+256*(f3+256*(G+256*h))))):=by omega
 rw[k3];clear k3;generalize hy:a3+256*(W+256*(V+256*(U+256*(J+256*(f3+256*(G+256*(h+256*0)))))))+(W+256*(V+256*(U+256*(J+256*(f3+256*(G+256*h))))))=y;have aa:y=(a3+W+256*(W+V))+65536*((V+U+256*(U+J))+65536*((J+f3+256*(f3+G))+65536*(G+h+256*h))):=by omega
 clear hy;have k4:y/65536=(V+U+256*(U+J))+65536*((J+f3+256*(f3+G))+65536*(G+h+256*h)):=by omega
 rw[k4];subst aa;clear k4;generalize hz:a3+W+256*(W+V)+65536*(V+U+256*(U+J)+65536*(J+f3+256*(f3+G)+65536*(G+h+256*h)))+(V+U+256*(U+J)+65536*(J+f3+256*(f3+G)+65536*(G+h+256*h)))=z;have ac:z=(a3+W+V+U+256*(W+V+U+J)+65536*(V+U+J+f3+256*(U+J+f3+G)))+4294967296*((J+f3+G+h)+256*(f3+G+h)+65536*(G+h+256*h)):=by omega
 clear hz;have k5:z/4294967296=(J+f3+G+h)+256*(f3+G+h)+65536*(G+h+256*h):=by omega
 rw[k5];refine⟨by omega,by omega,by omega,?_⟩;omega
theorem MF (x:Nat)(hx:x<18446744073709551616):∃x1 x2 x3 V W x6,st1 8 x=x1/\st2 8 x1=x2/\st3 8 x2=x3/\x3+x3/256=V/\V+V/65536=W/\W+W/4294967296=x6/\
  x1<18446744073709551616/\x2<18446744073709551616/\x2/16+x2<18446744073709551616/\x3<18446744073709551616/\V<9223372036854775808/\W<9223372036854775808/\x6<9223372036854775808/\x6%128=ones 64 x:=by
 obtain⟨a,b,c,d,e,f,g,h,⟨ha,hb,hc,hd,he,hf,hg,hh⟩,rfl⟩:=TS x hx;have A:=DF ⟨a,ha⟩;have B:=DF ⟨b,hb⟩;have C:=DF ⟨c,hc⟩;have D:=DF ⟨d,hd⟩;have E:=DF ⟨e,he⟩;have F:=DF ⟨f,hf⟩;have G:=DF ⟨g,hg⟩;have H:=DF ⟨h,hh⟩;simp only at A B C D E F G H;have U:st1 8 (KU a b c d e f g h)=KU (q1 a) (q1 b) (q1 c) (q1 d) (q1 e) (q1 f) (q1 g) (q1 h):=by
  unfold KU;rw[qM _ _ _ ha,qM _ _ _ hb,qM _ _ _ hc,qM _ _ _ hd,qM _ _ _ he,qM _ _ _ hf,qM _ _ _ hg,qM _ _ _ hh,Xj]
 have z:st2 8 (KU (q1 a) (q1 b) (q1 c) (q1 d) (q1 e) (q1 f) (q1 g) (q1 h))=KU (q2 (q1 a)) (q2 (q1 b)) (q2 (q1 c)) (q2 (q1 d)) (q2 (q1 e)) (q2 (q1 f)) (q2 (q1 g)) (q2 (q1 h)):=by
  unfold KU;rw[qN _ _ _ A.1,qN _ _ _ B.1,qN _ _ _ C.1,qN _ _ _ D.1,qN _ _ _ E.1,qN _ _ _ F.1,qN _ _ _ G.1,qN _ _ _ H.1,Xk]
 have J:st3 8 (KU (q2 (q1 a)) (q2 (q1 b)) (q2 (q1 c)) (q2 (q1 d)) (q2 (q1 e)) (q2 (q1 f)) (q2 (q1 g)) (q2 (q1 h)))=KU (ones 8 a) (ones 8 b) (ones 8 c) (ones 8 d) (ones 8 e) (ones 8 f) (ones 8 g) (ones 8 h):=by
  unfold KU;rw[qO _ _ _ A.2.2.1 A.2.2.2.1 (by omega),qO _ _ _ B.2.2.1 B.2.2.2.1 (by omega),qO _ _ _ C.2.2.1 C.2.2.2.1 (by omega),qO _ _ _ D.2.2.1 D.2.2.2.1 (by omega),
   qO _ _ _ E.2.2.1 E.2.2.2.1 (by omega),qO _ _ _ F.2.2.1 F.2.2.2.1 (by omega),qO _ _ _ G.2.2.1 G.2.2.2.1 (by omega),qO _ _ _ H.2.2.1 H.2.2.2.1 (by omega),Xl,
   A.2.2.2.2.1,B.2.2.2.2.1,C.2.2.2.2.1,D.2.2.2.2.1,E.2.2.2.2.1,F.2.2.2.2.1,G.2.2.2.2.1,H.2.2.2.2.1]
 have ho:ones 64 (KU a b c d e f g h)=ones 8 a+(ones 8 b+(ones 8 c+(ones 8 d+(ones 8 e+(ones 8 f+(ones 8 g+(ones 8 h+0))))))):=by
  unfold KU;rw[show(64:Nat)=8+(8+(8+(8+(8+(8+(8+(8+0))))))) from rfl,oU _ _ _ ha,oU _ _ _ hb,oU _ _ _ hc,oU _ _ _ hd,oU _ _ _ he,oU _ _ _ hf,oU _ _ _ hg,oU _ _ _ hh];rfl
 obtain⟨V,W,x6,p4,p5,p6,b4,b5,b6,hm⟩:=aaS _ _ _ _ _ _ _ _ A.2.2.2.2.2 B.2.2.2.2.2 C.2.2.2.2.2 D.2.2.2.2.2 E.2.2.2.2.2 F.2.2.2.2.2 G.2.2.2.2.2 H.2.2.2.2.2;have l2:KU (q2 (q1 a)) (q2 (q1 b)) (q2 (q1 c)) (q2 (q1 d)) (q2 (q1 e)) (q2 (q1 f)) (q2 (q1 g)) (q2 (q1 h))<=4919131752989213764:=by
  apply adl
  ·have :=A.2.2.1;have :=A.2.2.2.1;omega
  ·have :=B.2.2.1;have :=B.2.2.2.1;omega
  ·have :=C.2.2.1;have :=C.2.2.2.1;omega
  ·have :=D.2.2.1;have :=D.2.2.2.1;omega
  ·have :=E.2.2.1;have :=E.2.2.2.1;omega
  ·have :=F.2.2.1;have :=F.2.2.2.1;omega
  ·have :=G.2.2.1;have :=G.2.2.2.1;omega
  ·have :=H.2.2.1;have :=H.2.2.2.1;omega
 refine⟨_,_,_,V,W,x6,U,z,J,p4,p5,p6,adk A.1 B.1 C.1 D.1 E.1 F.1 G.1 H.1,?_,?_,?_,b4,b5,b6,?_⟩
 ·clear A B C D E F G H U z J ho p4 p5 p6 hm;omega
 ·clear A B C D E F G H U z J ho p4 p5 p6 hm;omega
 ·clear A B C D E F G H U z J ho p5 p6 hm;omega
 ·rw[ho];exact hm
theorem Cs (p q:Nat->Bool)(n c:Nat)(hc:c<n)(G:∀j,j<c->p j=false/\q j=false)(V:p c=true)(hq:q c=false)(z:∀j,c<j->p j=q j):
  (List.range n).filter p=c::(List.range n).filter q:=by
 obtain⟨d,rfl⟩:∃d,n=c+(1+d):=⟨n-c-1,by omega⟩;have J:∀r:Nat->Bool,(∀j,j<c->r j=false)->(List.range c).filter r=[]:=by
  intro r W;rw[List.filter_eq_nil_iff];intro j U;rw[bW] at U;simp[W j U]
 rw[iY p,iY q,J p λj h=>(G j h).1,J q λj h=>(G j h).2,iY _ 1 d,iY _ 1 d];have s1:(List.range 1).filter (λj=>p (c+j))=[0]:=by simp[dU,V]
 have s2:(List.range 1).filter (λj=>q (c+j))=[]:=by simp[dU,hq]
 have s3:(List.range d).filter (λj=>p (c+(1+j)))=(List.range d).filter (λj=>q (c+(1+j))):=iH λj _=>z _ (by omega)
 rw[s1,s2,s3];simp
theorem xj (k m j:Nat):(2^k*m).testBit j=(decide (k<=j)&&m.testBit (j-k)):=by
 rw[Nat.mul_comm,Nat.testBit_mul_two_pow]
theorem Jw (x:Nat)(h0:x≠0)(hx:x<18446744073709551616):Lib.ctz 64 x<64/\zy x=Lib.ctz 64 x::zy (x &&& (x-1)):=by
 have V:x<2^64:=hx;obtain⟨m,hm,W⟩:=Lib.ctzFrom_spec 64 x (by omega) V;have e:Lib.ctz 64 x=Lib.ctzFrom 64 x:=by simp[Lib.ctz,h0]
 rw[e];refine⟨W,?_⟩;generalize Lib.ctzFrom 64 x=k at *;clear e;have hp:0<2^k:=Nat.two_pow_pos k;have e1:x-1=2^k*(2*m)+(2^k-1):=by
  rw[hm,Nat.mul_add,iK];omega
 have t0:∀j,(2^k*(2*m)).testBit j=(decide (k<j)&&m.testBit (j-k-1)):=by
  intro j;rw[xj];by_cases h:k<j
  ·obtain⟨d,rfl⟩:∃d,j=k+(d+1):=⟨j-k-1,by omega⟩
   have J:k+(d+1)-k=d+1:=by omega
   rw[J,Nat.testBit_succ,show 2*m/2=m by omega];simp
  ·have :k<=j->(2*m).testBit (j-k)=false:=by
    intro aa;rw[show j-k=0 by omega,Nat.testBit_zero];simp
   by_cases z:k<=j
   ·simp[this z,h]
   ·simp[z,h]
 have U:∀j,x.testBit j=(decide (j=k)||(decide (k<j)&&m.testBit (j-k-1))):=by
  intro j;rw[hm,xj];by_cases h:k<j
  ·obtain⟨d,rfl⟩:∃d,j=k+(d+1):=⟨j-k-1,by omega⟩
   have J:k+(d+1)-k=d+1:=by omega
   rw[J,Nat.testBit_succ,show(2*m+1)/2=m by omega];simp
  ·by_cases z:k=j
   ·subst z;simp[Nat.testBit_zero]
   ·have G:¬k<=j:=by omega
    have h4:¬j=k:=by omega
    simp[h,G,h4]
 have ty:∀j,(x &&& (x-1)).testBit j=(decide (k<j)&&m.testBit (j-k-1)):=by
  intro j;rw[kb,U,e1,Nat.testBit_two_pow_mul_add _ (by omega)];by_cases h:j<k
  ·have z:¬j=k:=by omega
   have G:¬k<j:=by omega
   simp[z,G]
  ·rw[aA h]
   by_cases z:k<j
   ·obtain⟨d,rfl⟩:∃d,j=k+(d+1):=⟨j-k-1,by omega⟩
    have J:k+(d+1)-k=d+1:=by omega
    rw[J,Nat.testBit_succ,show 2*m/2=m by omega];simp
   ·obtain rfl:j=k:=by omega
    simp[Nat.testBit_zero]
 unfold zy;refine Cs _ _ 64 k W ?_ ?_ ?_ ?_
 ·intro j hj
  rw[U,ty];have z:¬j=k:=by omega
  have G:¬k<j:=by omega
  simp[z,G]
 ·rw[U];simp
 ·rw[ty];simp
 ·intro j hj
  rw[U,ty];have z:¬j=k:=by omega
  simp[z]
theorem Jy:zy 0=[]:=by simp[zy]
def In64 (X:List Int):Prop:=∀i,0<=X.getD i 0/\X.getD i 0<18446744073709551616
theorem In64.set(h:In64 X)(i:Nat)(x:Int)(G:0<=x)(z:x<18446744073709551616):In64 (X.set i x):=by
 intro j;rw[aj,eT];split
 ·split
  ·exact⟨G,z⟩
  ·exact⟨by simp,by simp⟩
 ·rw[<-aj];exact h j
theorem In64.put:∀{X:List Int},In64 X->(∀p∈ps,0<=p.2/\p.2<18446744073709551616)->In64 (az X ps):=by
 induction ps with
 |nil=>intro X h _;exact h
 |cons p ps ih=>
  intro X h z;show In64 (az (X.set p.1.toNat p.2) ps);have :=z p (by simp);exact ih (h.set _ _ this.1 this.2) λq G=>z q (by simp[G])
def bw (X:List Int) (k:Nat):Nat:=(X.getD (816+k) 0).toNat
theorem FL (h:In64 X)(k:Nat):bw X k<18446744073709551616:=by have :=h (816+k);unfold bw;omega
theorem aaT (h:In64 X)(k:Nat):((bw X k:Nat):Int)=X.getD (816+k) 0:=by have :=h (816+k);unfold bw;omega
def dF (X:List Int) (b:Nat):Bool:=(bw X (b/64)).testBit (b%64)
def Jz (X:List Int) (k:Nat):Nat:=if k=0 then (18446744073709551615-bw X 0) &&& (18446744073709551615-1) else 18446744073709551615-bw X k
theorem qP (x j:Nat)(h:x<18446744073709551616):(18446744073709551615-x).testBit j=(decide (j<64) && !x.testBit j):=by
 have :=Nat.testBit_two_pow_sub_succ (x:=x) (n:=64) h j;rw[<-this]
 congr 1
 show _=18446744073709551616-(x+1);omega
theorem Xm (X:List Int)(k:Nat):Jz X k<18446744073709551616:=by
 unfold Jz;split
 ·have :(18446744073709551615-bw X 0) &&& (18446744073709551615-1)<=18446744073709551615-bw X 0:=Nat.and_le_left
  omega
 ·omega
theorem MG (h:In64 X)(k j:Nat):(Jz X k).testBit j=(decide (j<64) && !(bw X k).testBit j && !(decide (k=0)&&decide (j=0))):=by
 unfold Jz;split
 ·rename_i hk
  subst hk;rw[kb,qP _ _ (FL h 0),qP _ _ (by omega),show(1:Nat)=2^0 from rfl,Nat.testBit_two_pow];by_cases G:j<64<;>by_cases z:j=0<;>simp[G,z]<;>(intro;omega)
 ·rename_i hk
  rw[qP _ _ (FL h k)];simp[hk]
def gY (X:List Int) (n:Nat):List Nat:=(List.range n).filter λb=>b != 0 && !dF X b
def aZ (X:List Int):List Nat:=gY X 256
theorem xR (h:In64 X)(k:Nat):gY X (64*(k+1))=gY X (64*k)++(zy (Jz X k)).map (64*k+·):=by
 unfold gY zy;rw[show 64*(k+1)=64*k+64 by omega,iY]
 congr 2
 apply iH;intro j J;rw[bW] at J;rw[MG h,dF,show(64*k+j)/64=k by omega,show(64*k+j)%64=j by omega];by_cases G:k=0<;>by_cases z:j=0
 ·subst G;subst z;simp
 ·simp[G,z,J]
 ·have U:¬(64*k=0):=by omega
  simp[G,z,U]
 ·have :¬(64*k+j=0):=by omega
  simp[G,z,J]
theorem kx:b∈gY X n↔b<n/\b≠0/\dF X b=false:=by
 unfold gY;rw[List.mem_filter,bW];simp
theorem rS (X:List Int)(n:Nat):(gY X n).Nodup:=List.Pairwise.filter _ List.nodup_range
theorem Ct (X:List Int):(aZ X).length<=255:=by
 unfold aZ gY;rw[show(256:Nat)=1+255 from rfl,iY,aC];have z:((List.range 1).filter λb=>b != 0 && !dF X b).length=0:=by simp[dU]
 have h:=fQ (λj=>(1+j) != 0 && !dF X (1+j)) (List.range 255);rw[bZ,z];simp only[fK] at h;omega
theorem P5 (h:In64 X)(k:Nat):(gY X (64*(k+1))).length=(gY X (64*k)).length+ones 64 (Jz X k):=by
 rw[xR h,aC,bZ,TR]
def setW (x j:Nat) (u:Bool):Nat:=if u=true then (x &&& (18446744073709551615-2^j)) ||| 2^j else x &&& (18446744073709551615-2^j)
theorem FM (h:j<64):2^j<18446744073709551616:=bS (Nat.pow_lt_pow_right (by decide) h) (by decide)
theorem aaU (G:x<18446744073709551616)(z:j<64)(u:Bool):setW x j u<18446744073709551616:=by
 have h:x &&& (18446744073709551615-2^j)<2^64:=jZ Nat.and_le_left G;unfold setW;split
 ·exact Nat.or_lt_two_pow h (FM z)
 ·exact h
theorem KV (U:x<18446744073709551616)(V:j<64)(u:Bool)(i:Nat):(setW x j u).testBit i=if i=j then u else x.testBit i:=by
 have G:¬i<64->x.testBit i=false:=by
  intro h;apply Nat.testBit_lt_two_pow;exact bS U (jh (n:=2) (i:=64) (by decide) (by omega))
 have J:(x &&& (18446744073709551615-2^j)).testBit i=(x.testBit i && !decide (i=j)):=by
  rw[kb,qP _ _ (FM V),Nat.testBit_two_pow];by_cases h:i<64
  ·by_cases z:i=j
   ·simp[z]
   ·have :¬j=i:=λe=>z e.symm
    simp[h,z,this]
  ·simp[G h]
 unfold setW;split
 ·rename_i hu
  rw[Nat.testBit_or,J,Nat.testBit_two_pow,hu];by_cases z:i=j
  ·simp[z]
  ·have :¬j=i:=λe=>z e.symm
   simp[z,this]
 ·rename_i hu
  rw[J];have :u=false:=by simpa using hu
  subst this;by_cases z:i=j<;>simp[z]
def eI (X:List Int) (b:Nat) (u:Bool):List (Int×Int):=if b=0\/256<=b then [] else [((816+b/64:Nat),(setW (bw X (b/64)) (b%64) u:Nat))]
theorem MH (h:In64 X)(b:Nat)(u:Bool):∀p∈eI X b u,0<=p.2/\p.2<18446744073709551616:=by
 intro p z;unfold eI at z;split at z
 ·simp at z
 ·rw[au] at z
  subst z;have :=aaU (FL h (b/64)) (iz b (by decide:0<64)) u;exact⟨by simp,by show((_:Nat):Int)<_;omega⟩
theorem jo (l:List Int)(i j:Nat)(x:Int)(h:i<l.length):(l.set i x).getD j 0=if i=j then x else l.getD j 0:=by
 rw[aj,eT];by_cases e:i=j
 ·subst e;simp[h]
 ·rw[aA e,aA e,aj]
theorem Cu (h:In64 X)(J:X.length=3128)(b:Nat)(U:b≠0)(V:b<256)(u:Bool)(c:Nat):dF (az X (eI X b u)) c=if c=b then u else dF X c:=by
 unfold eI;rw[aA,oJ,aG];unfold dF bw;rw[jo _ _ _ _ (by omega)];by_cases e:816+b/64=816+c/64
 ·rw[aB e,aG,show(X.getD (816+b/64) 0).toNat=bw X (b/64) from rfl,KV (FL h (b/64)) (iz b (by decide:0<64))]
  have G:c/64=b/64:=by omega
  rw[G];by_cases z:c=b
  ·rw[aB z,aB (by rw[z])]
  ·rw[aA z,aA];rfl
 ·rw[aA e,aA (by intro G;subst G;exact e rfl)]
def np (b k:Nat):List (Int×Int):=(List.range k).map λ(j:Nat)=>(((1080+b*8+j:Nat):Int),(0:Int))
def gW (b:Nat):List (Int×Int):=np b 8
theorem Bc (b k:Nat):np b (k+1)=np b k++[(((1080+b*8+k:Nat):Int),(0:Int))]:=by
 unfold np;rw[dU,eu];rfl
theorem DG (b k:Nat):(np b k).length=k:=by simp[np]
theorem xS{p:Int×Int}(h:p∈gW b):∃j,j<8/\p=(((1080+b*8+j:Nat):Int),(0:Int)):=by
 unfold gW np at h;rw[bF] at h;obtain⟨j,z,rfl⟩:=h;exact⟨j,bW.1 z,rfl⟩
theorem MI (h:∀p∈ps,1080<=p.1)(c:Nat)(G:c<256):dF (az X ps) c=dF X c:=by
 unfold dF bw;rw[dW _ _ _ λp z=>by have :=h p z;omega]
def dh (X:List Int):List Nat->List (Int×Int)
 | []=>[]
 |b::l=>(eI X b true++gW b)++dh (az X (eI X b true++gW b)) l
theorem Xn (h:In64 X)(b:Nat):∀p∈eI X b true++gW b,0<=p.2/\p.2<18446744073709551616:=by
 intro p z;rw[aT] at z;rcases z with z|z
 ·exact MH h b true p z
 ·obtain⟨j,-,rfl⟩:=xS z
  exact⟨Int.le_refl 0,by show(0:Int)<_;omega⟩
theorem MJ (h:In64 X)(z:X.length=3128)(b:Nat)(J:b≠0)(U:b<256)(c:Nat)(V:c<256):dF (az X (eI X b true++gW b)) c=(dF X c||decide (c=b)):=by
 rw[bz,MI (λp G=>by obtain⟨j,-,rfl⟩:=xS G;show(1080:Int)<=((_:Nat):Int);omega) c V,Cu h z b J U];by_cases e:c=b<;>simp[e]
theorem JA (X:List Int)(b:Nat)(h:b≠0)(z:b<256)(u:Bool):(eI X b u).length=1:=by
 unfold eI;rw[aA];rfl
theorem qj (l:List Nat):∀X:List Int,(∀b∈l,b≠0/\b<256)->(dh X l).length=9*l.length:=by
 induction l with
 |nil=>intro X _;rfl
 |cons b l ih=>
  intro X h;obtain⟨J,z⟩:=h b (by simp);show((eI X b true++gW b)++dh _ l).length=_;rw[aC,aC,JA X b J z,gW,DG,ih _ λc G=>h c (by simp[G])];simp only[cr];omega
theorem MK (l:List Nat)(b:Nat):∀X:List Int,dh X (l++[b])=dh X l++(eI (az X (dh X l)) b true++gW b):=by
 induction l with
 |nil=>intro X;show(eI X b true++gW b)++[]=[]++_;rw[br];rfl
 |cons c l ih=>
  intro X;have e:az X (dh X (c::l))=az (az X (eI X c true++gW c)) (dh (az X (eI X c true++gW c)) l):=bz _ _ _;rw[e];show(eI X c true++gW c)++dh (az X (eI X c true++gW c)) (l++[b])=((eI X c true++gW c)++dh (az X (eI X c true++gW c)) l)++_;rw[ih,aV (eI X c true++gW c)]
theorem nQ (l:List Nat):∀X:List Int,In64 X->X.length=3128->(∀b∈l,b≠0/\b<256)->
  In64 (az X (dh X l))/\(az X (dh X l)).length=3128/\∀c,c<256->dF (az X (dh X l)) c=(dF X c||decide (c∈l)):=by
 induction l with
 |nil=>intro X h z _;exact⟨h,z,λc _=>by simp[dh,az]⟩
 |cons b l ih=>
  intro X h z J;obtain⟨V,h1⟩:=J b (by simp);have W:In64 (az X (eI X b true++gW b)):=h.put (Xn h b);obtain⟨k1,k2,k3⟩:=ih (az X (eI X b true++gW b)) W (by rw[ct];exact z) λc G=>J c (by simp[G])
  have e:az X (dh X (b::l))=az (az X (eI X b true++gW b)) (dh (az X (eI X b true++gW b)) l):=bz _ _ _;rw[e];refine⟨k1,k2,λc G=> ?_⟩;rw[k3 c G,MJ h z b V h1 c G];by_cases e1:c=b<;>by_cases U:c∈l<;>simp[e1,U]
theorem Cv (G:l.Nodup)(n:Nat):l.filter (λc=> !decide (c∈l.take n))=l.drop n:=by
 have h1:l.filter (λc=> !decide (c∈l.take n))=(l.take n++l.drop n).filter (λc=> !decide (c∈l.take n)):=by rw[dn]
 rw[h1,eJ];have V:∀c,c∈l.take n->c∈l.drop n->False:=by
  rw[<-dn n l] at G;intro c W U;exact(List.nodup_append.1 G).2.2 c W c U rfl
 have e1:(l.take n).filter (λc=> !decide (c∈l.take n))=[]:=by
  rw[List.filter_eq_nil_iff];intro c z;simp[z]
 have J:(l.drop n).filter (λc=> !decide (c∈l.take n))=l.drop n:=by
  rw[List.filter_eq_self];intro c z;have :c∉l.take n:=λh=>V c h z
  simp[this]
 rw[e1,J,bQ]
theorem FN (h:In64 X)(hl:X.length=3128)(n:Nat):In64 (az X (dh X ((aZ X).take n)))/\(az X (dh X ((aZ X).take n))).length=3128/\aZ (az X (dh X ((aZ X).take n)))=(aZ X).drop n:=by
 have J:∀b∈(aZ X).take n,b≠0/\b<256:=λb hb=>by
  have :=kx.1 (bO hb);exact⟨this.2.1,this.1⟩
 obtain⟨G,U,V⟩:=nQ ((aZ X).take n) X h hl J;refine⟨G,U,?_⟩;have hd:=Cv (rS X 256) n;have e:∀Y,gY Y 256=(List.range 256).filter (λb=>b != 0 && !dF Y b):=λ_=>rfl
 have z:∀c,c<256->dF (az X (dh X (List.take n (gY X 256)))) c=(dF X c||decide (c∈List.take n (gY X 256))):=V;clear V G U J;show gY (az X (dh X (List.take n (gY X 256)))) 256=List.drop n (gY X 256);generalize List.take n (gY X 256)=L at *;rw[<-hd,e X,e,List.filter_filter];apply iH;intro c W;rw[bW] at W;rw[z c W];by_cases e1:c∈L<;>simp[e1]
end
section
open Go.RowKit
variable{w w':World}{J K W a b c d e f g gp h j n x y z:Nat}{B X:List Int}{G ps qs:List (Int×Int)}{l own:List Nat}{v:Value}{o:Oper}{next:Act->World->Prop}{row:Option Nat}
def iO (b:Int):Int:=if b<0\/256<=b then -1 else 1080+b*8
theorem ky (b:Int)(w:World):Calls prog 149 #[b] w λe w'=>e=(iO b:Int)/\w=w':=by
 rcases (show b<0\/256<=b\/(0<=b/\b<256) by omega) with h|h|⟨G,z⟩
 ·rw[iO,aB (.inl h)]
  go_in;go_wp2;go_ret;exact⟨rfl,rfl⟩
 ·rw[iO,aB (.inr h)]
  have J:¬b<0:=by omega
  go_in;go_wp2;go_ret;exact⟨rfl,rfl⟩
 ·rw[iO,aA]
  go_in;go_wp2;go_ret;exact⟨rfl,rfl⟩
theorem ML{k:IntKind}{a b:Int}(h:a=b):Ending.returned (.int k a)= .returned (.int k b):=by rw[h]
def IG (b:Int):Bool:=decide (0<=b)&&decide (b<256)
theorem xU{b:Int}:IG b=true↔0<=b/\b<256:=by simp[IG]
theorem Bd (i:Int)(w:World):Calls prog 164 #[i] w λe w'=>e=(IG i:Bool)/\w=w':=by
 by_cases z:0<=i
 ·by_cases h:i<256
  ·rw[xU.2 ⟨z,h⟩]
   go_in;go_wp2;go_ret;exact⟨rfl,rfl⟩
  ·rw[show IG i=false by simp[IG];omega]
   go_in;go_wp2;go_ret;exact⟨rfl,rfl⟩
 ·rw[show IG i=false by simp[IG];omega]
  go_in;go_wp2;go_ret;exact⟨rfl,rfl⟩
theorem DI (b:Nat)(G:b<256)(w:World):Calls prog 165 #[(b:Int)] w λe w'=>e=((816+b/64:Nat):Int)/\w=w':=by
 have z:(0:Int)<=(b:Int):=by omega
 have h:(b:Int)<256:=by omega
 go_in;go_wp2;go_ret;exact⟨ML (by omega),rfl⟩
def pC (b:Nat):Nat:=2^(b%64)
theorem KW (b:Nat):pC b<18446744073709551616:=FM (iz _ (by decide))
theorem Xo (b:Nat):IntKind.u64.wrap (2^(b%64))=((pC b:Nat):Int):=by
 have h:=KW b;have e:((2:Int)^(b%64))=((2^(b%64):Nat):Int):=by simp
 rw[fY,e];unfold pC at *;generalize 2^(b%64)=x at *;omega
theorem xV (b:Nat)(G:b<256)(w:World):Calls prog 166 #[(b:Int)] w λe w'=>e= .returned (.int .u64 ((pC b:Nat):Int))/\w=w':=by
 have z:(0:Int)<=(b:Int):=by omega
 have h:(b:Int)<256:=by omega
 have H:=ar (Xo b);go_in;go_wp2;go_ret;exact⟨ML H.out,rfl⟩
theorem aaV (x j:Nat):x &&& 2^j=if x.testBit j=true then 2^j else 0:=by
 apply Nat.eq_of_testBit_eq;intro i;rw[kb,Nat.testBit_two_pow];by_cases e:j=i
 ·subst e
  cases h:x.testBit j<;>simp
 ·cases h:x.testBit j<;>simp[e]
theorem Xp (x b:Nat):(x &&& pC b≠0)↔x.testBit (b%64)=true:=by
 unfold pC;rw[aaV];have :=Nat.two_pow_pos (b%64);cases x.testBit (b%64)<;>simp<;>omega
theorem Cw (h:In64 (az B ps))(k:Nat)(z:k<2000):A5 B ps ((816+k:Nat):Int)=((bw (az B ps) k:Nat):Int):=by
 unfold A5;rw[aB,aaT h,aG]
theorem TT (x b:Nat):setW x (b%64) false=x &&& (18446744073709551615-pC b)/\setW x (b%64) true=(x &&& (18446744073709551615-pC b)) ||| pC b:=⟨rfl,rfl⟩
theorem MM{U:Nat}(h:eK w b U B ps)(G:In64 (az B ps))(hn:ps.length<=1000000)(i:Int)(u:Bool):
  Calls prog 142 #[b,i,u] w (jU w b U B (ps++eI (az B ps) i.toNat u)):=by
 have HI:=ar (Bd i w);by_cases hz:i=0
 ·subst hz
  have V:Hid (jU w b U B (ps++eI (az B ps) (0:Int).toNat u) (.returned (.tuple #[])) w):=by
   show jU _ _ _ _ _ _ _;rw[show eI (az B ps) (0:Int).toNat u=[] by simp[eI],br];exact⟨rfl,U,.inl rfl,h,ay.refl _ _⟩
  clear h;go_in;go_wp2_with fail;go_end0;exact V.out
 have e0:(i==0)=false:=by simpa using hz
 cases hi:IG i
 ·rw[hi] at HI
  have V:Hid (jU w b U B (ps++eI (az B ps) i.toNat u) (.returned (.tuple #[])) w):=by
   show jU _ _ _ _ _ _ _;have :¬(0<=i/\i<256):=λe=>by rw[xU.2 e] at hi;cases hi
   rw[show eI (az B ps) i.toNat u=[] by unfold eI;rw[aB],br];exact⟨rfl,U,.inl rfl,h,ay.refl _ _⟩
  clear hi h hz;go_in;go_wp2_with fail;refine C' HI.out ?_;go_wp2_with fail;go_end0;exact V.out
 ·rw[hi] at HI
  obtain⟨h0,h1⟩:=xU.1 hi;clear hi;obtain⟨j,rfl⟩:=cy h0;have hj:j<256:=by omega
  have Cf:¬(j=0\/256<=j):=by omega
  clear hz;obtain⟨HB,V,HG⟩:=hh3 (DI j hj w) (xV j hj w) (pz h ((816+j/64:Nat):Int));rw[Cw G (j/64) (by omega)] at HG;have hx:=FL G (j/64);have hm:=KW j;have ha:=u64_andNot_nat (bw (az B ps) (j/64)) (pC j) hx hm;have hy:bw (az B ps) (j/64) &&& (18446744073709551615-pC j)<18446744073709551616:=jZ Nat.and_le_left hx;have J:Sg ((816+j/64:Nat):Int)=true:=uh.2 ⟨by omega,by omega⟩;obtain⟨s0,s1⟩:=TT (bw (az B ps) (j/64)) j;cases u
  ·have HP:Hid (Calls prog 48 #[b,((816+j/64:Nat):Int),.int .u64 ((bw (az B ps) (j/64) &&& (18446744073709551615-pC j):Nat):Int)] w (jU w b U B (ps++eI (az B ps) (j:Int).toNat false))):=by
    have :=pA h hn ((816+j/64:Nat):Int) ((bw (az B ps) (j/64) &&& (18446744073709551615-pC j):Nat):Int);unfold Ai at this;rw[aB J] at this;unfold eI;rw[aG,aA Cf,s0];exact this
   clear h G hn hx hm J s0 s1 Cf hy;generalize ps++eI (az B ps) (j:Int).toNat false=qs,bw (az B ps) (j/64) &&& (18446744073709551615-pC j)=y at *;generalize bw (az B ps) (j/64)=x,pC j=m at *;go_in;go_wp2_with fail;refine C' HI.out ?_;go_wp2_with fail;refine C' HB.out ?_;go_wp2_with fail;refine C' HG.out ?_;go_wp2_with fail;refine C' V.out ?_;go_wp2_with fail;refine C' HB.out ?_;go_wp2_with fail;refine HP.out.mono ?_;rintro e w' W;have HQ:=ar W;obtain⟨rfl,-⟩:=W;go_wp2_with fail;go_end0;exact HQ.out
  ·have ho:=u64_or_nat (bw (az B ps) (j/64) &&& (18446744073709551615-pC j)) (pC j) hy hm
   have HP:Hid (Calls prog 48 #[b,((816+j/64:Nat):Int),.int .u64 (((bw (az B ps) (j/64) &&& (18446744073709551615-pC j)) ||| pC j:Nat):Int)] w (jU w b U B (ps++eI (az B ps) (j:Int).toNat true))):=by
    have :=pA h hn ((816+j/64:Nat):Int) (((bw (az B ps) (j/64) &&& (18446744073709551615-pC j)) ||| pC j:Nat):Int);unfold Ai at this;rw[aB J] at this;unfold eI;rw[aG,aA Cf,s1];exact this
   clear h G hn hx hm J s0 s1 Cf hy;generalize ps++eI (az B ps) (j:Int).toNat true=qs,(bw (az B ps) (j/64) &&& (18446744073709551615-pC j)) ||| pC j=z at *
   generalize bw (az B ps) (j/64) &&& (18446744073709551615-pC j)=y at *;generalize bw (az B ps) (j/64)=x,pC j=m at *;go_in;go_wp2_with fail;refine C' HI.out ?_;go_wp2_with fail;refine C' HB.out ?_;go_wp2_with fail;refine C' HG.out ?_;go_wp2_with fail;refine C' V.out ?_;go_wp2_with fail;refine C' V.out ?_;go_wp2_with fail;refine C' HB.out ?_;go_wp2_with fail;refine HP.out.mono ?_;rintro e w' W;have HQ:=ar W;obtain⟨rfl,-⟩:=W;go_wp2_with fail;go_end0;exact HQ.out
theorem aaW (x:Nat)(z:x<18446744073709551616):18446744073709551615 ^^^ x=18446744073709551615-x:=by
 apply Nat.eq_of_testBit_eq;intro j;rw[Nat.testBit_xor,qP x j z,show(18446744073709551615:Nat)=2^64-1 from rfl,Nat.testBit_two_pow_sub_one];by_cases h:j<64
 ·simp[h]
 ·have :x.testBit j=false:=by
   apply Nat.testBit_lt_two_pow;exact bS z (jh (n:=2) (i:=64) (by decide) (by omega))
  simp[h,this]
theorem aaX (x:Nat)(h:x<18446744073709551616):bits .xor .u64 IntKind.u64.max (x:Int)=((18446744073709551615-x:Nat):Int):=by
 rw[<-aaW x h];exact u64_xor_nat 18446744073709551615 x (by decide) h
theorem DJ (h:eK w b W B ps)(z:In64 (az B ps))(k:Nat)(hk:k<4):
  Calls prog 203 #[b,(k:Int)] w λe w'=>e= .returned (.int .u64 ((Jz (az B ps) k:Nat):Int))/\w=w':=by
 have G:=ar (pz h ((816+k:Nat):Int));rw[Cw z k (by omega)] at G;have hx:=aaX _ (FL z k);have ek:IntKind.i64.wrap (816+(k:Int))=((816+k:Nat):Int):=by rw[fR _ (by omega)];omega
 by_cases J:k=0
 ·subst J
  have V:Hid (Calls prog 166 #[(0:Int)] w (λe w'=>e= .returned (.int .u64 1)/\w=w')):=xV 0 (by decide) w;have ha:bits .andNot .u64 (((18446744073709551615-bw (az B ps) 0:Nat)):Int) 1=((Jz (az B ps) 0:Nat):Int):=by
   rw[Jz,aB rfl];exact u64_andNot_nat (18446744073709551615-bw (az B ps) 0) 1 (by omega) (by decide)
  generalize Jz (az B ps) 0=f,18446744073709551615-bw (az B ps) 0=y at *;generalize bw (az B ps) 0=x at *;clear h z;go_in;go_wp2_with fail;refine C' G.out ?_;go_wp2_with fail;refine C' V.out ?_;go_wp2_with fail;go_ret;exact⟨rfl,rfl⟩
 ·have e0:((k:Int)==0)=false:=by simp;omega
  have U:18446744073709551615-bw (az B ps) k=Jz (az B ps) k:=by rw[Jz,aA J]
  rw[U] at hx;clear U;generalize Jz (az B ps) k=f,bw (az B ps) k=x at *;clear h z;go_in;go_wp2_with fail;refine C' G.out ?_;go_wp2_with fail;go_ret;exact⟨rfl,rfl⟩
theorem adm:rep 85 8=6148914691236517205:=by decide
theorem adn:rep 51 8=3689348814741910323:=by decide
theorem ado:rep 15 8=1085102592571150095:=by decide
theorem JB (n:Nat)(h:n<18446744073709551616):IntKind.u64.wrap (n:Int)=(n:Int):=by rw[fY];omega
theorem MN (x d m:Nat)(h:x<18446744073709551616)(z:m<18446744073709551616):bits .and .u64 ((x:Int)/(d:Int)) (m:Int)=((x/d &&& m:Nat):Int):=
 iu (x/d) m (jZ (Nat.div_le_self x d) h) z
theorem i64_and127(x:Nat)(h:x<9223372036854775808):bits .and .i64 (x:Int) 127=((x%128:Nat):Int):=by
 show IntKind.i64.wrap ((BitVec.ofInt 64 (x:Int) &&& BitVec.ofInt 64 127).toNat:Int)=_;have z:BitVec.ofInt 64 127=BitVec.ofNat 64 127:=by decide
 rw[BitVec.toNat_and,ofInt_u64 x (by omega),z,BitVec.toNat_ofNat,show(127%2^64:Nat)=2^7-1 from rfl,dV];rw[fR _ (by omega)]
theorem P6 (x:Nat)(hx:x<18446744073709551616):∃z h U G J V:Nat,
  IntKind.u64.wrap (bits .and .u64 ((x:Int)/2) 6148914691236517205+bits .and .u64 (x:Int) 6148914691236517205)=(z:Int)/\
  IntKind.u64.wrap (bits .and .u64 ((z:Int)/4) 3689348814741910323+bits .and .u64 (z:Int) 3689348814741910323)=(h:Int)/\
  bits .and .u64 (IntKind.u64.wrap ((h:Int)/16+(h:Int))) 1085102592571150095=(U:Int)/\
  IntKind.u64.wrap ((U:Int)+(U:Int)/256)=(G:Int)/\
  IntKind.u64.wrap ((G:Int)+(G:Int)/65536)=(J:Int)/\
  IntKind.u64.wrap ((J:Int)+(J:Int)/4294967296)=(V:Int)/\
  IntKind.i64.wrap (V:Int)=(V:Int)/\bits .and .i64 (V:Int) 127=((ones 64 x:Nat):Int):=by
 obtain⟨z,h,U,G,J,V,s1,s2,s3,s4,s5,s6,b1,b2,W,b3,b4,b5,b6,hm⟩:=MF x hx;unfold st1 at s1;unfold st2 at s2;unfold st3 at s3;rw[adm] at s1;rw[adn] at s2;rw[ado] at s3;refine⟨z,h,U,G,J,V,?_,?_,?_,?_,?_,?_,?_,?_⟩
 ·rw[show(bits .and .u64 ((x:Int)/2) 6148914691236517205)=_ from MN x 2 6148914691236517205 hx (by decide),show(bits .and .u64 (x:Int) 6148914691236517205)=_ from iu x 6148914691236517205 hx (by decide),<-Int.natCast_add,s1]
  exact JB _ b1
 ·rw[show(bits .and .u64 ((z:Int)/4) 3689348814741910323)=_ from MN z 4 3689348814741910323 b1 (by decide),show(bits .and .u64 (z:Int) 3689348814741910323)=_ from iu z 3689348814741910323 b1 (by decide),<-Int.natCast_add,s2]
  exact JB _ b2
 ·rw[show(h:Int)/16+(h:Int)=((h/16+h:Nat):Int) by omega,JB _ W,<-s3]
  exact iu (h/16+h) 1085102592571150095 W (by decide)
 ·rw[show(U:Int)+(U:Int)/256=((G:Nat):Int) by omega]
  exact JB _ (by omega)
 ·rw[show(G:Int)+(G:Int)/65536=((J:Nat):Int) by omega]
  exact JB _ (by omega)
 ·rw[show(J:Int)+(J:Int)/4294967296=((V:Nat):Int) by omega]
  exact JB _ (by omega)
 ·exact fR _ (by omega)
 ·rw[i64_and127 _ b6,hm]
theorem aaY (x:Nat)(h:x<18446744073709551616)(w:World):Calls prog 202 #[.int .u64 (x:Int)] w λe w'=>e=((ones 64 x:Nat):Int)/\w=w':=by
 obtain⟨U,x2,z,W,x5,x6,E1,E2,E3,E4,V,E6,J,G⟩:=P6 x h;generalize ones 64 x=r at *;clear h;go_in;go_wp2;go_ret;exact⟨rfl,rfl⟩
def lD (w:World):Prop:=∀j,j<64->w.cell? ⟨0,j,none⟩=some (.int .u8 ((Lib.deBruijn64tab.getD j 0:Nat):Int))
theorem adp (x a:Nat)(J:x<18446744073709551616)(z:x≠0)(G:x &&& (18446744073709551616-x)=a):
  IntKind.u64.wrap (bits .and .u64 (x:Int) (IntKind.u64.wrap (-(x:Int)))*285870213051353865)/288230376151711744=((a*285870213051353865%18446744073709551616/288230376151711744:Nat):Int):=by
 have h:IntKind.u64.wrap (-(x:Int))=((18446744073709551616-x:Nat):Int):=by rw[fY];omega
 rw[h,iu x _ J (by omega),G,fY];omega
theorem aaZ (x k h:Nat)(w:World)(J:((x:Int)==0)=false)
  (G:IntKind.u64.wrap (bits .and .u64 (x:Int) (IntKind.u64.wrap (-(x:Int)))*285870213051353865)/288230376151711744=(h:Int))
  (V:h<64) (U:k<64) (z:w.cell? ⟨0,h,none⟩=some (.int .u8 k)):
  Calls prog 204 #[.int .u64 (x:Int)] w λe w'=>e=(k:Int)/\w=w':=by
 go_in;go_wp2_with(simp only[G]);go_ret;exact⟨rfl,rfl⟩
theorem afb (x:Nat)(U:x<18446744073709551616)(J:x≠0)(w:World)(hT:lD w):Calls prog 204 #[.int .u64 (x:Int)] w λe w'=>e=((Lib.ctz 64 x:Nat):Int)/\w=w':=by
 obtain⟨W,G⟩:=Lib.lowest_bit 64 x J U;obtain⟨V,z⟩:=Lib.deBruijn64_at _ G;have h:=hT _ V;rw[z] at h;exact aaZ x _ _ w (by simp;omega) (adp x _ U J W) V G h
def Onto (w:World) (b z:Nat) (B:List Int) (ps:List (Int×Int)) (w':World):Prop:=
 ∃h,(h=z\/(w.heap.size<=h/\h<w'.heap.size))/\eK w' b h B ps/\ay [b,z] w w'
theorem Onto.refl(h:eK w b z B ps):Onto w b z B ps w:=⟨z,.inl rfl,h,ay.refl _ _⟩
theorem Onto.post(h:Onto w b z B ps w'):jU w b z B ps (.returned (.tuple #[])) w':=⟨rfl,h⟩
theorem Onto.trans{G W:World}(hg:z=J\/(w.heap.size<=z/\z<G.heap.size))(U:ay [b,J] w G)(h:Onto G b z B qs W):Onto w b J B qs W:=by
 obtain⟨lS,h1,h2,V⟩:=h;have z1:=U.size;have z2:=V.size;refine⟨lS,by omega,h2,U.trans V λx hx=> ?_⟩;simp only[aL,aK,bC] at hx ⊢;omega
theorem Onto.mono{J U:World}(G:ay [] w J)(Ew:z<w.heap.size)(h:Onto J b z B qs U):Onto w b z B qs U:=by
 obtain⟨V,h1,h2,W⟩:=h;have z1:=G.size;exact⟨V,by omega,h2,(G.mono (by simp)).trans W λx hx=> .inl hx⟩
theorem Xq (ps:List (Int×Int))(c k:Nat)(z:c<256)(h:k<8):Ai (ps++np c k) ((1080+c*8+k:Nat):Int) 0=ps++np c (k+1):=by
 unfold Ai;rw[aB (uh.2 ⟨by omega,by omega⟩),Bc,aV]
theorem P7 (h:eK w b z B ps)(U:ps.length<=999000)(c:Nat)(hc:c<256):
  Calls prog 177 #[b,(c:Int)] w (jU w b z B (ps++gW c)):=by
 obtain⟨HS,HN⟩:=hh2 h U;have W:∀w',Hid (Calls prog 149 #[(c:Int)] w' λe J=>e=((1080+c*8:Nat):Int)/\w'=J):=λw'=>by
  have :=ky (c:Int) w';rw[show iO (c:Int)=((1080+c*8:Nat):Int) by unfold iO;rw[aA];omega] at this;exact this
 clear h U;go_in;go_wp2_with fail;go_loopg [5] 8 (λgh s5 wx=>∃k:Nat,k+gh=8/\s5= .int .i64 (k:Int)/\Hid (Onto w b z B (ps++np c k) wx))
 case atStart=>exact⟨0,by omega,rfl,by show Onto _ _ _ _ _ _;rw[show np c 0=[] from rfl,br];exact Onto.refl HS.out⟩
 case round=>
  obtain⟨k,hk,rfl,G⟩:=hrel;cases gk with
  |zero=>
   obtain rfl:k=8:=by omega
   clear hk;go_wp2_with fail;go_end0;exact Onto.post G.out
  |succ gg=>
   have uR:k<8:=by omega
   have aa:(k:Int)<8:=by omega
   have cJ:(0:Int)<=(k:Int):=by omega
   have HP:Hid (∀x:Int,x=((1080+c*8+k:Nat):Int)->Calls prog 48 #[b,x,.int .u64 0] wr λe w'=>e= .returned (.tuple #[])/\Hid (Onto w b z B (ps++np c (k+1)) w')):=by
    intro x hx;subst hx;obtain⟨kX,h1,h2,h3⟩:=G.out;refine Rr (pA h2 (by rw[aC,DG];have :=HN.out;omega) _ 0) λw' V=> ?_;rw[Xq ps c k hc uR] at V;exact⟨rfl,Onto.trans h1 h3 V⟩
   have HB:=W wr;clear G W;go_wp2_with fail;refine C' HB.out ?_;go_wp2_with fail;refine Rr (HP.out _ (by omega)) λw' HQ=> ?_;go_wp2_with fail;go_roundg gg;case measure=>omega
   case rel=>exact⟨k+1,by omega,by go_num,HQ⟩
theorem JC (X:List Int)(n:Nat):(gY X n).length<=n:=by
 unfold gY;have :=fQ (λb=>b != 0 && !dF X b) (List.range n);simpa using this
theorem JD (h:eK w b gp B ps)(G:In64 (az B ps)):
  Calls prog 175 #[b] w λe w'=>e=(((aZ (az B ps)).length:Nat):Int)/\w=w':=by
 obtain⟨HS,W⟩:=hh2 h G;clear h G;go_in;go_wp2_with fail;go_loop [3,5] (λs3 s5=>∃k:Nat,k<=4/\s5= .int .i64 (k:Int)/\s3= .int .i64 (((gY (az B ps) (64*k)).length:Nat):Int)) (λ_ s5=>4-(intOf s5).toNat)
 case atStart=>exact⟨0,by omega,rfl,rfl⟩
 case round=>
  obtain⟨k,hk,rfl,rfl⟩:=hrel;by_cases J:k<4
  ·have U:(k:Int)<4:=by omega
   have cJ:(0:Int)<=(k:Int):=by omega
   have V:=ar (P5 W.out k);have aa:=JC (az B ps) (64*k);have z:=JC (az B ps) (64*(k+1));have e:=V.out;obtain⟨HI,HO⟩:=hh2 (DJ HS.out W.out k J) (aaY (Jz (az B ps) k) (Xm (az B ps) k) w);have ho:ones 64 (Jz (az B ps) k)<=256:=by omega
   rw[e] at z;clear e z;generalize ones 64 (Jz (az B ps) k)=o at *;generalize hf:Jz (az B ps) k=f at *;clear hf;generalize hq:(gY (az B ps) (64*k)).length=q at *;clear hq;go_wp2_with fail;refine C' HI.out ?_;go_wp2_with fail;refine C' HO.out ?_;go_wp2_with fail
   go_round
   case rel=>exact⟨k+1,by omega,by go_num,by rw[V.out];go_num⟩
   case measure=>simp[intOf];omega
  ·obtain rfl:k=4:=by omega
   go_wp2_with fail;go_ret;exact⟨rfl,rfl⟩
def dK (l:List Nat):List Value:=l.map λx:Nat=>Value.int .i64 (x:Int)
theorem fk (l:List Nat):(dK l).length=l.length:=by simp[dK]
theorem nB (h:j<l.length):(dK l)[j]? =some (.int .i64 ((l.getD j 0:Nat):Int)):=by simp[dK,h]
theorem uk (l m:List Nat):dK (l++m)=dK l++dK m:=by simp[dK]
theorem Tryz.info_int:(prog.info? 3).map (λi=>(i.zero,i.size,i.bytes))=some (some (.int .i64 0),1,8):=by kernel_rfl
theorem TU (n:Nat)(V:n<=100000)(w:World):(Instr.makeSlice 141 (.int .i64 0) (.int .i64 (n:Int))).run prog w=
  .ok (.slice w.heap.size 0 n) (w.alloc (.cells (madeCells #[(0:Int)] n) 3)):=by
 obtain⟨J,U,h,z,G⟩:=dc Tryz.info_int;have :=run_make (P:= prog) w 141 3 J _ underlying141 U h .i64 .i64 0 (n:Int) (by omega) (by omega) (by rw[G];omega) (by omega);rw[z,aG,iK] at this;exact this
theorem IH (X:List Int)(k m:Nat)(h:k<=m):∃r,gY X m=gY X k++r:=by
 obtain⟨d,rfl⟩:∃d,m=k+d:=⟨m-k,by omega⟩;exact⟨_,iY _ k d⟩
theorem TV (G:y<18446744073709551616)(h:zy y=[]):y=0:=by
 by_cases z:y=0
 ·exact z
 ·have :=(Jw y z G).2
  rw[h] at this;cases this
def uW (w:World) (l:List Nat) (e:Ending) (w':World):Prop:=
 ∃v g,e=(v:Value)/\Reads w' v g (dK l)/\w.heap.size<=g/\g<w'.heap.size/\ay [] w w'
def FO (w:World) (n:Nat) (l:List Nat) (v:Value) (h:World):Prop:=
 h.ownsRow w.heap.size 3 1 v l.length (dK l)/\ay [] w h/\l.length<=n/\v≠.slice none 0 0
theorem FO.made{z:World}(h:FO w n l v z):uW w l (.returned v) z:=by
 obtain⟨h1,h2,h3,h4⟩:=h;obtain⟨h5,h6⟩:=h1;rcases h6 with ⟨rfl,-⟩|⟨g,cap,J,rfl,hg,V,h7,W,h9,G⟩
 ·exact absurd rfl h4
 ·have U:g<z.heap.size:=(Array.getElem?_eq_some_iff.1 V).1
  exact⟨_,g,rfl,fp.reads ⟨h5,_,cap,rfl,h7,W,λ_=>⟨rfl,J,V,h9,G⟩⟩,hg,U,h2⟩
theorem lD.keep(h:lD w)(G:ay [] w w'):lD w':=λj J=>by
 have z:=h j J;rw[aO (w:=w) (G.block _ (Ab z) (by simp))];exact z
theorem Xr (y:Nat)(h:y<18446744073709551616)(z:y≠0):bits .and .u64 (y:Int) (IntKind.u64.wrap ((y:Int)-1))=((y &&& (y-1):Nat):Int)/\y &&& (y-1)<18446744073709551616:=by
 have e:IntKind.u64.wrap ((y:Int)-1)=((y-1:Nat):Int):=by rw[fY];omega
 rw[e];exact⟨iu y (y-1) h (by omega),jZ Nat.and_le_left h⟩
theorem FP (h:eK w b gp B ps)(ah:In64 (az B ps))(hT:lD w)(n:Nat)(hn:n<=100000):
  Calls prog 176 #[b,(n:Int)] w (uW w ((aZ (az B ps)).take n)):=by
 obtain⟨i0,hi,aB,aC,ak⟩:=dc Tryz.info_int;obtain⟨HS,uV,HT⟩:=hh3 h ah hT;clear h ah hT;have av:=TU n hn w;have aD:Hid (FO w n [] (.slice w.heap.size 0 n) (w.alloc (.cells (madeCells #[(0:Int)] n) 3))):=by
  refine⟨⟨rfl,.inr ⟨w.heap.size,n,madeCells #[(0:Int)] n,rfl,aH _,bh.new _ _ _,by simp,by unfold maxLen;omega,by simp[madeCells],by simp[dK]⟩⟩,(ay.refl _ _).alloc _,by simp,by simp⟩
 go_in;go_wp2_with fail;go_step3;go_wp2_with fail;go_step3;go_wp2_with fail;clear av;go_loopg [5,10] 4 (λgh s5 Xt wx=>∃k:Nat,k+gh=4/\Xt= .int .i64 (k:Int)/\Hid (FO w n (gY (az B ps) (64*k)) s5 wx))
 case atStart=>exact⟨0,by omega,rfl,aD.out⟩
 case round=>
  obtain⟨k,hk,rfl,J⟩:=hrel;cases gk with
  |zero=>
   obtain rfl:k=4:=by omega
   clear hk;have HM:Hid (uW w ((aZ (az B ps)).take n) (.returned u5) wr):=by
    show uW _ _ _ _;have e:aZ (az B ps)=gY (az B ps) (64*4):=rfl;rw[e,aW J.out.2.2.1];exact J.out.made
   go_wp2_with fail;rw[Exit.noGoto_ret];go_ret;exact HM.out
  |succ gg=>
   have aF:k<4:=by omega
   have ag:(k:Int)<4:=by omega
   have cJ:(0:Int)<=(k:Int):=by omega
   obtain⟨HF,HY⟩:=hh2 (DJ (HS.out.keep J.out.2.1 (by simp) (by simp)) uV.out k aF) (Xm (az B ps) k);go_wp2_with fail;refine C' HF.out ?_;clear HF;go_wp2_with fail;clear cJ ag;go_loopg [5,7] (zy (Jz (az B ps) k)).length (λgh s5 s7 wx=>∃(y:Nat) (G:List Nat),gh=(zy y).length/\s7= .int .u64 (y:Int)/\
    Hid (y<18446744073709551616/\zy (Jz (az B ps) k)=G++zy y/\FO w n (gY (az B ps) (64*k)++G.map (64*k+·)) s5 wx))
   case atStart=>exact⟨_,[],rfl,rfl,HY.out,rfl,by rw[List.map_nil,br];exact J.out⟩
   case round=>
    clear J HY;obtain⟨y,G,V,rfl,J⟩:=hrel;cases gk with
    |zero=>
     have hy:y=0:=TV J.out.1 (bo V.symm);subst hy;have TN:Hid (FO w n (gY (az B ps) (64*(k+1))) u5 wr):=by
      show FO _ _ _ _ _;obtain⟨-,h2,h3⟩:=J.out;rw[xR uV.out,h2,Jy,br];exact h3
     clear J V;have ag:(k:Int)<4:=by omega
     have cJ:(0:Int)<=(k:Int):=by omega
     go_wp2_with fail;go_roundg gg;case measure=>omega
     case rel=>exact⟨k+1,by omega,by go_num,TN⟩
    |succ g2=>
     have ac:y≠0:=by
      intro e;subst e;rw[Jy] at V;cases V
     obtain⟨hc,hb⟩:=Jw y ac J.out.1;have e0:((y:Int)==0)=false:=by simp;omega
     have e1:((y:Int) != 0)=true:=by simp;omega
     by_cases U:(gY (az B ps) (64*k)++G.map (64*k+·)).length=n
     ·have HM:Hid (uW w ((aZ (az B ps)).take n) (.returned u5) wr):=by
       show uW _ _ _ _;obtain⟨-,h2,h3⟩:=J.out;obtain⟨r,hr⟩:=IH (az B ps) (64*(k+1)) 256 (by omega);have e:aZ (az B ps)=gY (az B ps) 256:=rfl;rw[xR uV.out,h2,eu] at hr;rw[e,hr,<-aV (gY (az B ps) (64*k)),aV,List.take_left' U];exact h3.made
      obtain⟨a,cap,rfl,q1,q2⟩:=iX J.out.2.2.1;rw[U] at HM ⊢;clear J V hb hc ac;go_wp2_with fail;rw[Exit.noGoto_ret];go_ret;exact HM.out
     ·obtain⟨f1,f2,⟨f3,f4,f5,f6⟩⟩:=J.out
      have aA:=ar (afb y f1 ac wr (HT.out.keep f4));obtain⟨xQ,JE⟩:=Xr y f1 ac;have EX:=ar JE;have ai:(gY (az B ps) (64*k)++G.map (64*k+·)).length+1<=n:=by omega
      have xy:Hid (zy (Jz (az B ps) k)=(G++[Lib.ctz 64 y])++zy (y &&& (y-1))):=by
       show _=_;rw[f2,hb,aV];rfl
      have ax:Hid (g2=(zy (y &&& (y-1))).length):=by
       show _=_;rw[hb,cr] at V;omega
      have au:Hid (gY (az B ps) (64*k)++(G++[Lib.ctz 64 y]).map (64*k+·)=(gY (az B ps) (64*k)++G.map (64*k+·))++[64*k+Lib.ctz 64 y]):=by
       show _=_;rw[eu,aV];rfl
      obtain⟨a,cap,rfl,q1,q2⟩:=iX f3;obtain⟨af,jA⟩:=hh2 f3 f4;have aI:=f4.size;clear f1 f2 f3 f4 f5 f6 J V hb JE;generalize gY (az B ps) (64*k)++G.map (64*k+·)=L,y &&& (y-1)=z,Lib.ctz 64 y=c at *;have HI:Hid (dK (L++[64*k+c])=dK L++[.int .i64 ((k:Int)*64+(c:Int))]):=by
       show _=_;rw[uk];have :((64*k+c:Nat):Int)=(k:Int)*64+(c:Int):=by omega
       simp only[dK,List.map_cons,List.map_nil,this]
      have Ex:Hid ((L++[64*k+c]).length=L.length+1):=by show _=_;simp
      have ag:(k:Int)<4:=by omega
      have cJ:(0:Int)<=(k:Int):=by omega
      have aG:(0:Int)<=(c:Int):=by omega
      have aJ:(c:Int)<64:=by omega
      generalize L.length=q at *;have e2:(q==n)=false:=by simpa using U
      have e3:((q:Int)==(n:Int))=false:=by simp;omega
      go_wp2_with fail;refine C' aA.out ?_;go_wp2_with(at_builtin;refine eU _ rfl _ _ 141 rfl w.heap.size 3 i0 (.int .i64 0) 1 8 underlying141 hi aB aC ak rfl (by decide) (.slice a q cap) q _ rfl (af.out.alloc _) ⟨wr.heap.size,0,none⟩ 1 1 [.int .i64 ((k:Int)*64+(c:Int))] rfl rfl ?c1 ?c2 (by unfold maxLen;omega) (by omega) (by simp;omega) ?_);case c1=>exact lI _ [_] _ _ rfl
      case c2=>simp[Value.oneCell']
      intro v' w1 aa W ae;obtain⟨MO,jK⟩:=hh2 aa ((jA.out.alloc _).grown W (dP af.out));have aj:Hid (v'≠.slice none 0 0):=ae;clear aa W ae;go_wp2_with fail;go_roundg g2;case measure=>omega
      case rel=>
       refine⟨z,G++[c],ax.out,rfl,EX.out,xy.out,?_⟩;rw[au.out];refine⟨?_,jK.out,by rw[Ex.out];exact ai,aj.out⟩;rw[HI.out,Ex.out];exact MO.out
def l9 (w:World) (v:Value) (g:Nat) (own:List Nat):Prop:=w.ownsRow g 3 1 v own.length (dK own)/\∀k,v.ownBlock=some k->k=g
theorem l9.reads(h:l9 w v g own):Reads w v g (dK own):=by
 obtain⟨h1,h2⟩:=h;obtain⟨h0,h5⟩:=h1;rcases h5 with ⟨rfl,h6⟩|⟨U,cap,J,rfl,hg,V,z,W,h9,G⟩
 ·have z:dK own=[]:=bo (by rw[fk];exact h6)
  exact⟨none,0,by rw[z];rfl,by simp[z],by simp[maxLen],λh=>absurd z h⟩
 ·obtain rfl:=h2 U rfl
  have :=fp.reads (w:=w) (g:=U) ⟨h0,_,cap,rfl,z,W,λ_=>⟨rfl,J,V,h9,G⟩⟩;exact this
theorem l9.keep(h:l9 w v g own){l:List Nat}(G:ay l w w')(J:g∉l):l9 w' v g own:=
 ⟨eo h.1 G λk z=>by rw[h.2 k z];exact J,h.2⟩
theorem l9.nil(w:World)(g:Nat):l9 w (.slice none 0 0) g []:=⟨⟨rfl,.inl ⟨rfl,rfl⟩⟩,λk h=>by cases h⟩
theorem l9.of_row(h:w.ownsRow z 3 1 v own.length (dK own)):∃g,l9 w v g own/\z<=g:=by
 obtain⟨V,h5⟩:=h;rcases h5 with ⟨rfl,h6⟩|⟨W,cap,U,rfl,hg,hh,h7,h8,h9,J⟩
 ·exact⟨z,⟨⟨V,.inl ⟨rfl,h6⟩⟩,λk G=>by cases G⟩,aH _⟩
 ·exact⟨W,⟨⟨V,.inr ⟨W,cap,U,rfl,aH _,hh,h7,h8,h9,J⟩⟩,λk G=>by cases G;rfl⟩,hg⟩
theorem l9.away(h:l9 w v g own)(U:J<=g){l:List Nat}(G:ay l w w')(hl:∀x∈l,w.heap.size<=x):∃z,l9 w' v z own/\J<=z:=by
 have h1:=h.1;obtain⟨W,h5⟩:=h1;rcases h5 with ⟨rfl,h6⟩|⟨z,cap,aa,rfl,hg,hh,h7,h8,h9,ac⟩
 ·exact⟨J,⟨⟨W,.inl ⟨rfl,h6⟩⟩,λk G=>by cases G⟩,aH _⟩
 ·obtain rfl:=h.2 z rfl
  have V:z<w.heap.size:=(Array.getElem?_eq_some_iff.1 hh).1;exact⟨z,h.keep G (λhm=>by have :=hl _ hm;omega),U⟩
variable {P:Program} {n:Nat} {r:Option Nat} {ops:Array Oper} {Q:Exit->Act->World->Prop}
theorem FQ{a:Act}{z:Result Next}(h:o.upon P a next Q z):o.uponIn { Fence.wide with round:=r } n P a next Q z:=by
 unfold Oper.upon at h;split at h<;>unfold Oper.uponIn<;>simp only
 ·exact h
 ·exact h
 ·exact h
 ·exact⟨λh=>(by cases h),callsIn_wide.2 h⟩
 ·refine⟨λh=>(by cases h),λc cs _=> ?_⟩
  obtain⟨v,w',J,G⟩:=h c cs;exact⟨v,w',J,stepsIn_wide.2 G⟩
 ·exact h
 ·exact h.elim
theorem wq{a:Act}(z:∀c,o.op≠.defer c)(h:o.wp P a w next Q):o.wpIn { Fence.wide with round:=r } n P a w next Q:=by
 refine⟨λ_ _=>trivial,?_⟩;rw[Oper.semAt_eq _ _ _ z];exact FQ h
theorem TW{K G:Act->World->Prop}(U:¬LetsOut Q)(J:∀(i:Nat) (o:Oper),ops[i]? =some o->∀c,o.op≠.defer c)(z:∀a w,K a w->G a w){i:Nat}{a:Act}{w:World}(h:wpOp P ops Q i K a w):wpOpIn { Fence.wide with round:=r } n P ops Q i G a w:=by
 unfold wpOp at h;unfold wpOpIn;cases ho:ops[i]? with
 |none=>rw[ho] at h;exact z _ _ h
 |some o=>
  rw[ho] at h;simp only at h ⊢;split
  ·rename_i hw
   rw[aB hw] at h;rcases h with h|h
   ·exact Oper.wpIn_mono z (wq (J i o ho) h)
   ·exact absurd h.2 U
  ·rename_i hw
   rw[aA hw] at h;exact⟨λ_ _=>trivial,z _ _ h⟩
theorem P8{md:Region.Mode}(J:¬LetsOut Q)(G:∀(i:Nat) (o:Oper),ops[i]? =some o->∀c,o.op≠.defer c):∀(fuel:Nat) (z:Array Bool) {a:Act} {w:World},wpAny P md ops Q fuel z a w->wpAnyIn { Fence.wide with round:=r } n P md ops Q fuel z a w:=by
 intro fuel;induction fuel with
 |zero=>intro z a w h;exact h
 |succ fuel ih=>
  intro z a w h;exact⟨h.1,λi U=>TW J G (λa w h=>ih _ h) (h.2 i U)⟩
theorem xW{G:Nat}{a:Act}(J:P.follows .mixedOrders=true)(U:¬LetsOut Q)(z:∀(i:Nat) (o:Oper),ops[i]? =some o->∀c,o.op≠.defer c)
  (h:wpAny P .any ops Q ops.size (Array.replicate ops.size false) a { w with drawn:=w.drawn+1 }):(Code.region G ops true).wpIn { Fence.wide with round:=r } n P Q a w:=
 wpIn_region_any J (P8 U z _ _ h)
theorem KeepsFrom.of_keeps{B:Nat}(h:ay l w w')(J:∀k,k∈l->k<w.heap.size->k<B\/∃c T,bh w k c T):KeepsFrom B w w':=by
 refine⟨h.size,λk o hB G W=> ?_⟩;have z:=(Array.getElem?_eq_some_iff.1 G).1;refine(h.block k z λU=> ?_).trans G;rcases J k U z with h1|⟨c,T,V⟩
 ·omega
 ·rw[V] at G
  cases G;cases W
theorem bh.turn{c:Array Value}{T:Nat}(h:bh w b c T)(J:w.grownBy w' row)(G:∀r,row=some r->∃o:Obj,w.heap[r]? =some o/\o.isCells=false):bh w' b c T:=by
 refine(J.block b h.lt λe=> ?_).trans h;obtain⟨o,z,U⟩:=G b e.symm;rw[h] at z;cases z;cases U
theorem ay.turn{z:World}{B:Nat}(h:ay l w z)(U:z.grownBy w' row)(J:∀r,row=some r->B<=r)(W:w.heap.size<=B):ay l w w':=
 h.trans (l':=row.toList) (ay.of_grown U λk G=> .inl (by rw[G];simp)) λx V=> .inr (by have :=J x (by simpa using V);omega)
end
end Go.Proofs.YtepbpdipenedhaaGreatDoor
