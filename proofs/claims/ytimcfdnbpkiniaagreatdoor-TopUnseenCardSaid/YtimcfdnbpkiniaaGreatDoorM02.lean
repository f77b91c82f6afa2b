/- Lemmas. -/
import Derived.Lib.TrailingZeros
import Derived.Test.YtimcfdnbpkiniaaGreatDoorM01
import Derived.IntWalk
import Derived.WalkMore
import Derived.RangeFuncWrites
import Derived.RangeFuncLeaves
import Derived.RangeFuncCalls
import Derived.RangeFuncRecord
import Derived.OrdersIn
import Derived.TacticsIn
set_option maxHeartbeats 4000000
set_option maxRecDepth 100000
namespace Go.Proofs.YtimcfdnbpkiniaaGreatDoor
open Go.Proofs.Tryz
section
variable{J K T U a b c d e f g gp h j n x y z:Nat}{B X:List Int}{ps qs:List (Int×Int)}{l own:List Nat}{G w w':World}{v:Value}{o:Oper}{next:Act->World->Prop}{row:Option Nat}{E:List (ByteArray×Int)}{P:Program}
def ones (n x:Nat):Nat:=((List.range n).filter λj=>x.testBit j).length
def zo (x:Nat):List Nat:=(List.range 64).filter λj=>x.testBit j
theorem TN (x:Nat):ones 64 x=(zo x).length:=rfl
theorem o8 (b a j:Nat)(h:b<256):(b+256*a).testBit j=if j<8 then b.testBit j else a.testBit (j-8):=by
 have :=Nat.testBit_two_pow_mul_add a (b:=b) (i:=8) (by simpa using h) j;rw[Nat.add_comm];simpa using this
theorem xC (b m a M:Nat)(z:b<256)(G:m<256):(b+256*a) &&& (m+256*M)=(b &&& m)+256*(a &&& M):=by
 apply Nat.eq_of_testBit_eq;intro j;have h:b &&& m<256:=iR Nat.and_le_left z;rw[jU,o8 b a j z,o8 m M j G,o8 _ _ j h];split<;>simp
theorem iU (p:Nat->Bool)(m n:Nat):(List.range (m+n)).filter p=(List.range m).filter p++((List.range n).filter λj=>p (m+j)).map (m+·):=by
 rw[List.range_add,dZ,List.filter_map];rfl
theorem oF (n b a:Nat)(z:b<256):ones (8+n) (b+256*a)=ones 8 b+ones n a:=by
 unfold ones;rw[iU,aC,b7]
 congr 1
 ·congr 1
  apply iz;intro j h;rw[cu] at h;rw[o8 b a j z,aB h]
 ·congr 1
  apply iz;intro j _;rw[o8 b a _ z,aA,dS]
def rep (m:Nat):Nat->Nat
 |0=>0
 |n+1=>m+256*rep m n
def q1 (b:Nat):Nat:=(b/2 &&& 85)+(b &&& 85)
def q2 (b:Nat):Nat:=(b/4 &&& 51)+(b &&& 51)
def q3 (b:Nat):Nat:=(b/16+b)%16
def st1 (n x:Nat):Nat:=(x/2 &&& rep 85 n)+(x &&& rep 85 n)
def st2 (n x:Nat):Nat:=(x/4 &&& rep 51 n)+(x &&& rep 51 n)
def st3 (n x:Nat):Nat:=(x/16+x) &&& rep 15 n
theorem Xo:∀b:Fin 256,∀c:Fin 2,(b.val/2+128*c.val) &&& 85=b.val/2 &&& 85:=by decide+kernel
theorem Xp:∀b:Fin 256,∀c:Fin 4,(b.val/4+64*c.val) &&& 51=b.val/4 &&& 51:=by decide+kernel
theorem DA:∀b:Fin 256,q1 b.val<256/\q2 (q1 b.val)<256/\q2 (q1 b.val)/16<=4/\q2 (q1 b.val)%16<=4/\q3 (q2 (q1 b.val))=ones 8 b.val/\ones 8 b.val<=8:=by decide+kernel
theorem qI (n b a:Nat)(h:b<256):st1 (n+1) (b+256*a)=q1 b+256*st1 n a:=by
 unfold st1 q1;have e:(b+256*a)/2=(b/2+128*(a%2))+256*(a/2):=by omega
 have c:=Xo ⟨b,h⟩ ⟨a%2,by omega⟩;simp only at c;rw[e,rep,xC _ _ _ _ (by omega) (by omega),xC _ _ _ _ h (by omega),c];omega
theorem qJ (n b a:Nat)(h:b<256):st2 (n+1) (b+256*a)=q2 b+256*st2 n a:=by
 unfold st2 q2;have e:(b+256*a)/4=(b/4+64*(a%4))+256*(a/4):=by omega
 have c:=Xp ⟨b,h⟩ ⟨a%4,by omega⟩;simp only at c;rw[e,rep,xC _ _ _ _ (by omega) (by omega),xC _ _ _ _ h (by omega),c];omega
theorem afv (x:Nat):x &&& 15=x%16:=by
 have :=dW x 4;simpa using this
theorem qK (n b a:Nat)(h:b/16<=4)(z:b%16<=4)(G:a%16<=4):st3 (n+1) (b+256*a)=q3 b+256*st3 n a:=by
 unfold st3 q3;have e:(b+256*a)/16+(b+256*a)=(b/16+b+16*(a%16))+256*(a/16+a):=by omega
 rw[e,rep,xC _ _ _ _ (by omega) (by omega),afv];omega
theorem Xq:st1 0 0=0:=rfl
theorem Xr:st2 0 0=0:=rfl
theorem Xt:st3 0 0=0:=rfl
def KI (a b c d e f g h:Nat):Nat:=a+256*(b+256*(c+256*(d+256*(e+256*(f+256*(g+256*(h+256*0)))))))
theorem TP (x:Nat)(z:x<18446744073709551616):∃a b c d e f g h,(a<256/\b<256/\c<256/\d<256/\e<256/\f<256/\g<256/\h<256)/\x=KI a b c d e f g h:=by
 refine⟨x%256,x/256%256,x/65536%256,x/16777216%256,x/4294967296%256,x/1099511627776%256,x/281474976710656%256,x/72057594037927936,?_,?_⟩
 ·omega
 ·unfold KI;omega
theorem uf (h:a<256)(z:y<K):a+256*y<256*K:=by omega
theorem ug (h:a<=68)(z:y<=K):a+256*y<=68+256*K:=by omega
theorem adE (ha:a<256)(U:b<256)(G:c<256)(z:d<256)(V:e<256)(W:f<256)(hg:g<256)(J:h<256):KI a b c d e f g h<18446744073709551616:=
 bQ (uf ha (uf U (uf G (uf z (uf V (uf W (uf hg (uf J (Nat.zero_lt_one))))))))) (by decide)
theorem adF (ha:a<=68)(U:b<=68)(G:c<=68)(z:d<=68)(V:e<=68)(W:f<=68)(hg:g<=68)(J:h<=68):KI a b c d e f g h<=4919131752989213764:=
 cL (ug ha (ug U (ug G (ug z (ug V (ug W (ug hg (ug J (aI 0))))))))) (by decide)
theorem aa9 (a3 W V U J f3 G h:Nat)(A6:a3<=8)(B6:W<=8)(C6:V<=8)(D6:U<=8)(E6:J<=8)(F6:f3<=8)(G6:G<=8)(H6:h<=8):∃x4 x5 x6,KI a3 W V U J f3 G h+KI a3 W V U J f3 G h/256=x4/\x4+x4/65536=x5/\x5+x5/4294967296=x6/\
  x4<9223372036854775808/\x5<9223372036854775808/\x6<9223372036854775808/\x6%128=a3+(W+(V+(U+(J+(f3+(G+(h+0))))))):=by
 refine⟨_,_,_,rfl,rfl,rfl,?_⟩;unfold KI;have k3:(a3+256*(W+256*(V+256*(U+256*(J+256*(f3+256*(G+256*(h+256*0))))))))/256=W+256*(V+256*(U+256*(J+256*(f3+256*(G+256*h))))):=by omega
 rw[k3];clear k3;generalize hy:a3+256*(W+256*(V+256*(U+256*(J+256*(f3+256*(G+256*(h+256*0)))))))+(W+256*(V+256*(U+256*(J+256*(f3+256*(G+256*h))))))=y;have aa:y=(a3+W+256*(W+V))+65536*((V+U+256*(U+J))+65536*((J+f3+256*(f3+G))+65536*(G+h+256*h))):=by omega
 clear hy;have k4:y/65536=(V+U+256*(U+J))+65536*((J+f3+256*(f3+G))+65536*(G+h+256*h)):=by omega
 rw[k4];subst aa;clear k4;generalize hz:a3+W+256*(W+V)+65536*(V+U+256*(U+J)+65536*(J+f3+256*(f3+G)+65536*(G+h+256*h)))+(V+U+256*(U+J)+65536*(J+f3+256*(f3+G)+65536*(G+h+256*h)))=z;have ac:z=(a3+W+V+U+256*(W+V+U+J)+65536*(V+U+J+f3+256*(U+J+f3+G)))+4294967296*((J+f3+G+h)+256*(f3+G+h)+65536*(G+h+256*h)):=by omega
 clear hz;have k5:z/4294967296=(J+f3+G+h)+256*(f3+G+h)+65536*(G+h+256*h):=by omega
 rw[k5];refine⟨by omega,by omega,by omega,?_⟩;omega
theorem My (x:Nat)(hx:x<18446744073709551616):∃x1 x2 x3 V W x6,st1 8 x=x1/\st2 8 x1=x2/\st3 8 x2=x3/\x3+x3/256=V/\V+V/65536=W/\W+W/4294967296=x6/\
  x1<18446744073709551616/\x2<18446744073709551616/\x2/16+x2<18446744073709551616/\x3<18446744073709551616/\V<9223372036854775808/\W<9223372036854775808/\x6<9223372036854775808/\x6%128=ones 64 x:=by
 obtain⟨a,b,c,d,e,f,g,h,⟨ha,hb,hc,hd,he,hf,hg,hh⟩,rfl⟩:=TP x hx;have A:=DA ⟨a,ha⟩;have B:=DA ⟨b,hb⟩;have C:=DA ⟨c,hc⟩;have D:=DA ⟨d,hd⟩;have E:=DA ⟨e,he⟩;have F:=DA ⟨f,hf⟩;have G:=DA ⟨g,hg⟩;have H:=DA ⟨h,hh⟩;simp only at A B C D E F G H;have U:st1 8 (KI a b c d e f g h)=KI (q1 a) (q1 b) (q1 c) (q1 d) (q1 e) (q1 f) (q1 g) (q1 h):=by
  unfold KI;rw[qI _ _ _ ha,qI _ _ _ hb,qI _ _ _ hc,qI _ _ _ hd,qI _ _ _ he,qI _ _ _ hf,qI _ _ _ hg,qI _ _ _ hh,Xq]
 have J:st2 8 (KI (q1 a) (q1 b) (q1 c) (q1 d) (q1 e) (q1 f) (q1 g) (q1 h))=KI (q2 (q1 a)) (q2 (q1 b)) (q2 (q1 c)) (q2 (q1 d)) (q2 (q1 e)) (q2 (q1 f)) (q2 (q1 g)) (q2 (q1 h)):=by
  unfold KI;rw[qJ _ _ _ A.1,qJ _ _ _ B.1,qJ _ _ _ C.1,qJ _ _ _ D.1,qJ _ _ _ E.1,qJ _ _ _ F.1,qJ _ _ _ G.1,qJ _ _ _ H.1,Xr]
 have z:st3 8 (KI (q2 (q1 a)) (q2 (q1 b)) (q2 (q1 c)) (q2 (q1 d)) (q2 (q1 e)) (q2 (q1 f)) (q2 (q1 g)) (q2 (q1 h)))=KI (ones 8 a) (ones 8 b) (ones 8 c) (ones 8 d) (ones 8 e) (ones 8 f) (ones 8 g) (ones 8 h):=by
  unfold KI;rw[qK _ _ _ A.2.2.1 A.2.2.2.1 (by omega),qK _ _ _ B.2.2.1 B.2.2.2.1 (by omega),qK _ _ _ C.2.2.1 C.2.2.2.1 (by omega),qK _ _ _ D.2.2.1 D.2.2.2.1 (by omega),
   qK _ _ _ E.2.2.1 E.2.2.2.1 (by omega),qK _ _ _ F.2.2.1 F.2.2.2.1 (by omega),qK _ _ _ G.2.2.1 G.2.2.2.1 (by omega),qK _ _ _ H.2.2.1 H.2.2.2.1 (by omega),Xt,
   A.2.2.2.2.1,B.2.2.2.2.1,C.2.2.2.2.1,D.2.2.2.2.1,E.2.2.2.2.1,F.2.2.2.2.1,G.2.2.2.2.1,H.2.2.2.2.1]
 have ho:ones 64 (KI a b c d e f g h)=ones 8 a+(ones 8 b+(ones 8 c+(ones 8 d+(ones 8 e+(ones 8 f+(ones 8 g+(ones 8 h+0))))))):=by
  unfold KI;rw[show(64:Nat)=8+(8+(8+(8+(8+(8+(8+(8+0))))))) from rfl,oF _ _ _ ha,oF _ _ _ hb,oF _ _ _ hc,oF _ _ _ hd,oF _ _ _ he,oF _ _ _ hf,oF _ _ _ hg,oF _ _ _ hh];rfl
 obtain⟨V,W,x6,p4,p5,p6,b4,b5,b6,hm⟩:=aa9 _ _ _ _ _ _ _ _ A.2.2.2.2.2 B.2.2.2.2.2 C.2.2.2.2.2 D.2.2.2.2.2 E.2.2.2.2.2 F.2.2.2.2.2 G.2.2.2.2.2 H.2.2.2.2.2;have l2:KI (q2 (q1 a)) (q2 (q1 b)) (q2 (q1 c)) (q2 (q1 d)) (q2 (q1 e)) (q2 (q1 f)) (q2 (q1 g)) (q2 (q1 h))<=4919131752989213764:=by
  apply adF
  ·have :=A.2.2.1;have :=A.2.2.2.1;omega
  ·have :=B.2.2.1;have :=B.2.2.2.1;omega
  ·have :=C.2.2.1;have :=C.2.2.2.1;omega
  ·have :=D.2.2.1;have :=D.2.2.2.1;omega
  ·have :=E.2.2.1;have :=E.2.2.2.1;omega
  ·have :=F.2.2.1;have :=F.2.2.2.1;omega
  ·have :=G.2.2.1;have :=G.2.2.2.1;omega
  ·have :=H.2.2.1;have :=H.2.2.2.1;omega
 refine⟨_,_,_,V,W,x6,U,J,z,p4,p5,p6,adE A.1 B.1 C.1 D.1 E.1 F.1 G.1 H.1,?_,?_,?_,b4,b5,b6,?_⟩
 ·clear A B C D E F G H U J z ho p4 p5 p6 hm;omega
 ·clear A B C D E F G H U J z ho p4 p5 p6 hm;omega
 ·clear A B C D E F G H U J z ho p5 p6 hm;omega
 ·rw[ho];exact hm
theorem Ck (p q:Nat->Bool)(n c:Nat)(hc:c<n)(J:∀j,j<c->p j=false/\q j=false)(V:p c=true)(hq:q c=false)(z:∀j,c<j->p j=q j):
  (List.range n).filter p=c::(List.range n).filter q:=by
 obtain⟨d,rfl⟩:∃d,n=c+(1+d):=⟨n-c-1,by omega⟩;have U:∀r:Nat->Bool,(∀j,j<c->r j=false)->(List.range c).filter r=[]:=by
  intro r W;rw[List.filter_eq_nil_iff];intro j G;rw[cu] at G;simp[W j G]
 rw[iU p,iU q,U p λj h=>(J j h).1,U q λj h=>(J j h).2,iU _ 1 d,iU _ 1 d];have s1:(List.range 1).filter (λj=>p (c+j))=[0]:=by simp[dQ,V]
 have s2:(List.range 1).filter (λj=>q (c+j))=[]:=by simp[dQ,hq]
 have s3:(List.range d).filter (λj=>p (c+(1+j)))=(List.range d).filter (λj=>q (c+(1+j))):=iz λj _=>z _ (by omega)
 rw[s1,s2,s3];simp
theorem wZ (k m j:Nat):(2^k*m).testBit j=(decide (k<=j)&&m.testBit (j-k)):=by
 rw[Nat.mul_comm,Nat.testBit_mul_two_pow]
theorem Jo (x:Nat)(h0:x≠0)(hx:x<18446744073709551616):Lib.ctz 64 x<64/\zo x=Lib.ctz 64 x::zo (x &&& (x-1)):=by
 have V:x<2^64:=hx;obtain⟨m,W,hk⟩:=Lib.ctzFrom_spec 64 x (by omega) V;have e:Lib.ctz 64 x=Lib.ctzFrom 64 x:=by simp[Lib.ctz,h0]
 rw[e];refine⟨hk,?_⟩;generalize Lib.ctzFrom 64 x=k at *;clear e;have hp:0<2^k:=Nat.two_pow_pos k;have e1:x-1=2^k*(2*m)+(2^k-1):=by
  rw[W,Nat.mul_add,iE];omega
 have t0:∀j,(2^k*(2*m)).testBit j=(decide (k<j)&&m.testBit (j-k-1)):=by
  intro j;rw[wZ];by_cases h:k<j
  ·obtain⟨d,rfl⟩:∃d,j=k+(d+1):=⟨j-k-1,by omega⟩
   have J:k+(d+1)-k=d+1:=by omega
   rw[J,Nat.testBit_succ,show 2*m/2=m by omega];simp
  ·have :k<=j->(2*m).testBit (j-k)=false:=by
    intro aa;rw[show j-k=0 by omega,Nat.testBit_zero];simp
   by_cases z:k<=j
   ·simp[this z,h]
   ·simp[z,h]
 have U:∀j,x.testBit j=(decide (j=k)||(decide (k<j)&&m.testBit (j-k-1))):=by
  intro j;rw[W,wZ];by_cases h:k<j
  ·obtain⟨d,rfl⟩:∃d,j=k+(d+1):=⟨j-k-1,by omega⟩
   have J:k+(d+1)-k=d+1:=by omega
   rw[J,Nat.testBit_succ,show(2*m+1)/2=m by omega];simp
  ·by_cases z:k=j
   ·subst z;simp[Nat.testBit_zero]
   ·have G:¬k<=j:=by omega
    have h4:¬j=k:=by omega
    simp[h,G,h4]
 have ty:∀j,(x &&& (x-1)).testBit j=(decide (k<j)&&m.testBit (j-k-1)):=by
  intro j;rw[jU,U,e1,Nat.testBit_two_pow_mul_add _ (by omega)];by_cases h:j<k
  ·have z:¬j=k:=by omega
   have G:¬k<j:=by omega
   simp[z,G]
  ·rw[aA h]
   by_cases z:k<j
   ·obtain⟨d,rfl⟩:∃d,j=k+(d+1):=⟨j-k-1,by omega⟩
    have J:k+(d+1)-k=d+1:=by omega
    rw[J,Nat.testBit_succ,show 2*m/2=m by omega];simp
   ·obtain rfl:j=k:=by omega
    simp[Nat.testBit_zero]
 unfold zo;refine Ck _ _ 64 k hk ?_ ?_ ?_ ?_
 ·intro j hj
  rw[U,ty];have z:¬j=k:=by omega
  have G:¬k<j:=by omega
  simp[z,G]
 ·rw[U];simp
 ·rw[ty];simp
 ·intro j hj
  rw[U,ty];have z:¬j=k:=by omega
  simp[z]
theorem Jp:zo 0=[]:=by simp[zo]
def In64 (X:List Int):Prop:=∀i,0<=X.getD i 0/\X.getD i 0<18446744073709551616
theorem In64.set(h:In64 X)(i:Nat)(x:Int)(G:0<=x)(z:x<18446744073709551616):In64 (X.set i x):=by
 intro j;rw[aj,gT];split
 ·split
  ·exact⟨G,z⟩
  ·exact⟨by simp,by simp⟩
 ·rw[<-aj];exact h j
theorem In64.put:∀{X:List Int},In64 X->(∀p∈ps,0<=p.2/\p.2<18446744073709551616)->In64 (az X ps):=by
 induction ps with
 |nil=>intro X h _;exact h
 |cons p ps ih=>
  intro X h z;show In64 (az (X.set p.1.toNat p.2) ps);have :=z p (by simp);exact ih (h.set _ _ this.1 this.2) λq G=>z q (by simp[G])
def bw (X:List Int) (k:Nat):Nat:=(X.getD (816+k) 0).toNat
theorem DC (h:In64 X)(k:Nat):bw X k<18446744073709551616:=by have :=h (816+k);unfold bw;omega
theorem aba (h:In64 X)(k:Nat):((bw X k:Nat):Int)=X.getD (816+k) 0:=by have :=h (816+k);unfold bw;omega
def dn (X:List Int) (b:Nat):Bool:=(bw X (b/64)).testBit (b%64)
def Jq (X:List Int) (k:Nat):Nat:=if k=0 then (18446744073709551615-bw X 0) &&& (18446744073709551615-1) else 18446744073709551615-bw X k
theorem qL (x j:Nat)(h:x<18446744073709551616):(18446744073709551615-x).testBit j=(decide (j<64) && !x.testBit j):=by
 have :=Nat.testBit_two_pow_sub_succ (x:=x) (n:=64) h j;rw[<-this]
 congr 1
 show _=18446744073709551616-(x+1);omega
theorem Xu (X:List Int)(k:Nat):Jq X k<18446744073709551616:=by
 unfold Jq;split
 ·have :(18446744073709551615-bw X 0) &&& (18446744073709551615-1)<=18446744073709551615-bw X 0:=Nat.and_le_left
  omega
 ·omega
theorem Mz (h:In64 X)(k j:Nat):(Jq X k).testBit j=(decide (j<64) && !(bw X k).testBit j && !(decide (k=0)&&decide (j=0))):=by
 unfold Jq;split
 ·rename_i hk
  subst hk;rw[jU,qL _ _ (DC h 0),qL _ _ (by omega),show(1:Nat)=2^0 from rfl,Nat.testBit_two_pow];by_cases z:j<64<;>by_cases G:j=0<;>simp[z,G]<;>(intro;omega)
 ·rename_i hk
  rw[qL _ _ (DC h k)];simp[hk]
def eX (X:List Int) (n:Nat):List Nat:=(List.range n).filter λb=>b != 0 && !dn X b
def aY (X:List Int):List Nat:=eX X 256
theorem xE (h:In64 X)(k:Nat):eX X (64*(k+1))=eX X (64*k)++(zo (Jq X k)).map (64*k+·):=by
 unfold eX zo;rw[show 64*(k+1)=64*k+64 by omega,iU]
 congr 2
 apply iz;intro j J;rw[cu] at J;rw[Mz h,dn,show(64*k+j)/64=k by omega,show(64*k+j)%64=j by omega];by_cases z:k=0<;>by_cases G:j=0
 ·subst z;subst G;simp
 ·simp[z,G,J]
 ·have U:¬(64*k=0):=by omega
  simp[z,G,U]
 ·have :¬(64*k+j=0):=by omega
  simp[z,G,J]
theorem j5:b∈eX X n↔b<n/\b≠0/\dn X b=false:=by
 unfold eX;rw[List.mem_filter,cu];simp
theorem rO (X:List Int)(n:Nat):(eX X n).Nodup:=List.Pairwise.filter _ List.nodup_range
theorem Cl (X:List Int):(aY X).length<=255:=by
 unfold aY eX;rw[show(256:Nat)=1+255 from rfl,iU,aC];have h:((List.range 1).filter λb=>b != 0 && !dn X b).length=0:=by simp[dQ]
 have z:=fe (λj=>(1+j) != 0 && !dn X (1+j)) (List.range 255);rw[b7,h];simp only[fK] at z;omega
theorem PY (h:In64 X)(k:Nat):(eX X (64*(k+1))).length=(eX X (64*k)).length+ones 64 (Jq X k):=by
 rw[xE h,aC,b7,TN]
def setW (x j:Nat) (u:Bool):Nat:=if u=true then (x &&& (18446744073709551615-2^j)) ||| 2^j else x &&& (18446744073709551615-2^j)
theorem FA (h:j<64):2^j<18446744073709551616:=bQ (Nat.pow_lt_pow_right (by decide) h) (by decide)
theorem abb (G:x<18446744073709551616)(z:j<64)(u:Bool):setW x j u<18446744073709551616:=by
 have h:x &&& (18446744073709551615-2^j)<2^64:=iR Nat.and_le_left G;unfold setW;split
 ·exact Nat.or_lt_two_pow h (FA z)
 ·exact h
theorem KJ (U:x<18446744073709551616)(V:j<64)(u:Bool)(i:Nat):(setW x j u).testBit i=if i=j then u else x.testBit i:=by
 have G:¬i<64->x.testBit i=false:=by
  intro h;apply Nat.testBit_lt_two_pow;exact bQ U (jc (n:=2) (i:=64) (by decide) (by omega))
 have J:(x &&& (18446744073709551615-2^j)).testBit i=(x.testBit i && !decide (i=j)):=by
  rw[jU,qL _ _ (FA V),Nat.testBit_two_pow];by_cases h:i<64
  ·by_cases z:i=j
   ·simp[z]
   ·have :¬j=i:=λe=>z e.symm
    simp[h,z,this]
  ·simp[G h]
 unfold setW;split
 ·rename_i hu
  rw[Nat.testBit_or,J,Nat.testBit_two_pow,hu];by_cases z:i=j
  ·simp[z]
  ·have :¬j=i:=λe=>z e.symm
   simp[z,this]
 ·rename_i hu
  rw[J];have :u=false:=by simpa using hu
  subst this;by_cases z:i=j<;>simp[z]
def eK (X:List Int) (b:Nat) (u:Bool):List (Int×Int):=if b=0\/256<=b then [] else [((816+b/64:Nat),(setW (bw X (b/64)) (b%64) u:Nat))]
theorem MA (h:In64 X)(b:Nat)(u:Bool):∀p∈eK X b u,0<=p.2/\p.2<18446744073709551616:=by
 intro p z;unfold eK at z;split at z
 ·simp at z
 ·rw[au] at z
  subst z;have :=abb (DC h (b/64)) (ij b (by decide:0<64)) u;exact⟨by simp,by show((_:Nat):Int)<_;omega⟩
theorem jg (l:List Int)(i j:Nat)(x:Int)(h:i<l.length):(l.set i x).getD j 0=if i=j then x else l.getD j 0:=by
 rw[aj,gT];by_cases e:i=j
 ·subst e;simp[h]
 ·rw[aA e,aA e,aj]
theorem Cm (h:In64 X)(U:X.length=3128)(b:Nat)(V:b≠0)(J:b<256)(u:Bool)(c:Nat):dn (az X (eK X b u)) c=if c=b then u else dn X c:=by
 unfold eK;rw[aA,oh,aF];unfold dn bw;rw[jg _ _ _ _ (by omega)];by_cases e:816+b/64=816+c/64
 ·rw[aB e,aF,show(X.getD (816+b/64) 0).toNat=bw X (b/64) from rfl,KJ (DC h (b/64)) (ij b (by decide:0<64))]
  have G:c/64=b/64:=by omega
  rw[G];by_cases z:c=b
  ·rw[aB z,aB (by rw[z])]
  ·rw[aA z,aA];rfl
 ·rw[aA e,aA (by intro G;subst G;exact e rfl)]
def mX (b k:Nat):List (Int×Int):=(List.range k).map λ(j:Nat)=>(((1080+b*8+j:Nat):Int),(0:Int))
def gX (b:Nat):List (Int×Int):=mX b 8
theorem A1 (b k:Nat):mX b (k+1)=mX b k++[(((1080+b*8+k:Nat):Int),(0:Int))]:=by
 unfold mX;rw[dQ,ez];rfl
theorem DD (b k:Nat):(mX b k).length=k:=by simp[mX]
theorem xG{p:Int×Int}(h:p∈gX b):∃j,j<8/\p=(((1080+b*8+j:Nat):Int),(0:Int)):=by
 unfold gX mX at h;rw[bH] at h;obtain⟨j,z,rfl⟩:=h;exact⟨j,cu.1 z,rfl⟩
theorem MB (h:∀p∈ps,1080<=p.1)(c:Nat)(G:c<256):dn (az X ps) c=dn X c:=by
 unfold dn bw;rw[dX _ _ _ λp z=>by have :=h p z;omega]
def dt (X:List Int):List Nat->List (Int×Int)
 | []=>[]
 |b::l=>(eK X b true++gX b)++dt (az X (eK X b true++gX b)) l
theorem Xv (h:In64 X)(b:Nat):∀p∈eK X b true++gX b,0<=p.2/\p.2<18446744073709551616:=by
 intro p z;rw[aR] at z;rcases z with z|z
 ·exact MA h b true p z
 ·obtain⟨j,-,rfl⟩:=xG z
  exact⟨Int.le_refl 0,by show(0:Int)<_;omega⟩
theorem MD (h:In64 X)(V:X.length=3128)(b:Nat)(U:b≠0)(J:b<256)(c:Nat)(G:c<256):dn (az X (eK X b true++gX b)) c=(dn X c||decide (c=b)):=by
 rw[br,MB (λp z=>by obtain⟨j,-,rfl⟩:=xG z;show(1080:Int)<=((_:Nat):Int);omega) c G,Cm h V b U J];by_cases e:c=b<;>simp[e]
theorem Jr (X:List Int)(b:Nat)(z:b≠0)(h:b<256)(u:Bool):(eK X b u).length=1:=by
 unfold eK;rw[aA];rfl
theorem qb (l:List Nat):∀X:List Int,(∀b∈l,b≠0/\b<256)->(dt X l).length=9*l.length:=by
 induction l with
 |nil=>intro X _;rfl
 |cons b l ih=>
  intro X h;obtain⟨J,z⟩:=h b (by simp);show((eK X b true++gX b)++dt _ l).length=_;rw[aC,aC,Jr X b J z,gX,DD,ih _ λc G=>h c (by simp[G])];simp only[cA];omega
theorem ME (l:List Nat)(b:Nat):∀X:List Int,dt X (l++[b])=dt X l++(eK (az X (dt X l)) b true++gX b):=by
 induction l with
 |nil=>intro X;show(eK X b true++gX b)++[]=[]++_;rw[bz];rfl
 |cons c l ih=>
  intro X;have e:az X (dt X (c::l))=az (az X (eK X c true++gX c)) (dt (az X (eK X c true++gX c)) l):=br _ _ _;rw[e];show(eK X c true++gX c)++dt (az X (eK X c true++gX c)) (l++[b])=((eK X c true++gX c)++dt (az X (eK X c true++gX c)) l)++_;rw[ih,aV (eK X c true++gX c)]
theorem nH (l:List Nat):∀X:List Int,In64 X->X.length=3128->(∀b∈l,b≠0/\b<256)->
  In64 (az X (dt X l))/\(az X (dt X l)).length=3128/\∀c,c<256->dn (az X (dt X l)) c=(dn X c||decide (c∈l)):=by
 induction l with
 |nil=>intro X h G _;exact⟨h,G,λc _=>by simp[dt,az]⟩
 |cons b l ih=>
  intro X h G J;obtain⟨h0,U⟩:=J b (by simp);have hX:In64 (az X (eK X b true++gX b)):=h.put (Xv h b);obtain⟨W,k2,V⟩:=ih (az X (eK X b true++gX b)) hX (by rw[cy];exact G) λc z=>J c (by simp[z])
  have e:az X (dt X (b::l))=az (az X (eK X b true++gX b)) (dt (az X (eK X b true++gX b)) l):=br _ _ _;rw[e];refine⟨W,k2,λc z=> ?_⟩;rw[V c z,MD h G b h0 U c z];by_cases e1:c=b<;>by_cases e2:c∈l<;>simp[e1,e2]
theorem Cn (G:l.Nodup)(n:Nat):l.filter (λc=> !decide (c∈l.take n))=l.drop n:=by
 have J:l.filter (λc=> !decide (c∈l.take n))=(l.take n++l.drop n).filter (λc=> !decide (c∈l.take n)):=by rw[dx]
 rw[J,dZ];have U:∀c,c∈l.take n->c∈l.drop n->False:=by
  rw[<-dx n l] at G;intro c h2 V;exact(List.nodup_append.1 G).2.2 c h2 c V rfl
 have W:(l.take n).filter (λc=> !decide (c∈l.take n))=[]:=by
  rw[List.filter_eq_nil_iff];intro c z;simp[z]
 have e2:(l.drop n).filter (λc=> !decide (c∈l.take n))=l.drop n:=by
  rw[List.filter_eq_self];intro c z;have :c∉l.take n:=λh=>U c h z
  simp[this]
 rw[W,e2,bN]
theorem FB (h:In64 X)(hl:X.length=3128)(n:Nat):In64 (az X (dt X ((aY X).take n)))/\(az X (dt X ((aY X).take n))).length=3128/\aY (az X (dt X ((aY X).take n)))=(aY X).drop n:=by
 have U:∀b∈(aY X).take n,b≠0/\b<256:=λb hb=>by
  have :=j5.1 (bL hb);exact⟨this.2.1,this.1⟩
 obtain⟨V,W,G⟩:=nH ((aY X).take n) X h hl U;refine⟨V,W,?_⟩;have hd:=Cn (rO X 256) n;have e:∀Y,eX Y 256=(List.range 256).filter (λb=>b != 0 && !dn Y b):=λ_=>rfl
 have z:∀c,c<256->dn (az X (dt X (List.take n (eX X 256)))) c=(dn X c||decide (c∈List.take n (eX X 256))):=G;clear G V W U;show eX (az X (dt X (List.take n (eX X 256)))) 256=List.drop n (eX X 256);generalize List.take n (eX X 256)=L at *;rw[<-hd,e X,e,List.filter_filter];apply iz;intro c J;rw[cu] at J;rw[z c J];by_cases e1:c∈L<;>simp[e1]
end
section
open Go.RowKit
variable{J K T U a b c d e f g gp h j n x y z:Nat}{B X:List Int}{ps qs:List (Int×Int)}{l own:List Nat}{G w w':World}{v:Value}{o:Oper}{next:Act->World->Prop}{row:Option Nat}{E:List (ByteArray×Int)}{P:Program}
def iG (b:Int):Int:=if b<0\/256<=b then -1 else 1080+b*8
theorem j6 (b:Int)(w:World):Calls prog 155 #[b] w λe w'=>e=(iG b:Int)/\w=w':=by
 rcases (show b<0\/256<=b\/(0<=b/\b<256) by omega) with h|h|⟨z,G⟩
 ·rw[iG,aB (.inl h)]
  go_in;go_wp2;go_ret;exact⟨rfl,rfl⟩
 ·rw[iG,aB (.inr h)]
  have J:¬b<0:=by omega
  go_in;go_wp2;go_ret;exact⟨rfl,rfl⟩
 ·rw[iG,aA]
  go_in;go_wp2;go_ret;exact⟨rfl,rfl⟩
theorem MF{k:IntKind}{a b:Int}(h:a=b):Ending.returned (.int k a)= .returned (.int k b):=by rw[h]
def Iq (b:Int):Bool:=decide (0<=b)&&decide (b<256)
theorem xH{b:Int}:Iq b=true↔0<=b/\b<256:=by simp[Iq]
theorem A5 (i:Int)(w:World):Calls prog 170 #[i] w λe w'=>e=(Iq i:Bool)/\w=w':=by
 by_cases z:0<=i
 ·by_cases h:i<256
  ·rw[xH.2 ⟨z,h⟩]
   go_in;go_wp2;go_ret;exact⟨rfl,rfl⟩
  ·rw[show Iq i=false by simp[Iq];omega]
   go_in;go_wp2;go_ret;exact⟨rfl,rfl⟩
 ·rw[show Iq i=false by simp[Iq];omega]
  go_in;go_wp2;go_ret;exact⟨rfl,rfl⟩
theorem DF (b:Nat)(z:b<256)(w:World):Calls prog 171 #[(b:Int)] w λe w'=>e=((816+b/64:Nat):Int)/\w=w':=by
 have G:(0:Int)<=(b:Int):=by omega
 have h:(b:Int)<256:=by omega
 go_in;go_wp2;go_ret;exact⟨MF (by omega),rfl⟩
def o9 (b:Nat):Nat:=2^(b%64)
theorem KL (b:Nat):o9 b<18446744073709551616:=FA (ij _ (by decide))
theorem Xw (b:Nat):IntKind.u64.wrap (2^(b%64))=((o9 b:Nat):Int):=by
 have h:=KL b;have e:((2:Int)^(b%64))=((2^(b%64):Nat):Int):=by simp
 rw[fW,e];unfold o9 at *;generalize 2^(b%64)=x at *;omega
theorem xI (b:Nat)(z:b<256)(w:World):Calls prog 172 #[(b:Int)] w λe w'=>e= .returned (.int .u64 ((o9 b:Nat):Int))/\w=w':=by
 have G:(0:Int)<=(b:Int):=by omega
 have h:(b:Int)<256:=by omega
 have H:=ar (Xw b);go_in;go_wp2;go_ret;exact⟨MF H.out,rfl⟩
theorem abc (x j:Nat):x &&& 2^j=if x.testBit j=true then 2^j else 0:=by
 apply Nat.eq_of_testBit_eq;intro i;rw[jU,Nat.testBit_two_pow];by_cases e:j=i
 ·subst e
  cases h:x.testBit j<;>simp
 ·cases h:x.testBit j<;>simp[e]
theorem Xx (x b:Nat):(x &&& o9 b≠0)↔x.testBit (b%64)=true:=by
 unfold o9;rw[abc];have :=Nat.two_pow_pos (b%64);cases x.testBit (b%64)<;>simp<;>omega
theorem yK (h:In64 (az B ps))(k:Nat)(z:k<2000):AV B ps ((816+k:Nat):Int)=((bw (az B ps) k:Nat):Int):=by
 unfold AV;rw[aB,aba h,aF]
theorem TQ (x b:Nat):setW x (b%64) false=x &&& (18446744073709551615-o9 b)/\setW x (b%64) true=(x &&& (18446744073709551615-o9 b)) ||| o9 b:=⟨rfl,rfl⟩
theorem MG (h:eN w b U B ps)(G:In64 (az B ps))(hn:ps.length<=1000000)(i:Int)(u:Bool):
  Calls prog 145 #[b,i,u] w (jN w b U B (ps++eK (az B ps) i.toNat u)):=by
 have W:=ar (A5 i w);by_cases hz:i=0
 ·subst hz
  have V:Hid (jN w b U B (ps++eK (az B ps) (0:Int).toNat u) (.returned (.tuple #[])) w):=by
   show jN _ _ _ _ _ _ _;rw[show eK (az B ps) (0:Int).toNat u=[] by simp[eK],bz];exact⟨rfl,U,.inl rfl,h,ay.refl _ _⟩
  clear h;go_in;go_wp2;go_end0;exact V.out
 have e0:(i==0)=false:=by simpa using hz
 cases hi:Iq i
 ·rw[hi] at W
  have V:Hid (jN w b U B (ps++eK (az B ps) i.toNat u) (.returned (.tuple #[])) w):=by
   show jN _ _ _ _ _ _ _;have :¬(0<=i/\i<256):=λe=>by rw[xH.2 e] at hi;cases hi
   rw[show eK (az B ps) i.toNat u=[] by unfold eK;rw[aB],bz];exact⟨rfl,U,.inl rfl,h,ay.refl _ _⟩
  clear hi h hz;go_in;go_wp2_with fail;refine C' W.out ?_;go_wp2;go_end0;exact V.out
 ·rw[hi] at W
  obtain⟨h0,h1⟩:=xH.1 hi;clear hi;obtain⟨j,rfl⟩:=cz h0;have hj:j<256:=by omega
  have Co:¬(j=0\/256<=j):=by omega
  clear hz;obtain⟨HB,V,HG⟩:=hh3 (DF j hj w) (xI j hj w) (nW h ((816+j/64:Nat):Int));rw[yK G (j/64) (by omega)] at HG;have hx:=DC G (j/64);have hm:=KL j;have ha:=u64_andNot_nat (bw (az B ps) (j/64)) (o9 j) hx hm;have hy:bw (az B ps) (j/64) &&& (18446744073709551615-o9 j)<18446744073709551616:=iR Nat.and_le_left hx;have J:Sc ((816+j/64:Nat):Int)=true:=ub.2 ⟨by omega,by omega⟩;obtain⟨s0,s1⟩:=TQ (bw (az B ps) (j/64)) j;cases u
  ·have HP:Hid (Calls prog 47 #[b,((816+j/64:Nat):Int),.int .u64 ((bw (az B ps) (j/64) &&& (18446744073709551615-o9 j):Nat):Int)] w (jN w b U B (ps++eK (az B ps) (j:Int).toNat false))):=by
    have :=o7 h hn ((816+j/64:Nat):Int) ((bw (az B ps) (j/64) &&& (18446744073709551615-o9 j):Nat):Int);unfold z6 at this;rw[aB J] at this;unfold eK;rw[aF,aA Co,s0];exact this
   clear h G hn hx hm J s0 s1 Co hy;generalize ps++eK (az B ps) (j:Int).toNat false=qs,bw (az B ps) (j/64) &&& (18446744073709551615-o9 j)=y at *;generalize bw (az B ps) (j/64)=x,o9 j=m at *;go_in;go_wp2_with fail;refine C' W.out ?_;go_wp2_with fail;refine C' HB.out ?_;go_wp2_with fail;refine C' HG.out ?_;go_wp2_with fail;refine C' V.out ?_;go_wp2_with fail;refine C' HB.out ?_;go_wp2_with fail;refine HP.out.mono ?_;rintro e w' hp;have HQ:=ar hp;obtain⟨rfl,-⟩:=hp;go_wp2;go_end0;exact HQ.out
  ·have ho:=u64_or_nat (bw (az B ps) (j/64) &&& (18446744073709551615-o9 j)) (o9 j) hy hm
   have HP:Hid (Calls prog 47 #[b,((816+j/64:Nat):Int),.int .u64 (((bw (az B ps) (j/64) &&& (18446744073709551615-o9 j)) ||| o9 j:Nat):Int)] w (jN w b U B (ps++eK (az B ps) (j:Int).toNat true))):=by
    have :=o7 h hn ((816+j/64:Nat):Int) (((bw (az B ps) (j/64) &&& (18446744073709551615-o9 j)) ||| o9 j:Nat):Int);unfold z6 at this;rw[aB J] at this;unfold eK;rw[aF,aA Co,s1];exact this
   clear h G hn hx hm J s0 s1 Co hy;generalize ps++eK (az B ps) (j:Int).toNat true=qs,(bw (az B ps) (j/64) &&& (18446744073709551615-o9 j)) ||| o9 j=z at *
   generalize bw (az B ps) (j/64) &&& (18446744073709551615-o9 j)=y at *;generalize bw (az B ps) (j/64)=x,o9 j=m at *;go_in;go_wp2_with fail;refine C' W.out ?_;go_wp2_with fail;refine C' HB.out ?_;go_wp2_with fail;refine C' HG.out ?_;go_wp2_with fail;refine C' V.out ?_;go_wp2_with fail;refine C' V.out ?_;go_wp2_with fail;refine C' HB.out ?_;go_wp2_with fail;refine HP.out.mono ?_;rintro e w' hp;have HQ:=ar hp;obtain⟨rfl,-⟩:=hp;go_wp2;go_end0;exact HQ.out
theorem abd (x:Nat)(z:x<18446744073709551616):18446744073709551615 ^^^ x=18446744073709551615-x:=by
 apply Nat.eq_of_testBit_eq;intro j;rw[Nat.testBit_xor,qL x j z,show(18446744073709551615:Nat)=2^64-1 from rfl,Nat.testBit_two_pow_sub_one];by_cases h:j<64
 ·simp[h]
 ·have :x.testBit j=false:=by
   apply Nat.testBit_lt_two_pow;exact bQ z (jc (n:=2) (i:=64) (by decide) (by omega))
  simp[h,this]
theorem abe (x:Nat)(h:x<18446744073709551616):bits .xor .u64 IntKind.u64.max (x:Int)=((18446744073709551615-x:Nat):Int):=by
 rw[<-abd x h];exact u64_xor_nat 18446744073709551615 x (by decide) h
theorem DG{W:Nat}(h:eN w b W B ps)(z:In64 (az B ps))(k:Nat)(hk:k<4):
  Calls prog 215 #[b,(k:Int)] w λe w'=>e= .returned (.int .u64 ((Jq (az B ps) k:Nat):Int))/\w=w':=by
 have G:=ar (nW h ((816+k:Nat):Int));rw[yK z k (by omega)] at G;have V:=abe _ (DC z k);have ek:IntKind.i64.wrap (816+(k:Int))=((816+k:Nat):Int):=by rw[fR _ (by omega)];omega
 by_cases U:k=0
 ·subst U
  have HM:Hid (Calls prog 172 #[(0:Int)] w (λe w'=>e= .returned (.int .u64 1)/\w=w')):=xI 0 (by decide) w;have ha:bits .andNot .u64 (((18446744073709551615-bw (az B ps) 0:Nat)):Int) 1=((Jq (az B ps) 0:Nat):Int):=by
   rw[Jq,aB rfl];exact u64_andNot_nat (18446744073709551615-bw (az B ps) 0) 1 (by omega) (by decide)
  generalize Jq (az B ps) 0=f,18446744073709551615-bw (az B ps) 0=y at *;generalize bw (az B ps) 0=x at *;clear h z;go_in;go_wp2_with fail;refine C' G.out ?_;go_wp2_with fail;refine C' HM.out ?_;go_wp2;go_ret;exact⟨rfl,rfl⟩
 ·have e0:((k:Int)==0)=false:=by simp;omega
  have J:18446744073709551615-bw (az B ps) k=Jq (az B ps) k:=by rw[Jq,aA U]
  rw[J] at V;clear J;generalize Jq (az B ps) k=f,bw (az B ps) k=x at *;clear h z;go_in;go_wp2_with fail;refine C' G.out ?_;go_wp2;go_ret;exact⟨rfl,rfl⟩
theorem adG:rep 85 8=6148914691236517205:=by decide
theorem adH:rep 51 8=3689348814741910323:=by decide
theorem adI:rep 15 8=1085102592571150095:=by decide
theorem Js (n:Nat)(h:n<18446744073709551616):IntKind.u64.wrap (n:Int)=(n:Int):=by rw[fW];omega
theorem MH (x d m:Nat)(h:x<18446744073709551616)(z:m<18446744073709551616):bits .and .u64 ((x:Int)/(d:Int)) (m:Int)=((x/d &&& m:Nat):Int):=
 gM (x/d) m (iR (Nat.div_le_self x d) h) z
theorem i64_and127(x:Nat)(h:x<9223372036854775808):bits .and .i64 (x:Int) 127=((x%128:Nat):Int):=by
 show IntKind.i64.wrap ((BitVec.ofInt 64 (x:Int) &&& BitVec.ofInt 64 127).toNat:Int)=_;have z:BitVec.ofInt 64 127=BitVec.ofNat 64 127:=by decide
 rw[BitVec.toNat_and,ofInt_u64 x (by omega),z,BitVec.toNat_ofNat,show(127%2^64:Nat)=2^7-1 from rfl,dW];rw[fR _ (by omega)]
theorem PZ (x:Nat)(hx:x<18446744073709551616):∃z h V G J U:Nat,
  IntKind.u64.wrap (bits .and .u64 ((x:Int)/2) 6148914691236517205+bits .and .u64 (x:Int) 6148914691236517205)=(z:Int)/\
  IntKind.u64.wrap (bits .and .u64 ((z:Int)/4) 3689348814741910323+bits .and .u64 (z:Int) 3689348814741910323)=(h:Int)/\
  bits .and .u64 (IntKind.u64.wrap ((h:Int)/16+(h:Int))) 1085102592571150095=(V:Int)/\
  IntKind.u64.wrap ((V:Int)+(V:Int)/256)=(G:Int)/\
  IntKind.u64.wrap ((G:Int)+(G:Int)/65536)=(J:Int)/\
  IntKind.u64.wrap ((J:Int)+(J:Int)/4294967296)=(U:Int)/\
  IntKind.i64.wrap (U:Int)=(U:Int)/\bits .and .i64 (U:Int) 127=((ones 64 x:Nat):Int):=by
 obtain⟨z,h,V,G,J,U,s1,s2,s3,s4,s5,s6,b1,b2,W,b3,b4,b5,b6,hm⟩:=My x hx;unfold st1 at s1;unfold st2 at s2;unfold st3 at s3;rw[adG] at s1;rw[adH] at s2;rw[adI] at s3;refine⟨z,h,V,G,J,U,?_,?_,?_,?_,?_,?_,?_,?_⟩
 ·rw[show(bits .and .u64 ((x:Int)/2) 6148914691236517205)=_ from MH x 2 6148914691236517205 hx (by decide),show(bits .and .u64 (x:Int) 6148914691236517205)=_ from gM x 6148914691236517205 hx (by decide),<-Int.natCast_add,s1]
  exact Js _ b1
 ·rw[show(bits .and .u64 ((z:Int)/4) 3689348814741910323)=_ from MH z 4 3689348814741910323 b1 (by decide),show(bits .and .u64 (z:Int) 3689348814741910323)=_ from gM z 3689348814741910323 b1 (by decide),<-Int.natCast_add,s2]
  exact Js _ b2
 ·rw[show(h:Int)/16+(h:Int)=((h/16+h:Nat):Int) by omega,Js _ W,<-s3]
  exact gM (h/16+h) 1085102592571150095 W (by decide)
 ·rw[show(V:Int)+(V:Int)/256=((G:Nat):Int) by omega]
  exact Js _ (by omega)
 ·rw[show(G:Int)+(G:Int)/65536=((J:Nat):Int) by omega]
  exact Js _ (by omega)
 ·rw[show(J:Int)+(J:Int)/4294967296=((U:Nat):Int) by omega]
  exact Js _ (by omega)
 ·exact fR _ (by omega)
 ·rw[i64_and127 _ b6,hm]
theorem abf (x:Nat)(h:x<18446744073709551616)(w:World):Calls prog 214 #[.int .u64 (x:Int)] w λe w'=>e=((ones 64 x:Nat):Int)/\w=w':=by
 obtain⟨x1,G,x3,J,x5,U,E1,E2,W,E4,V,E6,E7,z⟩:=PZ x h;generalize ones 64 x=r at *;clear h;go_in;go_wp2;go_ret;exact⟨rfl,rfl⟩
def ku (w:World):Prop:=∀j,j<64->w.cell? ⟨0,j,none⟩=some (.int .u8 ((Lib.deBruijn64tab.getD j 0:Nat):Int))
theorem adJ (x a:Nat)(z:x<18446744073709551616)(J:x≠0)(G:x &&& (18446744073709551616-x)=a):
  IntKind.u64.wrap (bits .and .u64 (x:Int) (IntKind.u64.wrap (-(x:Int)))*285870213051353865)/288230376151711744=((a*285870213051353865%18446744073709551616/288230376151711744:Nat):Int):=by
 have h:IntKind.u64.wrap (-(x:Int))=((18446744073709551616-x:Nat):Int):=by rw[fW];omega
 rw[h,gM x _ z (by omega),G,fW];omega
theorem abg (x k h:Nat)(w:World)(J:((x:Int)==0)=false)
  (z:IntKind.u64.wrap (bits .and .u64 (x:Int) (IntKind.u64.wrap (-(x:Int)))*285870213051353865)/288230376151711744=(h:Int))
  (V:h<64) (U:k<64) (G:w.cell? ⟨0,h,none⟩=some (.int .u8 k)):
  Calls prog 216 #[.int .u64 (x:Int)] w λe w'=>e=(k:Int)/\w=w':=by
 go_in;go_wp2_with(simp only[z]);go_ret;exact⟨rfl,rfl⟩
theorem afw (x:Nat)(G:x<18446744073709551616)(V:x≠0)(w:World)(hT:ku w):Calls prog 216 #[.int .u64 (x:Int)] w λe w'=>e=((Lib.ctz 64 x:Nat):Int)/\w=w':=by
 obtain⟨W,J⟩:=Lib.lowest_bit 64 x V G;obtain⟨U,z⟩:=Lib.deBruijn64_at _ J;have h:=hT _ U;rw[z] at h;exact abg x _ _ w (by simp;omega) (adJ x _ G V W) U J h
def Onto (w:World) (b z:Nat) (B:List Int) (ps:List (Int×Int)) (w':World):Prop:=
 ∃h,(h=z\/(w.heap.size<=h/\h<w'.heap.size))/\eN w' b h B ps/\ay [b,z] w w'
theorem Onto.refl(h:eN w b z B ps):Onto w b z B ps w:=⟨z,.inl rfl,h,ay.refl _ _⟩
theorem Onto.post(h:Onto w b z B ps w'):jN w b z B ps (.returned (.tuple #[])) w':=⟨rfl,h⟩
theorem Onto.trans{U:World}(hg:z=J\/(w.heap.size<=z/\z<G.heap.size))(V:ay [b,J] w G)(h:Onto G b z B qs U):Onto w b J B qs U:=by
 obtain⟨lH,h1,h2,W⟩:=h;have z1:=V.size;have z2:=W.size;refine⟨lH,by omega,h2,V.trans W λx hx=> ?_⟩;simp only[aM,aK,bC] at hx ⊢;omega
theorem Onto.mono{U:World}(J:ay [] w U)(Ic:z<w.heap.size)(h:Onto U b z B qs G):Onto w b z B qs G:=by
 obtain⟨W,h1,h2,h3⟩:=h;have z1:=J.size;exact⟨W,by omega,h2,(J.mono).trans h3 λx V=> .inl V⟩
theorem Xy (ps:List (Int×Int))(c k:Nat)(z:c<256)(h:k<8):z6 (ps++mX c k) ((1080+c*8+k:Nat):Int) 0=ps++mX c (k+1):=by
 unfold z6;rw[aB (ub.2 ⟨by omega,by omega⟩),A1,aV]
theorem P4 (h:eN w b z B ps)(V:ps.length<=999000)(c:Nat)(hc:c<256):
  Calls prog 191 #[b,(c:Int)] w (jN w b z B (ps++gX c)):=by
 obtain⟨HS,HN⟩:=hh2 h V;have U:∀w',Hid (Calls prog 155 #[(c:Int)] w' λe G=>e=((1080+c*8:Nat):Int)/\w'=G):=λw'=>by
  have :=j6 (c:Int) w';rw[show iG (c:Int)=((1080+c*8:Nat):Int) by unfold iG;rw[aA];omega] at this;exact this
 clear h V;go_in;go_wp2_with fail;go_loopg [5] 8 (λgh s5 wx=>∃k:Nat,k+gh=8/\s5= .int .i64 (k:Int)/\Hid (Onto w b z B (ps++mX c k) wx))
 case atStart=>exact⟨0,by omega,rfl,by show Onto _ _ _ _ _ _;rw[show mX c 0=[] from rfl,bz];exact Onto.refl HS.out⟩
 case round=>
  obtain⟨k,hk,rfl,J⟩:=hrel;cases gk with
  |zero=>
   obtain rfl:k=8:=by omega
   clear hk;go_wp2;go_end0;exact Onto.post J.out
  |succ gg=>
   have rM:k<8:=by omega
   have aa:(k:Int)<8:=by omega
   have cM:(0:Int)<=(k:Int):=by omega
   have HP:Hid (∀x:Int,x=((1080+c*8+k:Nat):Int)->Calls prog 47 #[b,x,.int .u64 0] wr λe w'=>e= .returned (.tuple #[])/\Hid (Onto w b z B (ps++mX c (k+1)) w')):=by
    intro x hx;subst hx;obtain⟨kQ,h1,h2,h3⟩:=J.out;refine Rr (o7 h2 (by rw[aC,DD];have :=HN.out;omega) _ 0) λw' W=> ?_;rw[Xy ps c k hc rM] at W;exact⟨rfl,Onto.trans h1 h3 W⟩
   have HB:=U wr;clear J U;go_wp2_with fail;refine C' HB.out ?_;go_wp2_with fail;refine Rr (HP.out _ (by omega)) λw' HQ=> ?_;go_wp2;go_roundg gg;case measure=>omega
   case rel=>exact⟨k+1,by omega,by go_num,HQ⟩
theorem Jt (X:List Int)(n:Nat):(eX X n).length<=n:=by
 unfold eX;have :=fe (λb=>b != 0 && !dn X b) (List.range n);simpa using this
theorem Ju (h:eN w b gp B ps)(z:In64 (az B ps)):
  Calls prog 189 #[b] w λe w'=>e=(((aY (az B ps)).length:Nat):Int)/\w=w':=by
 obtain⟨HS,V⟩:=hh2 h z;clear h z;go_in;go_wp2_with fail;go_loop [3,5] (λs3 s5=>∃k:Nat,k<=4/\s5= .int .i64 (k:Int)/\s3= .int .i64 (((eX (az B ps) (64*k)).length:Nat):Int)) (λ_ s5=>4-(intOf s5).toNat)
 case atStart=>exact⟨0,by omega,rfl,rfl⟩
 case round=>
  obtain⟨k,hk,rfl,rfl⟩:=hrel;by_cases J:k<4
  ·have U:(k:Int)<4:=by omega
   have cM:(0:Int)<=(k:Int):=by omega
   have W:=ar (PY V.out k);have aa:=Jt (az B ps) (64*k);have G:=Jt (az B ps) (64*(k+1));have e:=W.out;obtain⟨HI,HO⟩:=hh2 (DG HS.out V.out k J) (abf (Jq (az B ps) k) (Xu (az B ps) k) w);have ho:ones 64 (Jq (az B ps) k)<=256:=by omega
   rw[e] at G;clear e G;generalize ones 64 (Jq (az B ps) k)=o at *;generalize hf:Jq (az B ps) k=f at *;clear hf;generalize hq:(eX (az B ps) (64*k)).length=q at *;clear hq;go_wp2_with fail;refine C' HI.out ?_;go_wp2_with fail;refine C' HO.out ?_;go_wp2_with fail
   go_round
   case rel=>exact⟨k+1,by omega,by go_num,by rw[W.out];go_num⟩
   case measure=>simp[intOf];omega
  ·obtain rfl:k=4:=by omega
   go_wp2;go_ret;exact⟨rfl,rfl⟩
def dJ (l:List Nat):List Value:=l.map λx:Nat=>Value.int .i64 (x:Int)
theorem fo (l:List Nat):(dJ l).length=l.length:=by simp[dJ]
theorem nr (h:j<l.length):(dJ l)[j]? =some (.int .i64 ((l.getD j 0:Nat):Int)):=by simp[dJ,h]
theorem uh (l m:List Nat):dJ (l++m)=dJ l++dJ m:=by simp[dJ]
theorem Tryz.info_int:(prog.info? 3).map (λi=>(i.zero,i.size,i.bytes))=some (some (.int .i64 0),1,8):=by kernel_rfl
theorem TR (n:Nat)(V:n<=100000)(w:World):(Instr.makeSlice 76 (.int .i64 0) (.int .i64 (n:Int))).run prog w=
  .ok (.slice w.heap.size 0 n) (w.alloc (.cells (madeCells #[(0:Int)] n) 3)):=by
 obtain⟨J,U,z,h,G⟩:=df Tryz.info_int;have :=run_make (P:= prog) w 76 3 J _ underlying76 U z .i64 .i64 0 (n:Int) (by omega) (by omega) (by rw[G];omega) (by omega);rw[h,aF,iE] at this;exact this
theorem Ir (X:List Int)(k m:Nat)(h:k<=m):∃r,eX X m=eX X k++r:=by
 obtain⟨d,rfl⟩:∃d,m=k+d:=⟨m-k,by omega⟩;exact⟨_,iU _ k d⟩
theorem TS (G:y<18446744073709551616)(h:zo y=[]):y=0:=by
 by_cases z:y=0
 ·exact z
 ·have :=(Jo y z G).2
  rw[h] at this;cases this
def uN (w:World) (l:List Nat) (e:Ending) (w':World):Prop:=
 ∃v g,e=(v:Value)/\Reads w' v g (dJ l)/\w.heap.size<=g/\g<w'.heap.size/\ay [] w w'
def FC (w:World) (n:Nat) (l:List Nat) (v:Value) (h:World):Prop:=
 h.ownsRow w.heap.size 3 1 v l.length (dJ l)/\ay [] w h/\l.length<=n/\v≠.slice none 0 0
theorem FC.made{z:World}(h:FC w n l v z):uN w l (.returned v) z:=by
 obtain⟨W,h2,h3,h4⟩:=h;obtain⟨h5,h6⟩:=W;rcases h6 with ⟨rfl,-⟩|⟨g,cap,U,rfl,hg,V,h7,h8,h9,J⟩
 ·exact absurd rfl h4
 ·have G:g<z.heap.size:=(Array.getElem?_eq_some_iff.1 V).1
  exact⟨_,g,rfl,fw.reads ⟨h5,_,cap,rfl,h7,h8,λ_=>⟨rfl,U,V,h9,J⟩⟩,hg,G,h2⟩
theorem ku.keep(h:ku w)(J:ay [] w w'):ku w':=λj G=>by
 have z:=h j G;rw[aO (w:=w) (J.block _ (lt_of_cell z) (by simp))];exact z
theorem Xz (y:Nat)(h:y<18446744073709551616)(z:y≠0):bits .and .u64 (y:Int) (IntKind.u64.wrap ((y:Int)-1))=((y &&& (y-1):Nat):Int)/\y &&& (y-1)<18446744073709551616:=by
 have e:IntKind.u64.wrap ((y:Int)-1)=((y-1:Nat):Int):=by rw[fW];omega
 rw[e];exact⟨gM y (y-1) h (by omega),iR Nat.and_le_left h⟩
theorem FD (h:eN w b gp B ps)(ah:In64 (az B ps))(hT:ku w)(n:Nat)(hn:n<=100000):
  Calls prog 190 #[b,(n:Int)] w (uN w ((aY (az B ps)).take n)):=by
 obtain⟨i0,hi,aG,au,av⟩:=df Tryz.info_int;obtain⟨HS,uM,HT⟩:=hh3 h ah hT;clear h ah hT;have aj:=TR n hn w;have aD:Hid (FC w n [] (.slice w.heap.size 0 n) (w.alloc (.cells (madeCells #[(0:Int)] n) 3))):=by
  refine⟨⟨rfl,.inr ⟨w.heap.size,n,madeCells #[(0:Int)] n,rfl,aI _,bc.new _ _ _,by simp,by unfold maxLen;omega,by simp[madeCells],by simp[dJ]⟩⟩,(ay.refl _ _).alloc _,by simp,by simp⟩
 go_in;go_wp2_with fail;go_step3;go_wp2_with fail;go_step3;go_wp2_with fail;clear aj;go_loopg [5,10] 4 (λgh s5 XA wx=>∃k:Nat,k+gh=4/\XA= .int .i64 (k:Int)/\Hid (FC w n (eX (az B ps) (64*k)) s5 wx))
 case atStart=>exact⟨0,by omega,rfl,aD.out⟩
 case round=>
  obtain⟨k,hk,rfl,V⟩:=hrel;cases gk with
  |zero=>
   obtain rfl:k=4:=by omega
   clear hk;have HM:Hid (uN w ((aY (az B ps)).take n) (.returned u5) wr):=by
    show uN _ _ _ _;have e:aY (az B ps)=eX (az B ps) (64*4):=rfl;rw[e,aW V.out.2.2.1];exact V.out.made
   go_wp2_with fail;rw[Exit.noGoto_ret];go_ret;exact HM.out
  |succ gg=>
   have aF:k<4:=by omega
   have ag:(k:Int)<4:=by omega
   have cM:(0:Int)<=(k:Int):=by omega
   obtain⟨HF,HY⟩:=hh2 (DG (HS.out.keep V.out.2.1) uM.out k aF) (Xu (az B ps) k);go_wp2_with fail;refine C' HF.out ?_;clear HF;go_wp2_with fail;clear cM ag;go_loopg [5,7] (zo (Jq (az B ps) k)).length (λgh s5 s7 wx=>∃(y:Nat) (G:List Nat),gh=(zo y).length/\s7= .int .u64 (y:Int)/\
    Hid (y<18446744073709551616/\zo (Jq (az B ps) k)=G++zo y/\FC w n (eX (az B ps) (64*k)++G.map (64*k+·)) s5 wx))
   case atStart=>exact⟨_,[],rfl,rfl,HY.out,rfl,by rw[List.map_nil,bz];exact V.out⟩
   case round=>
    clear V HY;obtain⟨y,G,U,rfl,V⟩:=hrel;cases gk with
    |zero=>
     have hy:y=0:=TS V.out.1 (bg U.symm);subst hy;have ax:Hid (FC w n (eX (az B ps) (64*(k+1))) u5 wr):=by
      show FC _ _ _ _ _;obtain⟨-,h2,h3⟩:=V.out;rw[xE uM.out,h2,Jp,bz];exact h3
     clear V U;have ag:(k:Int)<4:=by omega
     have cM:(0:Int)<=(k:Int):=by omega
     go_wp2;go_roundg gg;case measure=>omega
     case rel=>exact⟨k+1,by omega,by go_num,ax⟩
    |succ g2=>
     have ac:y≠0:=by
      intro e;subst e;rw[Jp] at U;cases U
     obtain⟨hc,hb⟩:=Jo y ac V.out.1;have e0:((y:Int)==0)=false:=by simp;omega
     have e1:((y:Int) != 0)=true:=by simp;omega
     by_cases J:(eX (az B ps) (64*k)++G.map (64*k+·)).length=n
     ·have HM:Hid (uN w ((aY (az B ps)).take n) (.returned u5) wr):=by
       show uN _ _ _ _;obtain⟨-,h2,h3⟩:=V.out;obtain⟨r,hr⟩:=Ir (az B ps) (64*(k+1)) 256 (by omega);have e:aY (az B ps)=eX (az B ps) 256:=rfl;rw[xE uM.out,h2,ez] at hr;rw[e,hr,<-aV (eX (az B ps) (64*k)),aV,List.take_left' J];exact h3.made
      obtain⟨a,cap,rfl,q1,q2⟩:=iT V.out.2.2.1;rw[J] at HM ⊢;clear V U hb hc ac;go_wp2_with fail;rw[Exit.noGoto_ret];go_ret;exact HM.out
     ·obtain⟨f1,f2,⟨f3,f4,f5,f6⟩⟩:=V.out
      have aB:=ar (afw y f1 ac wr (HT.out.keep f4));obtain⟨xD,Jv⟩:=Xz y f1 ac;have DI:=ar Jv;have ai:(eX (az B ps) (64*k)++G.map (64*k+·)).length+1<=n:=by omega
      have xj:Hid (zo (Jq (az B ps) k)=(G++[Lib.ctz 64 y])++zo (y &&& (y-1))):=by
       show _=_;rw[f2,hb,aV];rfl
      have aC:Hid (g2=(zo (y &&& (y-1))).length):=by
       show _=_;rw[hb,cA] at U;omega
      have aA:Hid (eX (az B ps) (64*k)++(G++[Lib.ctz 64 y]).map (64*k+·)=(eX (az B ps) (64*k)++G.map (64*k+·))++[64*k+Lib.ctz 64 y]):=by
       show _=_;rw[ez,aV];rfl
      obtain⟨a,cap,rfl,q1,q2⟩:=iT f3;obtain⟨ae,jD⟩:=hh2 f3 f4;have aH:=f4.size;clear f1 f2 f3 f4 f5 f6 V U hb Jv;generalize eX (az B ps) (64*k)++G.map (64*k+·)=L,y &&& (y-1)=z,Lib.ctz 64 y=c at *;have HI:Hid (dJ (L++[64*k+c])=dJ L++[.int .i64 ((k:Int)*64+(c:Int))]):=by
       show _=_;rw[uh];have :((64*k+c:Nat):Int)=(k:Int)*64+(c:Int):=by omega
       simp only[dJ,List.map_cons,List.map_nil,this]
      have Eu:Hid ((L++[64*k+c]).length=L.length+1):=by show _=_;simp
      have ag:(k:Int)<4:=by omega
      have cM:(0:Int)<=(k:Int):=by omega
      have aJ:(0:Int)<=(c:Int):=by omega
      have aK:(c:Int)<64:=by omega
      generalize L.length=q at *;have e2:(q==n)=false:=by simpa using J
      have e3:((q:Int)==(n:Int))=false:=by simp;omega
      go_wp2_with fail;refine C' aB.out ?_;go_wp2_with(at_builtin;refine eO _ rfl _ _ 76 rfl w.heap.size 3 i0 (.int .i64 0) 1 8 underlying76 hi aG au av rfl (by decide) (.slice a q cap) q _ rfl (ae.out.alloc _) ⟨wr.heap.size,0,none⟩ 1 1 [.int .i64 ((k:Int)*64+(c:Int))] rfl rfl ?c1 ?c2 (by unfold maxLen;omega) (by omega) (by simp;omega) ?_);case c1=>exact lu _ [_] _ _ rfl
      case c2=>simp[Value.oneCell']
      intro v' w1 W aa af;obtain⟨MI,jv⟩:=hh2 W ((jD.out.alloc _).grown aa (dO ae.out));have ak:Hid (v'≠.slice none 0 0):=af;clear W aa af;go_wp2;go_roundg g2;case measure=>omega
      case rel=>
       refine⟨z,G++[c],aC.out,rfl,DI.out,xj.out,?_⟩;rw[aA.out];refine⟨?_,jv.out,by rw[Eu.out];exact ai,ak.out⟩;rw[HI.out,Eu.out];exact MI.out
def lQ (w:World) (v:Value) (g:Nat) (own:List Nat):Prop:=w.ownsRow g 3 1 v own.length (dJ own)/\∀k,v.ownBlock=some k->k=g
theorem lQ.reads(h:lQ w v g own):Reads w v g (dJ own):=by
 obtain⟨V,h2⟩:=h;obtain⟨h0,h5⟩:=V;rcases h5 with ⟨rfl,W⟩|⟨U,cap,J,rfl,hg,hh,z,h8,h9,G⟩
 ·have z:dJ own=[]:=bg (by rw[fo];exact W)
  exact⟨none,0,by rw[z];rfl,by simp[z],by simp[maxLen],λh=>absurd z h⟩
 ·obtain rfl:=h2 U rfl
  have :=fw.reads (w:=w) (g:=U) ⟨h0,_,cap,rfl,z,h8,λ_=>⟨rfl,J,hh,h9,G⟩⟩;exact this
theorem lQ.keep(h:lQ w v g own){l:List Nat}(J:ay l w w')(G:g∉l:=by simp):lQ w' v g own:=
 ⟨ey h.1 J λk z=>by rw[h.2 k z];exact G,h.2⟩
theorem lQ.nil(w:World)(g:Nat):lQ w (.slice none 0 0) g []:=⟨⟨rfl,.inl ⟨rfl,rfl⟩⟩,λk h=>by cases h⟩
theorem lQ.of_row(h:w.ownsRow z 3 1 v own.length (dJ own)):∃g,lQ w v g own/\z<=g:=by
 obtain⟨W,h5⟩:=h;rcases h5 with ⟨rfl,h6⟩|⟨V,cap,U,rfl,hg,hh,h7,h8,h9,J⟩
 ·exact⟨z,⟨⟨W,.inl ⟨rfl,h6⟩⟩,λk G=>by cases G⟩,aI _⟩
 ·exact⟨V,⟨⟨W,.inr ⟨V,cap,U,rfl,aI _,hh,h7,h8,h9,J⟩⟩,λk G=>by cases G;rfl⟩,hg⟩
theorem lQ.away(h:lQ w v g own)(G:U<=g){l:List Nat}(J:ay l w w')(hl:∀x∈l,w.heap.size<=x):∃z,lQ w' v z own/\U<=z:=by
 have h1:=h.1;obtain⟨h0,h5⟩:=h1;rcases h5 with ⟨rfl,W⟩|⟨z,cap,V,rfl,hg,hh,h7,h8,h9,ac⟩
 ·exact⟨U,⟨⟨h0,.inl ⟨rfl,W⟩⟩,λk J=>by cases J⟩,aI _⟩
 ·obtain rfl:=h.2 z rfl
  have aa:z<w.heap.size:=(Array.getElem?_eq_some_iff.1 hh).1;exact⟨z,h.keep J (λhm=>by have :=hl _ hm;omega),G⟩
variable {P:Program} {n:Nat} {r:Option Nat} {ops:Array Oper} {Q:Exit->Act->World->Prop}
theorem FE{a:Act}{z:Result Next}(h:o.upon P a next Q z):o.uponIn { Fence.wide with round:=r } n P a next Q z:=by
 unfold Oper.upon at h;split at h<;>unfold Oper.uponIn<;>simp only
 ·exact h
 ·exact h
 ·exact h
 ·exact⟨λh=>(by cases h),callsIn_wide.2 h⟩
 ·refine⟨λh=>(by cases h),λc cs _=> ?_⟩
  obtain⟨v,w',G,J⟩:=h c cs;exact⟨v,w',G,stepsIn_wide.2 J⟩
 ·exact h
 ·exact h.elim
theorem vS{a:Act}(z:∀c,o.op≠.defer c)(h:o.wp P a w next Q):o.wpIn { Fence.wide with round:=r } n P a w next Q:=by
 refine⟨λ_ _=>trivial,?_⟩;rw[Oper.semAt_eq _ _ _ z];exact FE h
theorem TT{K G:Act->World->Prop}(U:¬LetsOut Q)(J:∀(i:Nat) (o:Oper),ops[i]? =some o->∀c,o.op≠.defer c)(z:∀a w,K a w->G a w){i:Nat}{a:Act}{w:World}(h:wpOp P ops Q i K a w):wpOpIn { Fence.wide with round:=r } n P ops Q i G a w:=by
 unfold wpOp at h;unfold wpOpIn;cases ho:ops[i]? with
 |none=>rw[ho] at h;exact z _ _ h
 |some o=>
  rw[ho] at h;simp only at h ⊢;split
  ·rename_i hw
   rw[aB hw] at h;rcases h with h|h
   ·exact Oper.wpIn_mono z (vS (J i o ho) h)
   ·exact absurd h.2 U
  ·rename_i hw
   rw[aA hw] at h;exact⟨λ_ _=>trivial,z _ _ h⟩
theorem P5{md:Region.Mode}(J:¬LetsOut Q)(G:∀(i:Nat) (o:Oper),ops[i]? =some o->∀c,o.op≠.defer c):∀(fuel:Nat) (z:Array Bool) {a:Act} {w:World},wpAny P md ops Q fuel z a w->wpAnyIn { Fence.wide with round:=r } n P md ops Q fuel z a w:=by
 intro fuel;induction fuel with
 |zero=>intro z a w h;exact h
 |succ fuel ih=>
  intro z a w h;exact⟨h.1,λi U=>TT J G (λa w h=>ih _ h) (h.2 i U)⟩
theorem xJ{a:Act}(U:P.follows .mixedOrders=true)(G:¬LetsOut Q)(z:∀(i:Nat) (o:Oper),ops[i]? =some o->∀c,o.op≠.defer c)
  (h:wpAny P .any ops Q ops.size (Array.replicate ops.size false) a { w with drawn:=w.drawn+1 }):(Code.region J ops true).wpIn { Fence.wide with round:=r } n P Q a w:=
 wpIn_region_any U (P5 G z _ _ h)
theorem KeepsFrom.of_keeps{B:Nat}(h:ay l w w')(U:∀k,k∈l->k<w.heap.size->k<B\/∃c T,bc w k c T):KeepsFrom B w w':=by
 refine⟨h.size,λk o hB G V=> ?_⟩;have z:=(Array.getElem?_eq_some_iff.1 G).1;refine(h.block k z λW=> ?_).trans G;rcases U k W z with h1|⟨c,T,J⟩
 ·omega
 ·rw[J] at G
  cases G;cases V
theorem bc.turn{c:Array Value}(h:bc w b c T)(U:w.grownBy w' row)(J:∀r,row=some r->∃o:Obj,w.heap[r]? =some o/\o.isCells=false):bc w' b c T:=by
 refine(U.block b h.lt λe=> ?_).trans h;obtain⟨o,z,G⟩:=J b e.symm;rw[h] at z;cases z;cases G
theorem ay.turn{z:World}{B:Nat}(h:ay l w z)(V:z.grownBy w' row)(U:∀r,row=some r->B<=r)(W:w.heap.size<=B):ay l w w':=
 h.trans (l':=row.toList) (ay.of_grown V λk J=> .inl (by rw[J];simp)) λx G=> .inr (by have :=U x (by simpa using G);omega)
def zs (l:List Int):List Value:=l.map (Value.int .i64)
theorem eT (l:List Int):(zs l).length=l.length:=by simp[zs]
theorem gI{l:List Int}(h:j<l.length):(zs l)[j]? =some (.int .i64 (l.getD j 0)):=by simp[zs,h]
theorem XB (l:List Int)(j:Nat)(x:Int):(zs l).set j (.int .i64 x)=zs (l.set j x):=by simp[zs,List.map_set]
theorem Cq (xs h:List Int):zs (xs++h)=zs xs++zs h:=by simp[zs]
theorem nt (l:List Int):∀u∈zs l,u.oneCell'=true:=by
 intro u h;simp only[zs,bH] at h;obtain⟨x,-,rfl⟩:=h;rfl
def fc (E:List (ByteArray×Int)):List Value:=E.flatMap λp=>[.string p.1,.int .i64 p.2]
def eY (E:List (ByteArray×Int)) (j:Nat):ByteArray:=(E.getD j (ByteArray.empty,0)).1
def jq (E:List (ByteArray×Int)) (j:Nat):Int:=(E.getD j (ByteArray.empty,0)).2
theorem MJ (p:ByteArray×Int)(E:List (ByteArray×Int))(j:Nat):eY (p::E) (j+1)=eY E j:=rfl
theorem MK (p:ByteArray×Int)(E:List (ByteArray×Int))(j:Nat):jq (p::E) (j+1)=jq E j:=rfl
theorem XC{k:Nat}(h:k<E.length):(eY E k,jq E k)∈E:=by
 grind [eY,jq]
theorem XD{F:List (ByteArray×Int)}(z:E.length=F.length)(h:∀k,k<E.length->eY E k=eY F k/\jq E k=jq F k):E=F:=by
 grind [cX,eY,jq]
theorem lI (E:List (ByteArray×Int)):(fc E).length=E.length*2:=by
 induction E with
 |nil=>rfl
 |cons p E ih=>simp[fc] at ih ⊢;omega
theorem qA (E F:List (ByteArray×Int)):fc (E++F)=fc E++fc F:=by simp[fc]
theorem qc (E:List (ByteArray×Int)):∀k,k<E.length->(fc E)[k*2]? =some (.string (eY E k))/\(fc E)[k*2+1]? =some (.int .i64 (jq E k)):=by
 induction E with
 |nil=>intro k h;simp at h
 |cons p E ih=>
  intro k h;have z:fc (p::E)= .string p.1:: .int .i64 p.2::fc E:=rfl;cases k with
  |zero=>rw[z];exact⟨rfl,rfl⟩
  |succ k=>
   grind [MJ,MK]
theorem z7 (E:List (ByteArray×Int)):∀u∈fc E,u.oneCell'=true:=by
 intro u h;simp only[fc,List.mem_flatMap,aM,aK,bC] at h;obtain⟨p,-,rfl|rfl⟩:=h<;>rfl
def bD (w:World) (v:Value) (g:Nat) (E:List (ByteArray×Int)):Prop:=
 ∃a cap,v= .slice a E.length cap/\E.length<=cap/\cap<=maxLen/\(E.length≠0->g<w.heap.size/\∃off,a=some ⟨g,off,none⟩/\
  ∀j,j<E.length->w.cell? ⟨g,off+j*2,none⟩=some (.string (eY E j))/\w.cell? ⟨g,off+j*2+1,none⟩=some (.int .i64 (jq E j)))
theorem bD.keep(h:bD w v g E){l:List Nat}(J:ay l w w')(hg:E.length≠0->g∉l:=by simp):bD w' v g E:=by
 obtain⟨a,cap,U,h2,h3,V⟩:=h;refine⟨a,cap,U,h2,h3,λG=> ?_⟩;obtain⟨z,off,W,h6⟩:=V G;refine⟨bQ z J.size,off,W,λj hj=> ?_⟩;have hb:=J.block g z (hg G)
 grind [aO]
theorem bD.open(h:bD w v g E):∃a cap,v= .slice a E.length cap/\E.length<=cap/\cap<=maxLen/\
  Hid (∀k,k<E.length->g<w.heap.size/\∃off,a=some ⟨g,off,none⟩/\w.cell? ⟨g,off+k*2,none⟩=some (.string (eY E k))/\w.cell? ⟨g,off+k*2+1,none⟩=some (.int .i64 (jq E k))):=by
 obtain⟨a,cap,z,J,G,U⟩:=h;refine⟨a,cap,z,J,G,λk V=> ?_⟩
 grind
theorem bD.apart(h:bD w v g E){l:List Nat}(J:∀x,x∈l->w.heap.size<=x):E.length≠0->g∉l:=λz U=>by
 obtain⟨a,cap,V,h2,W,G⟩:=h;have :=(G z).1;have :=J g U;omega
theorem bD.nil(w:World)(g:Nat):bD w (.slice none 0 0) g []:=⟨none,0,rfl,by simp,by simp[maxLen],λh=>absurd rfl h⟩
theorem bD.anyG(h:bD w v g E)(G:E.length=0)(U:Nat):bD w v U E:=by
 obtain⟨a,cap,z,V,J,W⟩:=h;exact⟨a,cap,z,V,J,λh=>absurd G h⟩
theorem fw.ereads(h:fw w v g T 2 n (fc E))(hn:n=E.length):bD w v g E:=by
 subst hn;obtain⟨a,cap,J,U,V⟩:=h.val;refine⟨a,cap,J,U,V,λh0=> ?_⟩;obtain⟨W,⟨G,z,-,-⟩,hc,-⟩:=h.cell h0;rw[J] at z;cases z;refine⟨W,0,rfl,λj hj=> ?_⟩
 grind [qc]
structure bS where
 F:Int
 K:Int
 L:Int
 S:Int
 B:List Int
 E:List (ByteArray×Int)
def mQ (n:bS) (v:Value):List Value:= .int .i64 n.F:: .int .i64 n.K:: .int .i64 n.L:: .int .i64 n.S::(zs n.B++[v])
def aL (n:bS) (v:Value):Array Value:=(mQ n v).toArray
theorem gJ (n:bS)(v:Value):(mQ n v).length=n.B.length+5:=by simp[mQ,eT]
theorem Cr{n:bS}(v:Value){k:Nat}(h:k<n.B.length):(aL n v)[4+k]? =some (.int .i64 (n.B.getD k 0)):=by
 grind [aL,mQ,eT,gI]
theorem Aa{n:bS}(v:Value)(h:n.B.length=13):(aL n v)[17]? =some v:=by
 grind [aL,mQ,eT]
structure Sg (Z:Array Value) (n:bS) (v:Value):Prop where
 f0:Z[0]? =some (.int .i64 n.F)
 f1:Z[1]? =some (.int .i64 n.K)
 f2:Z[2]? =some (.int .i64 n.L)
 f3:Z[3]? =some (.int .i64 n.S)
 f4:∀k,k<13->Z[4+k]? =some (.int .i64 (n.B.getD k 0))
 f5:Z[17]? =some v
 len:n.B.length=13
 eq:Z=aL n v
theorem fT{n:bS}(v:Value)(h:n.B.length=13):Sg (aL n v) n v:=
 ⟨rfl,rfl,rfl,rfl,λ_ z=>Cr v (by omega),Aa v h,h,rfl⟩
theorem DJ{l m:List Int}(z:l.length=m.length)(h:∀k,k<l.length->l.getD k 0=m.getD k 0):l=m:=by
 grind [cX]
theorem qd (w:World)(d:Nat)(t e:TypeId)(len:Nat)(k k':IntKind)(a b:List Int)(ht:P.underlying t=some (.array len e))(he:P.underlying e=some (.int k'))(J:(P.info? e).map (·.size)=some 1)
  (ha:a.length=len) (hb:b.length=len):
  (Op.equalIn (d+2) t (.agg (a.map (Value.int k)).toArray) (.agg (b.map (Value.int k)).toArray)).run P w= .ok (decide (a=b)) w:=by
 have Si:∀(l:List Int) (i:Nat) (z:World),i<l.length->(part e (l.map (Value.int k)).toArray i).run P z= .ok (.int k (l.getD i 0)) z:=by
  intro l i z hi;have G:(isAgg e).run P z= .ok false z:=by
   unfold isAgg;rw[ck,dD he z];rfl
  unfold part;rw[ck,G];simp[hi]
 have V:∀z:World,(sizeOf e).run P z= .ok 1 z:=by
  intro z;cases hq:P.info? e with
  |none=>simp[hq] at J
  |some i=>simp[sizeOf,typeInfo,hq] at J ⊢;exact J
 have U:∀(x y:Int) (z:World),(Op.equalIn (d+1) e (.int k x) (.int k y)).run P z= .ok (x==y) z:=λx y z=>run_equalIn_int z d e k k' x y he
 rw[Op.equalIn];simp only[ck,dD ht,cN,V,Std.Legacy.Range.forIn_eq_forIn_range',Std.Legacy.Range.size,Nat.sub_zero,jQ,Nat.div_one,iE];have W:∀(m s:Nat),s+m=len->Sem.run P (forIn (List.range' s m) ((none:Option Bool),()) λi _=>do
      let x <-part e (List.map (Value.int k) a).toArray i
      let y <-part e (List.map (Value.int k) b).toArray i
      let r <-Op.equalIn (d+1) e x y
      if (!r)=true then pure (ForInStep.done (some false,())) else pure (ForInStep.yield (none,()))) w= .ok (if a.drop s=b.drop s then none else some false,()) w:=by
  intro m;induction m with
  |zero=>
   intro s hs;rw[dV (by omega),dV (by omega),aB rfl];simp
  |succ m ih=>
   intro s hs;have h1:s<a.length:=by omega
   have h2:s<b.length:=by omega
   rw[List.range'_succ,List.forIn_cons];simp only[ck,Si a s w h1,Si b s w h2,cN,U]
   grind [kz,fQ,cN]
 rw[W len 0 (by omega)];by_cases h:a=b
 ·simp[h]
 ·simp[h]
theorem lR (t e:TypeId)(len:Nat)(k':IntKind)(Z:Array Value)(k:Nat)(v:Value)(ht:P.underlying t=some (.array len e))(W:P.underlying e=some (.int k'))(G:(P.info? e).map (·.size)=some 1)
  (hk:k<len) (V:Z[k]? =some v) (w:World):(Instr.index t (.agg Z) (.int .i64 (k:Int))).run P w= .ok v w:=by
 have U:∀J:World,(sizeOf e).run P J= .ok 1 J:=by
  intro J;cases hq:P.info? e with
  |none=>simp[hq] at G
  |some i=>simp[sizeOf,typeInfo,hq] at G ⊢;exact G
 have z:(isAgg e).run P w= .ok false w:=by
  unfold isAgg;rw[ck,dD W w];rfl
 have hi:(0:Int)<=(k:Int)/\(k:Int)<(len:Int):=by omega
 unfold Instr.index;simp[dD ht,hi,U,part,z,V,asIntOf];intro h;omega
end
end Go.Proofs.YtimcfdnbpkiniaaGreatDoor
