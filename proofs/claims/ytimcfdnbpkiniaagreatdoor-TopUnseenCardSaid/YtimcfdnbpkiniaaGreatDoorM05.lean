/- Lemmas. -/
import Derived.Test.YtimcfdnbpkiniaaGreatDoorM04
import Derived.Deep.RegionHeld
set_option maxHeartbeats 8000000
set_option maxRecDepth 100000
namespace Go.Proofs.YtimcfdnbpkiniaaGreatDoor
open Go.Proofs.Tryz
open Go.RowKit
variable{w w':World}{v:Value}{T cap g h j n z:Nat}{S:Nat->Value}{F:Nat->List (ByteArray×Int)}{E:List (ByteArray×Int)}
def mA (L:List Int) (n:Nat):List (ByteArray×Int):=(List.range n).map λk=>(xk ((kD (L.getD (k*2) 0).toNat).getD []),L.getD (k*2+1) 0)
def qD (L:List Int) (n:Nat):Prop:=∀k,k<n->(kD (L.getD (k*2) 0).toNat).isSome=true/\L.getD (k*2+1) 0<32
theorem jX (L:List Int)(n:Nat):(mA L n).length=n:=by simp[mA]
theorem Cw (L:List Int)(n e:Nat)(h:e<n):eY (mA L n) e=xk ((kD (L.getD (e*2) 0).toNat).getD [])/\jq (mA L n) e=L.getD (e*2+1) 0:=by
 have :(mA L n).getD e (ByteArray.empty,0)=(xk ((kD (L.getD (e*2) 0).toNat).getD []),L.getD (e*2+1) 0):=by
  rw[mA,aj,bO,cU h];rfl
 rw[eY,jq,this];exact⟨rfl,rfl⟩
theorem zF (L:List Int)(n e:Nat)(h:e<n):(mA L n)[e]'(by rw[jX];exact h)=(xk ((kD (L.getD (e*2) 0).toNat).getD []),L.getD (e*2+1) 0):=by simp[mA]
theorem Tryz.info_entry:(prog.info? 99).map (λi=>(i.zero,i.size,i.bytes))=some (some (.agg #[.string ⟨#[]⟩,(0:Int)]),2,24):=by kernel_rfl
theorem Uc (n:Nat)(W:n<=100000)(m:Int)(U:m=(n:Int))(w:World):(Instr.makeSlice 30 (.int .i64 m) (.int .i64 m)).run prog w=
  .ok (.slice w.heap.size n n) (w.alloc (.cells (madeCells #[.string ⟨#[]⟩,(0:Int)] (n*2)) 99)):=by
 subst U;obtain⟨J,V,z,h,G⟩:=df Tryz.info_entry;have :=run_make (P:= prog) w 30 99 J _ underlying30 V z .i64 .i64 (n:Int) (n:Int) (by omega) (by omega) (by rw[G];omega) (by omega);rw[h,aF] at this;exact this
theorem DV (n:Nat):(madeCells #[Value.string ⟨#[]⟩,Value.int .i64 0] (n*2)).toList=fc (List.replicate n (ByteArray.empty,0)):=by
 apply cG;intro j;simp only[madeCells,Array.toList_map,Array.toList_range,bO];by_cases G:j<n*2
 ·rw[cU G]
  have z:=qc (List.replicate n (ByteArray.empty,(0:Int))) (j/2) (by simp;omega);have J:eY (List.replicate n (ByteArray.empty,(0:Int))) (j/2)=ByteArray.empty:=by
   simp[eY,bB];split<;>rfl
  have U:jq (List.replicate n (ByteArray.empty,(0:Int))) (j/2)=0:=by
   simp[jq,bB];split<;>rfl
  rw[J,U] at z;rcases (show j%2=0\/j%2=1 by omega) with h|h
  ·rw[show j/2*2=j by omega] at z
   rw[z.1];simp[h];rfl
  ·rw[show j/2*2+1=j by omega] at z
   rw[z.2];simp[h]
 ·rw[aZ (by simpa using G),aZ (by rw[lI,bJ];omega)];rfl
theorem Ud (w:World)(n:Nat)(z:n<=100000):fw (w.alloc (.cells (madeCells #[.string ⟨#[]⟩,(0:Int)] (n*2)) 99)) (.slice w.heap.size n n) w.heap.size 99 2 n (fc (List.replicate n (ByteArray.empty,0))):=by
 have h:(madeCells #[Value.string ⟨#[]⟩,Value.int .i64 0] (n*2)).size=n*2:=by rw[<-dK,DV,lI,bJ]
 refine⟨by rw[lI,bJ],_,n,rfl,aI _,by unfold maxLen;omega,λ_=>⟨rfl,_,bc.new _ _ _,h,?_⟩⟩;rw[DV,aW (by rw[lI,bJ];omega)]
theorem Qj (l:List (ByteArray×Int))(a:ByteArray)(x:Int):∀k,((fc l).set (k*2) (.string a)).set (k*2+1) (.int .i64 x)=fc (l.set k (a,x)):=by
 induction l with
 |nil=>intro k;rfl
 |cons p l ih=>
  intro k;have h:∀(p:ByteArray×Int) l,fc (p::l)= .string p.1:: .int .i64 p.2::fc l:=λ_ _=>rfl
  cases k with
  |zero=>rfl
  |succ k=>rw[h,ai,h,<-ih k,show(k+1)*2=k*2+1+1 by omega];rfl
theorem fw.ent{l:List (ByteArray×Int)}(h:fw w v g T 2 n (fc l))(k:Nat)(a:ByteArray)(x:Int):
  fw ((w.setCell ⟨g,k*2,none⟩ (.string a)).setCell ⟨g,k*2+1,none⟩ (.int .i64 x)) v g T 2 n (fc (l.set k (a,x))):=by
 have :=(h.set (k*2) (.string a)).set (k*2+1) (.int .i64 x);rw[Qj] at this;exact this
def oI (w:World) (L:List Int) (n:Nat) (e:Ending) (w':World):Prop:=
 (∃g,e= .returned (.tuple #[.slice (g:Nat) n n,true])/\fw w' (.slice (g:Nat) n n) g 99 2 n (fc (mA L n))/\w.heap.size<=g/\qD L n/\ay [] w w')\/
 (e= .returned (.tuple #[(),false])/\¬qD L n/\ay [] w w')
theorem xc{L:List Int}(h:Reads w v g (aX L))(hL:L.length<=1000)(n:Nat)(hn:n=L.length/2)(af:∀k,0<=L.getD k 0/\L.getD k 0<18446744073709551616):
  Calls prog 205 #[v] w (oI w L n):=by
 obtain⟨a,cap,rfl,h1,h2,HC⟩:=il h;have H:=ar h;have hq:((L.length:Int)).tdiv 2=(n:Int):=by rw[hn,Int.ofNat_tdiv];rfl
 have ak:=Uc n (by omega) (n:Int) rfl w;have ah:Hid (fw (w.alloc (.cells (madeCells #[.string ⟨#[]⟩,(0:Int)] (n*2)) 99)) (.slice w.heap.size n n) w.heap.size 99 2 n (fc (eH (ByteArray.empty,0) (mA L n) 0))):=by
  have :=Ud w n (by omega);rw[l8,jX];exact this
 have fG:Hid (ay [] w (w.alloc (.cells (madeCells #[.string ⟨#[]⟩,(0:Int)] (n*2)) 99))):=(ay.refl _ _).alloc _;have rJ:Hid (2*n<=L.length):=by show _<=_;omega
 have aD:n<=500:=by omega
 have uM:=ar af;generalize hm:L.length=m at *;clear h af hn hL hm;generalize madeCells #[Value.string ⟨#[]⟩,Value.int .i64 0] (n*2)=MC at *;go_in;go_wp2_with fail;clear ak;go_loopg [15] n (λgh s15 wx=>∃k:Nat,k+gh=n/\s15= .int .i64 (k:Int)/\Hid (fw wx (.slice w.heap.size n n) w.heap.size 99 2 n (fc (eH (ByteArray.empty,0) (mA L n) k))/\(∀j,j<k->(kD (L.getD (j*2) 0).toNat).isSome=true/\L.getD (j*2+1) 0<32)/\ay [] w wx))
 case atStart=>exact⟨0,by omega,rfl,ah.out,λj hj=>by omega,fG.out⟩
 case round=>
  clear ah fG;obtain⟨k,hk,rfl,HP⟩:=hrel;cases gk with
  |zero=>
   obtain rfl:k=n:=by omega
   have HM:Hid (oI w L k (.returned (.tuple #[.slice w.heap.size k k,true])) wr):=by
    obtain⟨ho,hj,gD⟩:=HP.out;have e:=nj (ByteArray.empty,(0:Int)) (mA L k);rw[jX] at e;rw[e] at ho;exact .inl ⟨_,rfl,ho,aI _,hj,gD⟩
   clear HP hk;go_wp2;go_ret2;exact HM.out
  |succ gk=>
   have G:k<n:=by omega
   have aC:(k:Int)<(n:Int):=by omega
   have cM:(0:Int)<=(k:Int):=by omega
   obtain⟨ho,U,gD⟩:=HP.out;obtain⟨xj,jD,au⟩:=hh3 U gD ho;obtain⟨ai,off,rfl,c0⟩:=HC.out (2*k) (by have :=rJ.out;omega);obtain⟨-,ax,av,c1⟩:=HC.out (2*k+1) (by have :=rJ.out;omega);cases av;have d0:=(aO (w:=w) (a:=⟨g,off+2*k,none⟩) (gD.block g ai (by simp))).trans c0;have ac:Hid (∀wx,ay [] wr wx->wx.cell? ⟨g,off+(2*k+1),none⟩=some (.int .u64 (L.getD (k*2+1) 0))):=λwx ag=>by
    have :=(aO (w:=w) (a:=⟨g,off+(2*k+1),none⟩) ((gD.trans' ag).block g ai (by simp))).trans c1;rw[this,Nat.mul_comm 2 k]
   have hW:=uM.out (2*k);have hI:=uM.out (k*2+1);obtain⟨W,aa⟩:∃W:Nat,L.getD (2*k) 0=(W:Int):=⟨(L.getD (2*k) 0).toNat,by omega⟩;rw[aa] at d0;have HW:Hid ((L.getD (k*2) 0).toNat=W):=by show _=_;rw[Nat.mul_comm k 2,aa];omega
   have AU:=ar (abu W wr);have FW:2*(k:Int)+1<(m:Int):=by have :=rJ.out;omega
   have ag:2*(k:Int)<(m:Int):=by have :=rJ.out;omega
   have JD:=ar (zF L n k G);rw[HW.out] at JD;have aA:=hI.2;have aB:=hI.1;clear c0 c1 hW hI HP ho U gD aa;generalize ae:L.getD (k*2+1) 0=ino at *;have Ue:=ar ae;clear ae;generalize aj:(kD W).isSome=Ez at *;have XV:=ar aj;clear aj;generalize xk ((kD W).getD [])=nm at *;have jT:Hid (¬(Ez=true/\ino<32)->¬qD L n):=λh hh=>by
    have :=hh k G;rw[HW.out,XV.out,Ue.out] at this;exact h this
   cases Ez
   ·have HN:Hid (¬qD L n):=jT.out (by simp)
    go_wp2_with fail;refine Rr AU.out λw6 z=> ?_;have d1:=ac.out w6 z;have tT:=ar (jD.out.trans' z);clear z;go_wp2;go_ret2;exact .inr ⟨rfl,HN.out,tT.out⟩
   ·by_cases jr:32<=ino
    ·have HN:Hid (¬qD L n):=jT.out λh=>by have :=h.2;omega
     go_wp2_with fail;refine Rr AU.out λw6 z=> ?_;have d1:=ac.out w6 z;have tT:=ar (jD.out.trans' z);clear z;go_wp2;go_ret2;exact .inr ⟨rfl,HN.out,tT.out⟩
    ·have az:wrap64 ino=ino:=by unfold wrap64;omega
     have J:(eH (ByteArray.empty,(0:Int)) (mA L n) k).length=n:=by rw[mg _ _ _ (by rw[jX];omega),jX]
     go_wp2_with fail;refine Rr AU.out λw6 z=> ?_;have d1:=ac.out w6 z;have rX:=ar (jD.out.trans' z);have V:=au.out.keepIf z (λ_=>by simp);obtain⟨-,-,hc,hf⟩:=V.cell (by omega);have e0:=(hc (k*2) (by omega)).trans (qc (eH (ByteArray.empty,0) (mA L n) k) k (by rw[J];exact G)).1;have e1:=(hc (k*2+1) (by omega)).trans (qc (eH (ByteArray.empty,0) (mA L n) k) k (by rw[J];exact G)).2;have f0:=hf (k*2);have f1:=hf (k*2+1);obtain⟨HE,HP⟩:=hh2 (l9 (ByteArray.empty,(0:Int)) (mA L n) k (by rw[jX];exact G) (nm,ino) JD.out) (V.ent k nm ino);have FX:Hid (∀j,j<k+1->(kD (L.getD (j*2) 0).toNat).isSome=true/\L.getD (j*2+1) 0<32):=λj hj=>by
      by_cases e:j=k
      ·subst e
       rw[HW.out,XV.out,Ue.out];exact⟨rfl,by omega⟩
      ·exact xj.out j (by omega)
     clear z V hc hf J jT;generalize eY (eH (ByteArray.empty,(0:Int)) (mA L n) k) k=o1,jq (eH (ByteArray.empty,(0:Int)) (mA L n) k) k=o2 at *;go_wp2;go_roundg gk;case measure=>omega
     case rel=>
      refine⟨k+1,by omega,by go_num,?_,FX.out,(rX.out.setCell (.inr (aI _)) _).setCell (.inr (aI _)) _⟩;rw[<-HE.out];exact HP.out
def Qk (l:List Nat):List Value:=l.map λn:Nat=>Value.int .u64 (n:Int)
theorem M4 (l:List Nat):(Qk l).length=l.length:=by simp[Qk]
theorem XW{l:List Nat}(h:j<l.length):(Qk l)[j]? =some (.int .u64 (l.getD j 0:Nat)):=by simp[Qk,h]
theorem xd{β:Type}(f:β->Nat->β)(l:List Nat)(h:β)(k:Nat)(z:k<l.length):(l.take (k+1)).foldl f h=f ((l.take k).foldl f h) (l.getD k 0):=by
 rw[bR z,List.foldl_append];simp[z]
theorem abv{c:Nat}(z:h<4294967296)(G:c<256):bits .xor .u32 (h:Int) (c:Int)*16777619%4294967296=((fnv h c:Nat):Int):=by
 rw[u32_xor_nat h c z (by omega),fnv];rfl
theorem XX{gb:Nat}{xs:List Nat}(h:Reads w v gb (Qk xs)):
  Calls prog 134 #[v] w λe w'=>e= .returned (.int .u32 (Mj xs:Nat))/\ay [] w w':=by
 obtain⟨a,cap,rfl,h1,h2,h3⟩:=h;rw[M4] at *;unfold maxLen at h2;have H3:Hid (∀k,k<xs.length->gb<w.heap.size/\∃off,a=some ⟨gb,off,none⟩/\w.cell? ⟨gb,off+k,none⟩=some (.int .u64 (xs.getD k 0:Nat))):=λk hk=>by
  obtain⟨hg,off,ho,J⟩:=h3 (by intro e;have :=cP List.length e;rw[M4,cD] at this;omega);exact⟨hg,off,ho,(J k hk).trans (XW hk)⟩
 clear h3;go_in;go_wp2_with fail;go_loopg [3,10] xs.length (λg s3 XA V=>∃k:Nat,k+g=xs.length/\XA= .int .i64 (k:Int)/\s3= .int .u32 (((xs.take k).foldl TD 2166136261:Nat):Int)/\Hid (ay [] w V))
 case atStart=>exact⟨0,by omega,rfl,rfl,ay.refl _ _⟩
 case round=>
  obtain⟨k,hk,rfl,rfl,HK⟩:=hrel;cases gk with
  |zero=>
   obtain rfl:k=xs.length:=by omega
   have W:¬(xs.length:Int)<(xs.length:Int):=by omega
   rw[aW (aI _)];go_wp2;go_ret;exact⟨rfl,HK.out⟩
  |succ g=>
   have W:(k:Int)<(xs.length:Int):=by omega
   obtain⟨hg,off,rfl,J⟩:=H3.out k (by omega);have U:wr.cell? ⟨gb,off+k,none⟩=some (.int .u64 (xs.getD k 0:Nat)):=by
    rw[aO (w:=w) (HK.out.block gb hg (by simp))];exact J
   have hh:=zA (xs.take k) 2166136261 (by decide);have HT:=ar (xd TD xs 2166136261 k (by omega));generalize (xs.take k).foldl TD 2166136261=h,xs.getD k 0=x at *;have HB:=ar (A8 x wr);clear J;go_wp2_with(go_at_call 154;refine Rr HB.out λw2 G=> ?_;have fC:=ar (HK.out.trans G);clear G);obtain⟨wo,rfl⟩:∃wo:World,wo=wr:=⟨_,rfl⟩;clear U;go_loopg [3,16] 8 (λg2 s3 s16 V=>∃z:Nat,z+g2=8/\s16= .int .i64 (z:Int)/\s3= .int .u32 ((((lO x).take z).foldl fnv h:Nat):Int)/\V=w2)
   case atStart=>exact⟨0,by omega,rfl,rfl,rfl⟩
   case round=>
    obtain⟨z,G,rfl,rfl,rfl⟩:=hrel;cases gk with
    |zero=>
     obtain rfl:z=8:=by omega
     rw[aW (by rw[mr];omega)];go_wp2;go_roundg g;case measure=>omega
     case rel=>exact⟨k+1,by omega,by go_num,by rw[HT.out];rfl,fC.out⟩
    |succ g2=>
     have Ql:(z:Int)<8:=by omega
     have Ib:=DK (lO x) (mr x) z (by omega);have aa:=ar (xd fnv (lO x) h z (by rw[mr];omega));have ac:=AO ((lO x).take z) h hh;have ae:(lO x).getD z 0<256:=by rw[uH x z (by omega)];exact B0 _ _
     generalize ((lO x).take z).foldl fnv h=h',(lO x).getD z 0=c at *;have HF:=ar (abv ac ae);go_wp2;go_roundg g2;case measure=>omega
     case rel=>
      refine⟨z+1,by omega,by go_num,?_,rfl⟩;rw[aa.out,HF.out]
def rP (l:List Nat):Nat:=if ig l=true then Mj [sH l]%4 else 0
theorem Uf (s:ByteArray)(hs:s.size<=9223372036854775807)(w:World):Calls prog 231 #[.string s] w λe w'=>e= .returned (.int .i64 (rP (bl s):Nat))/\ay [] w w':=by
 have z:=KP s hs w;unfold kS at z;unfold rP;have z:=ar z;cases hg:ig (bl s)
 ·rw[hg,aA (by simp)] at z
  rw[aA (by simp)];clear hg;go_in;go_wp2_with(go_at_call 222;refine Rr z.out λG h=> ?_;have U:=ar h;clear h);go_ret;exact⟨rfl,U.out⟩
 ·rw[hg,aB rfl] at z
  rw[aB rfl];clear hg;generalize sH (bl s)=W at *;have hq:=Kz [W];have V:=λ(G:World)=>XX (w:=G.alloc (.cells #[.int .u64 (W:Int)] 70)) (v:= .slice G.heap.size 1 1) (gb:=G.heap.size) (xs:=[W])
   (fw.reads (T:= 70) (n:=1) ⟨rfl,_,1,rfl,aI _,by unfold maxLen;omega,λ_=>⟨rfl,_,bc.new _ _ _,rfl,rfl⟩⟩)
  have V:=ar V;generalize Mj [W]=q at *;go_in;go_wp2_with(first|(go_at_call 222;refine Rr z.out λG h=> ?_;have U:=ar h;clear h)|(go_at_call 134;refine Rr (V.out _) λw2 J=> ?_;have fC:=ar J;clear J));go_ret;exact⟨rfl,(U.out.alloc _).trans fC.out⟩
def KV (p:ByteArray×Int):Nat:=rP (bl p.1)
theorem Qm (p:ByteArray×Int):KV p<4:=by
 unfold KV rP;split
 ·exact ij _ (by decide)
 ·decide
def eD (E:List (ByteArray×Int)) (b:Nat):List (ByteArray×Int):=E.filter λp=>KV p==b
theorem Ug (E:List (ByteArray×Int))(p:ByteArray×Int)(b:Nat):eD (E++[p]) b=if b=KV p then eD E b++[p] else eD E b:=by
 unfold eD;rw[dZ];by_cases h:b=KV p
 ·subst h;simp
 ·have :(KV p==b)=false:=by simp;omega
  simp[this,h]
theorem kv (E:List (ByteArray×Int))(b:Nat):(eD E b).length<=E.length:=fe _ _
structure Four (w:World) (base:Nat) (S:Nat->Value) (F:Nat->List (ByteArray×Int)):Prop where
 row:∀b,b<4->w.ownsRow base 99 2 (S b) (F b).length (fc (F b))
 ne:∀b c,b<4->c<4->b≠c->∀g,(S b).ownBlock=some g->(S c).ownBlock≠some g
def pk (S:Nat->Value):Array Value:= #[S 0,S 1,S 2,S 3]
theorem JE (S:Nat->Value){q:Nat}(h:q<4):(pk S)[q]? =some (S q):=by
 rcases (show q=0\/q=1\/q=2\/q=3 by omega) with rfl|rfl|rfl|rfl<;>rfl
theorem Uh (S:Nat->Value){q:Nat}(h:q<4)(v:Value):(pk S).setIfInBounds q v=pk λb=>if b=q then v else S b:=by
 rcases (show q=0\/q=1\/q=2\/q=3 by omega) with rfl|rfl|rfl|rfl<;>rfl
theorem Four.keep(h:Four w z S F){l:List Nat}(J:ay l w w')(U:∀x,x∈l->x<z:=by simp):Four w' z S F:=
 ⟨λb G=>ey (h.row b G) J λg V W=>by have :=dO (h.row b G) g V;have :=U g W;omega,h.ne⟩
theorem Four.nil(w:World)(h:Nat):Four w h (λ_=> .slice none 0 0) λ_=>[]:=
 ⟨λ_ _=>⟨rfl,.inl ⟨rfl,rfl⟩⟩,λ_ _ _ _ _ g z=>by cases z⟩
theorem Ac{sz:Nat}{xs:List Value}(h:w.ownsRow z T sz v n xs):∀k,v.ownBlock=some k->k<w.heap.size:=by
 intro k G;obtain⟨-,U⟩:=h;rcases U with ⟨J,-⟩|⟨g2,cap,W,J,-,V,-⟩
 ·rw[J] at G;cases G
 ·rw[J] at G
  cases G;exact(Array.getElem?_eq_some_iff.1 V).1
theorem Four.grow(h:Four w z S F){q:Nat}(hq:q<4){v:Value}{p:ByteArray×Int}{g:Nat}
  (aa:w'.ownsRow z 99 2 v ((F q).length+1) (fc (F q++[p]))) (U:w.grownBy w' (S q).ownBlock) (hv:v.ownBlock=some g) (ae:(S q).ownBlock=some g\/g=w.heap.size):
  Four w' z (λb=>if b=q then v else S b) λb=>if b=q then F b++[p] else F b:=by
 refine⟨λb J=> ?_,λb c J hc af x hx=> ?_⟩
 ·show w'.ownsRow z _ 2 (if b=q then v else S b) (if b=q then F b++[p] else F b).length (fc (if b=q then F b++[p] else F b))
  by_cases e:b=q
  ·subst e
   rw[aB rfl,aB rfl,aC];exact aa
  ·rw[aA e,aA e]
   obtain⟨h0,h1⟩:=h.row b J;refine⟨h0,?_⟩;rcases h1 with ⟨e1,V⟩|⟨g2,cap,ac,e1,V,hh,e3⟩
   ·exact .inl ⟨e1,V⟩
   ·refine .inr ⟨g2,cap,ac,e1,V,?_,e3⟩
    rw[<-hh];refine U.block g2 (Array.getElem?_eq_some_iff.1 hh).1 λe4=> ?_
    exact h.ne b q J hq e g2 (by rw[e1];rfl) e4.symm
 ·have W:∀b,b<4->b≠q->(S b).ownBlock≠some g:=λb J ag hx=>by
   rcases ae with h1|h1
   ·exact h.ne b q J hq ag g hx h1
   ·have :=Ac (h.row b J) g hx
    omega
  show(if c=q then v else S c).ownBlock≠some x;have G:(if b=q then v else S b).ownBlock=some x:=hx;by_cases e:b=q
  ·rw[aB e,hv] at G
   cases G;rw[aA];exact W c hc (by omega)
  ·rw[aA e] at G
   by_cases V:c=q
   ·rw[aB V,hv]
    intro h3;cases h3;exact W b J e G
   ·rw[aA V]
    exact h.ne b c J hc af x G
theorem Ui (w:World):(zeroValue 259).run prog w= .ok (.agg (pk λ_=> .slice none 0 0)) w:=by kernel_rfl
theorem JF:(prog.info? 259).map (·.size)=some 4:=by kernel_rfl
theorem JG (h:bc w g (pk S) T):(loadVar 259 g).run prog w= .ok (.agg (pk S)) w:=
 bX g 0 [S 0,S 1,S 2,S 3] underlying259 rfl JF λj z=>by
  rw[h.cell,bp];unfold pk;rw[aG]
theorem M5{V wa U:World}{Z4:Array Value}{q m J:Nat}{p:ByteArray×Int}(G:ay [] V wa)(ae:wa.heap.size=V.heap.size+1)
  (hf:Four V (w.heap.size+2) S (eD (E.take j))) (ac:bc V (w.heap.size+1) (pk S) 259) (W:bc V w.heap.size Z4 259) (gD:ay [] w V) (hq:q<4)
  (hm:(eD (E.take j) q).length=m) (aa:U.ownsRow (w.heap.size+2) 99 2 (.slice J (m+1) h) (m+1) (fc (eD (E.take j) q)++[.string p.1,.int .i64 p.2]))
  (z:wa.grownBy U (S q).ownBlock) (af:(S q).ownBlock=some J\/J=V.heap.size+1) (ag:∀b,eD (E.take (j+1)) b=if b=q then eD (E.take j) b++[p] else eD (E.take j) b):
  ∃S',bc (U.setCell ⟨w.heap.size+1,q,none⟩ (.slice J (m+1) h)) (w.heap.size+1) (pk S') 259/\bc (U.setCell ⟨w.heap.size+1,q,none⟩ (.slice J (m+1) h)) w.heap.size Z4 259/\
   Four (U.setCell ⟨w.heap.size+1,q,none⟩ (.slice J (m+1) h)) (w.heap.size+2) S' (eD (E.take (j+1)))/\ay [] w (U.setCell ⟨w.heap.size+1,q,none⟩ (.slice J (m+1) h)):=by
 have ah:=hf.keep G;have xD:∀k,(S q).ownBlock=some k->w.heap.size+2<=k:=dO (hf.row q hq);have FY:=(z.block (w.heap.size+1) (ac.keep G).lt (λe=>by have :=xD _ e.symm;omega)).trans (ac.keep G);have ai:=(z.block w.heap.size (W.keep G).lt (λe=>by have :=xD _ e.symm;omega)).trans (W.keep G);have hF:=ah.grow (p:=p) (v:= .slice J (m+1) h) (g:=J) hq (by rw[hm,qA];exact aa) z rfl (by rw[ae];exact af);have hS:(λb=>if b=q then eD (E.take j) b++[p] else eD (E.take j) b)=eD (E.take (j+1)):=by
  funext b
  exact(ag b).symm
 rw[hS] at hF;refine⟨_,?_,bc.other ai (by simp) _,hF.keep ((ay.refl [w.heap.size+1] U).setCell (p:=⟨w.heap.size+1,q,none⟩) (.inl (by simp)) _) (by intro x hx;rw[au] at hx;omega),?_⟩
 ·have :=bc.set FY q (.slice J (m+1) h)
  rw[Uh S hq] at this;exact this
 ·exact((gD.trans' G).grown z (λk hk=>by have :=xD k hk;omega)).setCell (.inr (by show w.heap.size<=w.heap.size+1;omega)) _
def vZ (w:World) (E:List (ByteArray×Int)) (e:Ending) (w':World):Prop:=
 ∃S:Nat->Value,e=pk S/\ay [] w w'/\∀b,b<4->∃g,bD w' (S b) g (eD E b)/\w.heap.size<=g
theorem JH (hE:bD w v g E)(bg:E.length<=10000)(ak:∀k,k<E.length->(eY E k).size<=9223372036854775807):
  Calls prog 211 #[v] w (vZ w E):=by
 obtain⟨a,cap,rfl,bf,av,zr⟩:=hE.open;unfold maxLen at av;obtain⟨i0,hi,aP,aZ,aU⟩:=df Tryz.info_entry;have aA:=Ui;obtain⟨G,af⟩:∃G,G=pk λ_=> .slice none 0 0:=⟨_,rfl⟩
 rw[<-af] at aA;have aF:=ar af;clear af;have qC:Hid (bc ((w.alloc (.cells G 259)).alloc (.cells G 259)) (w.heap.size+1) G 259):=by
  have :=bc.new (w.alloc (.cells G 259)) G 259;have e:(w.alloc (.cells G 259)).heap.size=w.heap.size+1:=by simp
  rw[e] at this;exact this
 have oD:Hid (bc ((w.alloc (.cells G 259)).alloc (.cells G 259)) w.heap.size G 259):=(bc.new w _ _).alloc _;have fG:Hid (ay [] w ((w.alloc (.cells G 259)).alloc (.cells G 259))):=((ay.refl _ _).alloc _).alloc _;have HW:Hid (∀j,j<E.length->∀wx,Calls prog 231 #[.string (eY E j)] wx λe w'=>e= .returned (.int .i64 (rP (bl (eY E j)):Nat))/\ay [] wx w'):=λj hj wx=>Uf _ (ak j hj) wx
 have aV:Hid (∀j,j<E.length->E.take (j+1)=E.take j++[(eY E j,jq E j)]):=λj hj=>FV E j hj
 have Cx:Hid (∀j b,(eD (E.take j) b).length<=E.length):=λj b=>cL (kv _ _) (by rw[aJ];omega)
 have Ey:Hid (E.take E.length=E):=gi;clear hE ak;generalize hn:E.length=n at *;clear hn;go_in;go_wp2_with fail;clear aA;go_loopg [9] n (λgh s9 wx=>∃(j:Nat) (S:Nat->Value),j+gh=n/\s9= .int .i64 (j:Int)/\Hid (bc wx (w.heap.size+1) (pk S) 259/\bc wx w.heap.size G 259/\Four wx (w.heap.size+2) S (eD (E.take j))/\ay [] w wx))
 case atStart=>
  refine⟨0,λ_=> .slice none 0 0,by omega,rfl,?_,oD.out,?_,fG.out⟩
  ·rw[<-aF.out];exact qC.out
  ·have :eD (E.take 0)=λ_=>[]:=by funext b;rfl
   rw[this];exact Four.nil _ _
 case round=>
  clear oD qC fG;obtain⟨j,S,hj,rfl,HP⟩:=hrel;cases gk with
  |zero=>
   obtain rfl:j=n:=by omega
   obtain⟨U,V,hf,gD⟩:=HP.out;have HL:=ar (JG U);have aQ:G.size=4:=by rw[aF.out];rfl
   obtain⟨w2,hS,aB,ai⟩:=bE (P:= prog) (ty:= 259) (cs:=[S 0,S 1,S 2,S 3]) JF V (by rw[aQ];rfl) (λu hu=>by
    simp only[aM,aK,bC] at hu;rcases hu with rfl|rfl|rfl|rfl
    ·obtain⟨a,c,h,-⟩:=iT (hf.row 0 (by omega));rw[h];rfl
    ·obtain⟨a,c,h,-⟩:=iT (hf.row 1 (by omega));rw[h];rfl
    ·obtain⟨a,c,h,-⟩:=iT (hf.row 2 (by omega));rw[h];rfl
    ·obtain⟨a,c,h,-⟩:=iT (hf.row 3 (by omega));rw[h];rfl)
   have HS:Hid ((storeVar 259 w.heap.size (.agg (pk S))).run prog wr= .ok () w2):=hS;have rJ:Hid ((loadVar 259 w.heap.size).run prog w2= .ok (.agg (pk S)) w2):=JG (S:=S) aB;have HM:Hid (vZ w E (.returned (pk S)) w2):=by
    refine⟨S,rfl,gD.trans ai,λb hb=> ?_⟩;have hr:=ey (hf.row b hb) ai (λg hg hm=>by
     have :=dO (hf.row b hb) g hg;rw[au] at hm;omega)
    rw[Ey.out] at hr;obtain⟨g,ho,hg⟩:=fw.of_row hr;by_cases h0:(eD E b).length=0
    ·exact⟨w.heap.size,(ho.ereads rfl).anyG h0 _,aI _⟩
    ·exact⟨g,ho.ereads rfl,by have :=(hg h0).1;omega⟩
   clear HP hj U V hf gD hS aB ai;go_wp2_with(with_reducible first|refine gL 259 HL.out ?_|refine gS 259 HS.out ?_);exact aH (bu results211 rfl rJ.out) rfl HM.out
  |succ gk=>
   have ag:j<n:=by omega
   have bn:(j:Int)<(n:Int):=by omega
   have Co:(0:Int)<=(j:Int):=by omega
   obtain⟨aL,off,rfl,e0,e1⟩:=zr.out j ag;obtain⟨U,V,hf,gD⟩:=HP.out;obtain⟨qC,oD,HF,jD⟩:=hh4 U V hf gD;have c0:=(aO (w:=w) (a:=⟨g,off+j*2,none⟩) (gD.block g aL (by simp))).trans e0;have c1:=(aO (w:=w) (a:=⟨g,off+j*2+1,none⟩) (gD.block g aL (by simp))).trans e1;have aX:=ar (HW.out j ag);have M0:Hid (∀b,eD (E.take (j+1)) b=if b=KV (eY E j,jq E j) then eD (E.take j) b++[(eY E j,jq E j)] else eD (E.take j) b):=λb=>by rw[aV.out j ag,Ug]
   have ac:rP (bl (eY E j))<4:=Qm (eY E j,jq E j);have aD:KV (eY E j,jq E j)=rP (bl (eY E j)):=rfl;have bp:w.heap.size+1<wr.heap.size:=U.lt;rw[aD] at M0;clear e0 e1 HP U V hf gD aD;generalize eY E j=nm,jq E j=ino at *;generalize rP (bl nm)=q at *;go_wp2_with fail;refine Rr (aX.out _) λJ ah=> ?_;have Qi:=(bc.new wr #[.string nm,ino] 99).keep ah;have IC:Hid (ay [] wr J):=((ay.refl [] wr).alloc (.cells #[.string nm,ino] 99)).trans' ah;obtain⟨aC,ae,aT⟩:=hh3 (HF.out.keep IC.out) (qC.out.keep IC.out) (oD.out.keep IC.out);have bj:w.heap.size+2<=J.heap.size:=by have :=IC.out.size;omega
   have d0:∀o,(J.alloc o).drew.cell? wr.heap.size=some (.string nm):=λo=>by rw[(Qi.alloc o).drew.cell];rfl
   have d1:∀o,(J.alloc o).drew.cell? ⟨wr.heap.size,1,none⟩=some (.int .i64 ino):=λo=>by rw[(Qi.alloc o).drew.cell];rfl
   have bk:J.cell? wr.heap.size=some (.string nm):=by rw[Qi.cell];rfl
   have bh:J.cell? ⟨wr.heap.size,1,none⟩=some (.int .i64 ino):=by rw[Qi.cell];rfl
   have aa:=aC.out.row q ac;obtain⟨aq,cq,aY,q1,q2⟩:=iT aa;have bq:J.cell? ⟨w.heap.size+1,q,none⟩=some (S q):=by rw[ae.out.cell,JE S ac]
   have aN:∀o,(J.alloc o).drew.cell? ⟨w.heap.size+1,q,none⟩=some (S q):=λo=>by rw[(ae.out.alloc o).drew.cell,JE S ac]
   have aS:∀o,(J.alloc o).drew.frozen? ⟨w.heap.size+1,q,none⟩=false:=λo=>(ae.out.alloc o).drew.frozen _
   have bo:(0:Int)<=(q:Int):=by omega
   have br:(q:Int)<4:=by omega
   have L8:=Cx.out j q;obtain⟨mZ,ba⟩:=hh2 aa (jD.out.trans' IC.out);clear aa ah Qi;generalize ax:S q=sq at *;subst aY;have aj:=ar ax;clear ax;generalize hm:(eD (E.take j) q).length=m at *;have HM:=ar hm;clear hm;unfold maxLen at q2;have aG:(Value.slice aq m cq).ownBlock≠some (w.heap.size+1):=λe=>by have :=dO mZ.out _ e;omega
   go_wp2_with fail
   go_region_law ((refine step_append_lies _ (by rfl) _ _ _ (by rfl) (w.heap.size+2) 99 i0 _ 2 24 underlying30 hi aP aZ aU rfl (by omega) (.slice aq m cq) m _ (by rfl) ((mZ.out.alloc _).drew) ⟨J.heap.size,0,none⟩ 1 1 [.string nm,.int .i64 ino] (by rfl) (by rfl) (lu J [_,_] _ _ rfl) (by simp[Value.oneCell']) (by omega) (by unfold maxLen;omega) (by omega) (by simp;omega) (J.heap.size+1) (by simp) ?_;intro Fz bb w2 W z az Ql;have aW:=(z.cell_far ⟨w.heap.size+1,q,none⟩ (by simp;omega) (cV aG)).trans (aN _);have aR:=(z.frozen_far ⟨w.heap.size+1,q,none⟩ (by simp;omega) (cV aG)).trans (aS _)))
   all_goals
    have HN:=ar (M5 (wa:=(J.alloc (.cells #[.string nm,ino] 99)).drew) (p:=(nm,ino)) (((ay.refl [] J).alloc _).drew) (by simp) aC.out ae.out aT.out ba.out ac HM.out W (by rw[aj.out];exact z) (by rw[aj.out];exact az) M0.out);clear W z az Ql aW aR;go_wp2;go_roundg gk;case measure=>omega
    case rel=>
     obtain⟨S',h1,h2,h3,h4⟩:=HN.out;exact⟨j+1,S',by omega,by go_num,h1,h2,h3,h4⟩
def afL (n:bS):Prop:=n.E.length<=24/\n.S=n.E.length/\n.B=List.replicate 13 0
theorem M6 (n:bS)(v:Value)(g:Nat)(hB:n.B.length=13)(w:World)(hE:bD w v g n.E)(hN:∀k,k<n.E.length->(eY n.E k).size<=9223372036854775807):
  Calls prog 144 #[aL n v] w λe w'=>e=(decide (oW n))/\ay [] w w':=by
 obtain⟨a,cap,rfl,aC,ai,zr⟩:=hE.open;have HN:=ar hN;unfold maxLen at ai;obtain⟨Z,hZ⟩:∃Z,Z=aL n (.slice a n.E.length cap):=⟨_,rfl⟩;have V:Sg Z n (.slice a n.E.length cap):=by rw[hZ];exact fT _ hB
 rw[<-hZ];have U:=bc.new w Z 75;have c3:(w.alloc (.cells Z 75)).cell? ⟨w.heap.size,3,none⟩=some (.int .i64 n.S):=by rw[U.cell];exact V.f3
 have ae:(w.alloc (.cells Z 75)).cell? ⟨w.heap.size,17,none⟩=some (.slice a n.E.length cap):=by rw[U.cell];exact V.f5
 have HK:Hid (ay [] w (w.alloc (.cells Z 75))):=(ay.refl [] w).alloc _;obtain⟨pO,HL⟩:=hh2 U (fy (off:=4) U hB V.f4);have KW:Hid (∀wx:World,bc wx w.heap.size Z 75->wx.cell? ⟨w.heap.size,17,none⟩=some (.slice a n.E.length cap)):=λwx hb=>by rw[hb.cell];exact V.f5
 have Iz:=ar (λwx=>P6 (a:=n.B) (b:=List.replicate 13 0) hB rfl wx);have aG:=Cs;have av:=pd;have G:Hid (oW n↔afL n/\∀k,k<n.E.length->Ev n.E k):=⟨λh=>⟨⟨h.1,h.2.1,h.2.2.1⟩,h.2.2.2⟩,λh=>⟨h.1.1,h.1.2.1,h.1.2.2,h.2⟩⟩;clear U V hZ hB hE hN;by_cases aD:24<n.E.length
 ·have J:Hid (decide (oW n)=false):=aP λh=>by have :=h.1;omega
  clear G HN zr;generalize n.E.length=m at *;have Px:(24:Int)<(m:Int):=by omega
  go_in;go_wp2;go_ret;exact⟨by rw[J.out];rfl,HK.out⟩
 ·by_cases hS:n.S=n.E.length
  ·obtain⟨t,ht⟩:∃t,decide (n.B=List.replicate 13 0)=t:=⟨_,rfl⟩
   rw[ht] at Iz;have az:=Iz.out;rw[hS] at c3;have Px:¬(24:Int)<((n.E.length:Nat):Int):=by omega
   cases t
   ·have J:Hid (decide (oW n)=false):=aP λh=>of_decide_eq_false ht h.2.2.1
    clear G HN zr ht Iz KW;generalize (zs (List.replicate 13 0)).toArray=Z0,(zs n.B).toArray=ZB,n.E.length=m at *;have au:((m:Int) != (m:Int))=false:=by simp
    go_in;go_wp2_with((with_reducible show wpList _ _ _ (⟨_,.load 73 (.tmp 18),_,_,_,_⟩::_) _ _);refine eB (by simp[Region.wanted,yielded]) 73 (.tmp 18) rfl _ rfl _ HL.out ?_);go_ret;exact⟨by rw[J.out];rfl,HK.out⟩
   ·have HA:Hid (afL n):=⟨by omega,hS,of_decide_eq_true ht⟩
    clear ht Iz;generalize (zs (List.replicate 13 0)).toArray=Z0,(zs n.B).toArray=ZB,hm:n.E.length=m at *;go_in;go_wp2_with((with_reducible show wpList _ _ _ (⟨_,.load 73 (.tmp 18),_,_,_,_⟩::_) _ _);refine eB (by simp[Region.wanted,yielded]) 73 (.tmp 18) rfl _ rfl _ HL.out ?_);clear av az HL c3 ae;go_loopg [26] m (λgh s26 wx=>∃k:Nat,k+gh=m/\s26= .int .i64 (k:Int)/\Hid ((∀i,i<k->Ev n.E i)/\ay [] (w.alloc (.cells Z 75)) wx))
    case atStart=>exact⟨0,by omega,rfl,by simp,ay.refl _ _⟩
    case round=>
     obtain⟨k,hk,rfl,HR⟩:=hrel;cases gk with
     |zero=>
      obtain rfl:k=m:=by omega
      have HT:Hid (decide (oW n)=true):=bq (G.out.2 ⟨HA.out,HR.out.1⟩);have jD:=ar (HK.out.trans' HR.out.2);clear HR hk G KW hm;go_wp2;go_ret;exact⟨by rw[HT.out];rfl,jD.out⟩
     |succ gg=>
      have FW:k<m:=by omega
      have aM:(k:Int)<(m:Int):=by omega
      have cM:(0:Int)<=(k:Int):=by omega
      obtain⟨hg,off,rfl,e0,e1⟩:=zr.out k FW;have tV:=HK.out.trans' HR.out.2;have c0:wr.cell? ⟨g,off+k*2,none⟩=some (.string (eY n.E k)):=(aO (w:=w) (a:=⟨g,off+k*2,none⟩) (tV.block g hg (by simp))).trans e0;have c1:wr.cell? ⟨g,off+k*2+1,none⟩=some (.int .i64 (jq n.E k)):=(aO (w:=w) (a:=⟨g,off+k*2+1,none⟩) (tV.block g hg (by simp))).trans e1;have HG:=ar (λwx=>KO (eY n.E k) (HN.out k FW) wx);have W:Hid (Ev n.E k↔ig (bl (eY n.E k))=true/\(0<=jq n.E k/\jq n.E k<=31)/\(0<k->leB (eY n.E k) (eY n.E (k-1))=false)):=Iff.rfl;have jT:Hid (¬Ev n.E k->decide (oW n)=false):=λh=>aP λhd=>h ((G.out.1 hd).2 k FW)
      obtain⟨mK,xj,aj⟩:=hh3 tV HR.out.1 HR.out.2;have ae:=KW.out wr (pO.out.keep HR.out.2);have z:Hid (∀q,k=q+1->wr.cell? ⟨g,off+q*2,none⟩=some (.string (eY n.E q))):=λq hq=>by
       obtain⟨-,aB,ax,f0,-⟩:=zr.out q (by omega);cases ax;exact(aO (w:=w) (a:=⟨g,off+q*2,none⟩) (tV.block g hg (by simp))).trans f0
      clear tV e0 e1 zr G HR KW;generalize aF:eY n.E k=nm,jq n.E k=ino at *;cases hgd:ig (bl nm)
      ·have J:Hid (decide (oW n)=false):=jT.out λh=>by have :=(W.out.1 h).1;rw[hgd] at this;cases this
       rw[hgd] at HG;clear W jT hgd hk z hm;go_wp2_with fail;refine C' (HG.out _) ?_;go_wp2;go_ret;exact⟨by rw[J.out];rfl,mK.out.alloc _⟩
      ·rw[hgd] at HG
       by_cases aS:ino<0
       ·have J:Hid (decide (oW n)=false):=jT.out λh=>by have :=(W.out.1 h).2.1.1;omega
        clear W jT hgd hk z hm;go_wp2_with fail;refine C' (HG.out _) ?_;go_wp2;go_ret;exact⟨by rw[J.out];rfl,mK.out.alloc _⟩
       ·by_cases aI:32<=ino
        ·have J:Hid (decide (oW n)=false):=jT.out λh=>by have :=(W.out.1 h).2.1.2;omega
         clear W jT hgd hk z hm;go_wp2_with fail;refine C' (HG.out _) ?_;go_wp2;go_ret;exact⟨by rw[J.out];rfl,mK.out.alloc _⟩
        ·by_cases ah:k=0
         ·have af:Hid (∀i,i<k+1->Ev n.E i):=λi hi=>by
           obtain rfl:i=k:=by omega
           exact W.out.2 ⟨hgd,⟨by omega,by omega⟩,λh=>absurd h (by omega)⟩
          have aQ:¬(0:Int)<(k:Int):=by omega
          have aA:decide (0<k)=false:=aP (by omega);clear W jT hgd z hm xj ah;go_wp2_with fail;refine C' (HG.out _) ?_;go_wp2_with fail
          go_quiet (fail)
          go_wp2;go_roundg gg;case measure=>omega
          case rel=>exact⟨k+1,by omega,by go_num,af.out,(aj.out.alloc _).drewN _⟩
         ·obtain⟨q,hq⟩:∃q,k=q+1:=⟨k-1,by omega⟩
          have ag:=z.out q hq;have aH:∀o,(wr.alloc o).cell? ⟨g,off+q*2,none⟩=some (.string (eY n.E q)):=λo=>by
           rw[World.cell?_alloc_some _ _ _ (by rw[ag];rfl)];exact ag
          have aR:∀o,(wr.alloc o).cell? ⟨w.heap.size,17,none⟩=some (.slice (some ⟨g,off,none⟩) m cap):=λo=>by
           rw[World.cell?_alloc_some _ _ _ (by rw[ae];rfl)];exact ae
          clear ag;have gD:(0:Int)<(k:Int):=by omega
          have aA:decide (0<k)=true:=bq (by omega);have aK:(k:Int)-1=(q:Int):=by omega
          have aJ:(q:Int)<(m:Int):=by omega
          have aN:(0:Int)<=(q:Int):=by omega
          have aa:∀b,leB nm (eY n.E q)=b->(Op.bytesLess nm.toList (eY n.E q).toList||(nm.toList==(eY n.E q).toList))=b:=λb h=>h
          have ac:Hid (Ev n.E k↔leB nm (eY n.E q)=false):=by
           show _↔_;rw[W.out,show k-1=q by omega];exact⟨λh=>h.2.2 (by omega),λh=>⟨hgd,⟨by omega,by omega⟩,λ_=>h⟩⟩
          generalize eY n.E q=pm at *;cases hle:leB nm pm
          ·have af:Hid (∀i,i<k+1->Ev n.E i):=λi hi=>by
            by_cases e:i=k
            ·subst e;exact ac.out.2 hle
            ·exact xj.out i (by omega)
           have ak:=aa _ hle;clear W ac jT hgd z hm xj ah aa hle hq;go_wp2_with fail;refine C' (HG.out _) ?_;go_wp2_with fail
           go_quiet (fail)
           go_wp2;go_roundg gg;case measure=>omega
           case rel=>exact⟨k+1,by omega,by go_num,af.out,(aj.out.alloc _).drewN _⟩
          ·have J:Hid (decide (oW n)=false):=jT.out λh=>by
            have :=ac.out.1 h;rw[hle] at this;cases this
           have ak:=aa _ hle;clear W ac jT hgd z hm xj ah aa hle hq hk;go_wp2_with fail;refine C' (HG.out _) ?_;go_wp2_with fail
           go_quiet (fail)
           go_wp2;go_ret;exact⟨by rw[J.out];rfl,(mK.out.alloc _).drewN _⟩
  ·have J:Hid (decide (oW n)=false):=aP λh=>hS h.2.1
   have e2:(n.S != ((n.E.length:Nat):Int))=true:=bne_iff_ne.2 hS;have Px:¬(24:Int)<((n.E.length:Nat):Int):=by omega
   clear G HN zr;generalize n.S=s,n.E.length=m at *;go_in;go_wp2;go_ret;exact⟨by rw[J.out];rfl,HK.out⟩
theorem nX (n:bS)(v:Value)(g:Nat)(hB:n.B.length=13)(w:World)(hE:bD w v g n.E)(hN:∀k,k<n.E.length->(eY n.E k).size<=9223372036854775807):
  Calls prog 101 #[aL n v] w λe w'=>e=(decide (cm n))/\ay [] w w':=by
 have ac:Hid (∀J,Calls prog 143 #[aL n v] J λe w'=>e=(decide (qM n))/\ay [] J w'):=λJ=>by
  obtain⟨a,cap,hv,-⟩:=hE;subst hv;exact KU n a cap hB J
 have aa:Hid (∀J,ay [] w J->Calls prog 144 #[aL n v] J λe w'=>e=(decide (oW n))/\ay [] J w'):=λJ hk=>
  M6 n v g hB J (hE.keep hk) hN
 obtain⟨Z,hZ⟩:∃Z,Z=aL n v:=⟨_,rfl⟩;have U:Sg Z n v:=by rw[hZ];exact fT _ hB
 rw[<-hZ] at ac aa ⊢;have G:=bc.new w Z 75;have c0:(w.alloc (.cells Z 75)).cell? w.heap.size=some (.int .i64 n.F):=by rw[G.cell];exact U.f0
 have c1:(w.alloc (.cells Z 75)).cell? ⟨w.heap.size,1,none⟩=some (.int .i64 n.K):=by rw[G.cell];exact U.f1
 have c2:(w.alloc (.cells Z 75)).cell? ⟨w.heap.size,2,none⟩=some (.int .i64 n.L):=by rw[G.cell];exact U.f2
 have HK:Hid (ay [] w (w.alloc (.cells Z 75))):=(ay.refl [] w).alloc _;have HL:Hid ((loadVar 75 w.heap.size).run prog (w.alloc (.cells Z 75))= .ok (.agg Z) (w.alloc (.cells Z 75))):=by
  have :=bZ (n:=n) (v:=v) (by rw[<-hZ];exact G) hB;rw[<-hZ] at this;exact this
 clear G U hZ hE hN hB;by_cases hF:n.F=1\/n.F=2
 ·rcases hF with hF|hF
  all_goals
   rw[hF] at c0;by_cases ae:n.L<0
   ·have W:Hid (decide (cm n)=false):=aP λh=>by have :=h.2.1.1;omega
    generalize n.L=l at *;go_in;go_wp2;go_ret;exact⟨by rw[W.out];rfl,HK.out⟩
   ·by_cases af:65535<n.L
    ·have W:Hid (decide (cm n)=false):=aP λh=>by have :=h.2.1.2;omega
     generalize n.L=l at *;go_in;go_wp2;go_ret;exact⟨by rw[W.out];rfl,HK.out⟩
    ·by_cases Sw:n.K=1
     ·have HQ:Hid (decide (cm n)=decide (qM n)):=decide_eq_decide.2 ⟨λh=>by
       rcases h.2.2 with h|h
       ·exact h.2
       ·omega,λh=>⟨by omega,⟨by omega,by omega⟩,.inl ⟨Sw,h⟩⟩⟩
      rw[Sw] at c1;generalize decide (qM n)=q,n.L=l at *;go_in;go_wp2_with(with_reducible refine gL 75 HL.out ?_);refine Rr (ac.out _) λw1 z=> ?_;have jv:=ar (HK.out.trans' z);clear z;go_wp2;go_ret;exact⟨by rw[HQ.out];rfl,jv.out⟩
     ·by_cases V:n.K=2
      ·have HQ:Hid (decide (cm n)=decide (oW n)):=decide_eq_decide.2 ⟨λh=>by
        rcases h.2.2 with h|h
        ·omega
        ·exact h.2,λh=>⟨by omega,⟨by omega,by omega⟩,.inr ⟨V,h⟩⟩⟩
       rw[V] at c1;generalize decide (oW n)=q,n.L=l at *;go_in;go_wp2_with(with_reducible refine gL 75 HL.out ?_);refine Rr (aa.out _ HK.out) λw1 z=> ?_;have jv:=ar (HK.out.trans' z);clear z;go_wp2;go_ret;exact⟨by rw[HQ.out];rfl,jv.out⟩
      ·have W:Hid (decide (cm n)=false):=aP λh=>by
        rcases h.2.2 with h|h
        ·exact Sw h.1
        ·exact V h.1
       have k1:(n.K==1)=false:=cg.2 Sw;have k2:(n.K==2)=false:=cg.2 V;generalize n.L=l,n.K=kk at *;go_in;go_wp2;go_ret;exact⟨by rw[W.out];rfl,HK.out⟩
 ·have W:Hid (decide (cm n)=false):=aP λh=>hF h.1
  have f1:(n.F != 1)=true:=bne_iff_ne.2 λh=>hF (.inl h)
  have f2:(n.F != 2)=true:=bne_iff_ne.2 λh=>hF (.inr h)
  clear hF;generalize n.F=f at *;go_in;go_wp2;go_ret;exact⟨by rw[W.out];rfl,HK.out⟩
def pn (n:bS):Nat->Nat
 |0=>if 6<(fu n.B).length then 1 else 0
 |k+1=>pn n k+((eD n.E k).length+2)/3
def eQ (n:bS):Nat:=pn n 4
theorem Cy (n:bS)(h:n.E.length<=10000):∀k,pn n k<=1+k*4000
 |0=>by unfold pn;split<;>omega
 |k+1=>by
  unfold pn;have :=Cy n h k;have :=kv n.E k;omega
theorem FZ (S:Nat->Value){k:Nat}(h:k<4)(w:World):(Instr.index 259 (.agg (pk S)) (.int .i64 (k:Int))).run prog w= .ok (S k) w:=by
 rcases (show k=0\/k=1\/k=2\/k=3 by omega) with rfl|rfl|rfl|rfl
 all_goals (show Sem.run _ _ _=_;kernel_rfl)
theorem F3 (n:bS)(v:Value)(g:Nat)(hB:n.B.length=13)(w:World)(hE:bD w v g n.E)(J:n.E.length<=10000)(ac:∀k,k<n.E.length->(eY n.E k).size<=9223372036854775807):
  Calls prog 186 #[aL n v] w λe w'=>e=((if cm n then eQ n else 0:Nat):Int)/\ay [] w w':=by
 have HR:Hid (∀G,ay [] w G->Calls prog 101 #[aL n v] G λe w'=>e=(decide (cm n))/\ay [] G w'):=λG U=>nX n v g hB G (hE.keep U) ac
 have xo:=ar (λG=>KS n.B hB G);have xp:Hid (∀G,ay [] w G->Calls prog 211 #[v] G (vZ G n.E)):=λG U=>JH (hE.keep U) J ac
 have W:=bc.new w (aL n v) 75;have fG:Hid (ay [] w (w.alloc (.cells (aL n v) 75))):=(ay.refl [] w).alloc _;have uP:=ar (bZ W hB);have rW:Hid (∀G,ay [] (w.alloc (.cells (aL n v) 75)) G->(loadVar 73 ⟨w.heap.size,4,none⟩).run prog G= .ok (.agg (zs n.B).toArray) G):=λG U=>fy (off:=4) (W.keep U) hB λk U=>Cr _ (by omega)
 have KW:Hid (∀G,ay [] (w.alloc (.cells (aL n v) 75)) G->G.cell? ⟨w.heap.size,17,none⟩=some v):=λG U=>by rw[(W.keep U).cell];exact Aa _ hB
 have aH:Hid ((fu n.B).length<=13):=mj n.B 13;have av:Hid (∀k,(eD n.E k).length<=10000):=λk=>cL (kv _ _) J
 have ak:=ar (λk=>Cy n J k);have aC:Hid (∀k,pn n (k+1)=pn n k+((eD n.E k).length+2)/3):=λ_=>rfl
 have af:Hid (pn n 0=if 6<(fu n.B).length then 1 else 0):=rfl;clear W hE ac J;generalize aL n v=Z,(zs n.B).toArray=ZB at *;by_cases hR:cm n
 ·rw[bq hR] at HR
  rw[aB hR];clear hR;unfold eQ;generalize fu n.B=R at *;go_in;go_wp2_with(with_reducible refine gL 75 uP.out ?_);refine Rr (HR.out _ fG.out) λw1 V=> ?_;obtain⟨jv,zn⟩:=hh2 V (rW.out w1 V);clear V;go_wp2_with(with_reducible refine gL 73 zn.out ?_);refine(xo.out _).mono ?_;rintro e w2 ⟨va,ga,rfl,JI,xe,ae⟩;obtain⟨aa,ca,rfl,-,-,-⟩:=il JI;have fC:=ar (jv.out.trans' ae);have au:=KW.out w2 fC.out;clear JI xe ae;generalize az:R.length=m at *;have HZ:=af.out;clear az;obtain⟨d,hd⟩:∃d,d=pn n 0:=⟨_,rfl⟩;rw[<-hd] at HZ;have HD:=ar hd;clear hd af;by_cases h6:6<m;rw[aB h6] at HZ;have ah:(6:Int)<(m:Int):=by omega
  rotate_left
  rw[aA h6] at HZ;have ah:¬(6:Int)<(m:Int):=by omega
  rotate_left
  all_goals
   have aD:=ar HZ;clear HZ;go_wp2_with fail;refine(xp.out _ (fG.out.trans' fC.out)).mono ?_;rintro e w3 ⟨S,rfl,aj,hS⟩;have og:=ar (fG.out.trans' (fC.out.trans' aj));have aF:Hid (∀k,k<4->∃a c,S k= .slice a (eD n.E k).length c):=λk U=>by
    obtain⟨g,⟨a,c,h,-⟩,-⟩:=hS k U;exact⟨a,c,h⟩
   have Ib:=λk (U:k<4) G=>FZ S U G
   clear hS aj au;generalize (Value.agg (pk S))=ZS at *;go_wp2_with fail;clear ah;go_loopg [3,19] 4 (λgh s3 s19 G=>∃k:Nat,k+gh=4/\s19= .int .i64 (k:Int)/\s3= .int .i64 ((pn n k:Nat):Int)/\G=w3)
   case atStart=>exact⟨0,by omega,rfl,by rw[<-HD.out,aD.out];rfl,rfl⟩
   case round=>
    obtain⟨k,U,rfl,rfl,rfl⟩:=hrel;cases gk with
    |zero=>
     obtain rfl:k=4:=by omega
     clear U Ib;go_wp2;go_ret;exact⟨rfl,og.out⟩
    |succ gg=>
     have ai:k<4:=by omega
     have aG:(k:Int)<4:=by omega
     have cM:(0:Int)<=(k:Int):=by omega
     have ax:=Ib k ai wr;obtain⟨a,c,ag⟩:=aF.out k ai;rw[ag] at ax;have hl:=av.out k;have aI:=ak.out k;obtain⟨M0,Xn⟩:=hh2 (aC.out k) (Bb (eD n.E k).length 3 (by omega) (by omega) (by omega));generalize (eD n.E k).length=q at *;rw[show q+3-1=q+2 by omega] at Xn;have aJ:(q+2)/3<=4000:=by omega
     generalize (q+2)/3=z,pn n k=y at *;clear Ib ag;go_wp2_with fail;refine C' (Xn.out _) ?_;go_wp2;go_roundg gg;case measure=>omega
     case rel=>exact⟨k+1,by omega,by go_num,by rw[M0.out];go_num,rfl⟩
 ·rw[aP hR] at HR
  rw[aA hR];clear hR;go_in;go_wp2_with(with_reducible refine gL 75 uP.out ?_);refine Rr (HR.out _ fG.out) λw1 V=> ?_;have jv:=ar (fG.out.trans' V);clear V;go_wp2;go_ret;exact⟨rfl,jv.out⟩
def KX (E:List (ByteArray×Int)) (f i:Nat):Int:=if i%2=0 then ((kS (bl (eY E (f+i/2))):Nat):Int) else jq E (f+i/2)
def zG (E:List (ByteArray×Int)) (f j:Nat):List Int:=(List.range 8).map λi=>if i<2*j then KX E f i else 0
def jf (E:List (ByteArray×Int)) (k:Nat):List Int:=zG E (4*k) (min 4 (E.length-4*k))
theorem mL (E:List (ByteArray×Int))(f j:Nat):(zG E f j).length=8:=by simp[zG]
theorem qg (E:List (ByteArray×Int))(f j i:Nat)(h:i<8):(zG E f j).getD i 0=if i<2*j then KX E f i else 0:=by
 rw[zG,aj,bO,cU h];rfl
theorem F4:(prog.info? 99).map (·.size)=some 2:=by kernel_rfl
theorem ID (g off n cap f h:Nat)(W:f<cap)(U:f<=h)(V:h<=cap)(w:World):
  (Instr.sliceAt 30 (.slice (some ⟨g,off,none⟩) n cap) (some (.int .i64 (f:Int))) (some (.int .i64 (h:Int))) none).run prog w= .ok (.slice (some ⟨g,off+f*2,none⟩) (h-f) (cap-f)) w:=by
 have z: prog.underlying 30 =some (.slice (prog.elem 30)):=by kernel_rfl
 have J: prog.elem 30 = 99 :=by kernel_rfl
 have G:(sizeOf 99).run prog w= .ok 2 w:=by kernel_rfl
 rw[run_sliceAt_slice _ _ _ _ _ _ z,run_slice_lh _ _ _ _ _ z .i64 .i64 (f:Int) (h:Int) (by omega) (by omega) (by omega),J,G];simp only[cN,sliced,aF];rw[aA];simp[add_plain]
theorem wh (b:Nat)(w:World):(Instr.sliceAt 132 (.pointer (some ⟨b,0,none⟩)) none none none).run prog w= .ok (.slice b 8 8) w:=by show Sem.run _ _ _=_;kernel_rfl
theorem qh{b o W:Nat}{z h:List Int}(J:bc w b (aX z).toArray T)(hs:Reads w v W (aX h))(hm:h.length<=n)(aa:o+h.length<=z.length):
  ∃r w',(∀ty,(Builtin.copy_ #[65,65] ty #[.slice (some ⟨b,o,none⟩) n cap,v]).run prog w= .ok r w')/\bc w' b (aX (z.take o++h++z.drop (o+h.length))).toArray T/\ay [b] w w':=by
 obtain⟨a,c,rfl,h1,h2,HC⟩:=il hs;by_cases h0:h.length=0
 ·obtain rfl:=bg h0
  refine⟨_,w,λty=>run_copy_none (P:= prog) w 65 65 ty 70 _ a n cap 0 c underlying65 qH (by simp),?_,ay.refl _ _⟩;rw[bz,cD,dE,dx];exact J
 ·obtain⟨hg,off,rfl,-⟩:=HC.out 0 (by omega)
  have hl:(aX h).length=min h.length n:=by rw[bA];omega
  refine⟨_,_,λty=>run_copy_row (P:= prog) w 65 65 ty 70 b o n cap ⟨W,off,none⟩ h.length c (aX z).toArray T (aX h) underlying65 qH J hl ?_ ?_ ?_,?_,(ay.refl _ _).setRow (by simp) _⟩
  ·intro j u G
   have hj:j<h.length:=by
    have :=(List.getElem?_eq_some_iff.1 G).1;rwa[bA] at this
   obtain⟨-,V,U,hc⟩:=HC.out j hj;cases U;rw[dM hj] at G;rw[add_plain,hc,<-G]
  ·rw[bP,bA,bA];omega
  ·exact λu G=>fk _ u G
  ·have e:((aX z).toArray.toList.take o++aX h++(aX z).toArray.toList.drop (o+(aX h).length)).toArray=(aX (z.take o++h++z.drop (o+h.length))).toArray:=by
    rw[bA];simp[aX,List.map_drop]
   rw[e];exact j4 J
theorem bD.sub{off:Nat}(h:bD w (.slice (some ⟨g,off,none⟩) n cap) g E)(hn:n=E.length)(f c:Nat)(aa:f+c<=n):bD w (.slice (some ⟨g,off+f*2,none⟩) c (cap-f)) g ((E.drop f).take c):=by
 obtain⟨a,J,hv,h1,h2,h3⟩:=h;cases hv;have z:((E.drop f).take c).length=c:=by rw[aJ,bV];omega
 refine⟨_,cap-f,by rw[z],by omega,by omega,λh0=> ?_⟩;rw[z] at h0;obtain⟨V,G,ho,hc⟩:=h3 (by omega);cases ho;refine⟨V,_,rfl,λj U=> ?_⟩;rw[z] at U;obtain⟨W,c1⟩:=hc (f+j) (by omega);have e:((E.drop f).take c).getD j (ByteArray.empty,0)=E.getD (f+j) (ByteArray.empty,0):=by
  simp[U]
 rw[show off+f*2+j*2=off+(f+j)*2 by omega,eY,jq,e];exact⟨W,c1⟩
theorem Bc (E:List (ByteArray×Int))(f c k:Nat)(h:k<c):eY ((E.drop f).take c) k=eY E (f+k)/\jq ((E.drop f).take c) k=jq E (f+k):=by
 have e:((E.drop f).take c).getD k (ByteArray.empty,0)=E.getD (f+k) (ByteArray.empty,0):=by
  simp[h]
 rw[eY,jq,e];exact⟨rfl,rfl⟩
theorem xN.sub(h:xN E)(f c:Nat)(J:f+c<=E.length):xN ((E.drop f).take c):=by
 have G:((E.drop f).take c).length=c:=by rw[aJ,bV];omega
 refine⟨by rw[G];have :=h.len;omega,λk z=> ?_,λk z=> ?_⟩
 ·rw[G] at z
  rw[(Bc E f c k z).1];exact h.size _ (by omega)
 ·rw[G] at z
  rw[(Bc E f c k z).2];exact h.ino _ (by omega)
theorem M8 (E:List (ByteArray×Int))(f j:Nat)(hj:j<=4)(h:f+j<=E.length):zG E f j=eU ((E.drop f).take j)++List.replicate (8-2*j) 0:=by
 have z:((E.drop f).take j).length=j:=by rw[aJ,bV];omega
 refine DJ (by rw[mL,aC,kT,z,bJ];omega) λi J=> ?_
 rw[mL] at J;rw[qg _ _ _ _ J];by_cases U:i<2*j
 ·rw[aB U,aj,bh (by rw[kT,z];omega),<-aj]
  obtain⟨V,W⟩:=vY ((E.drop f).take j) (i/2) (by omega);obtain⟨e0,e1⟩:=Bc E f j (i/2) (by omega);unfold KX;by_cases G:i%2=0
  ·rw[aB G,<-e0,<-V,show i/2*2=i by omega]
  ·rw[aA G,<-e1,<-W,show i/2*2+1=i by omega]
 ·rw[aA U,aj,aT (by rw[kT,z];omega),bB]
  split<;>rfl
theorem DW (hE:bD w v g E)(ho:xN E)(k:Nat)(hk:4*k<E.length):
  Calls prog 183 #[v,(k:Int)] w λe w'=>e=(aX (jf E k)).toArray/\ay [] w w':=by
 obtain⟨a,cap,rfl,aG,av,zr⟩:=hE.open;obtain⟨hg,off,rfl,-,-⟩:=zr.out _ hk;unfold maxLen at av;have aI:=ho.len;obtain⟨c,hc⟩:∃c,c=min 4 (E.length-4*k):=⟨_,rfl⟩;have aD:c<=4:=by omega
 unfold jf;rw[<-hc];obtain⟨f,hf⟩:∃f,f=4*k:=⟨_,rfl⟩;rw[<-hf] at hk hc ⊢;have aL:(k:Int)*4=(f:Int):=by omega
 have ai:=λU=>ID g off E.length cap f (f+c) (by omega) (by omega) (by omega) U
 rw[show f+c-f=c by omega] at ai;have ax:Hid (∀H:Int,H=(f:Int)+(c:Int)->∀U,(Instr.sliceAt 30 (.slice (some ⟨g,off,none⟩) E.length cap) (some (.int .i64 (f:Int))) (some (.int .i64 H)) none).run prog U= .ok (.slice (some ⟨g,off+f*2,none⟩) c (cap-f)) U):=λH hH U=>by
  have :=ai U;rw[show((f+c:Nat):Int)=H by omega] at this;exact this
 have aM:=kV;obtain⟨H,hH,aC⟩:∃H:Int,H=(f:Int)+(c:Int)/\((((f:Int)+4<=(E.length:Int))/\H=(f:Int)+4)\/((E.length:Int)<(f:Int)+4/\H=(E.length:Int))):=⟨_,rfl,by omega⟩;have aB:=ax.out H hH;have ac:f+c<=E.length:=by omega
 obtain⟨ak,az,XY⟩:=hh3 (hE.sub rfl f c ac) (ho.sub f c ac) (M8 E f c aD ac);have aa:Hid ((eU ((E.drop f).take c)).length=2*c):=by
  show _=_;rw[kT,aJ,bV];omega
 have Cx:=ar (mL E f c);have F5:Hid (∀U,ay [] w U->Calls prog 207 #[.slice (some ⟨g,off+f*2,none⟩) c (cap-f)] U (jG U (eU ((E.drop f).take c)))):=λU hk=>zE (ak.out.keep hk) az.out
 generalize eU ((E.drop f).take c)=WE at *;have aK:=wh (w.heap.size+1);obtain⟨W0,af⟩:∃W0,W0=(w.alloc (.cells (aX (List.replicate 8 0)).toArray 132)).alloc (.cells (aX (List.replicate 8 0)).toArray 132):=⟨_,rfl⟩;have zC:Hid (bc W0 (w.heap.size+1) (aX (List.replicate 8 0)).toArray 132):=by
  have :=bc.new (w.alloc (.cells (aX (List.replicate 8 0)).toArray 132)) (aX (List.replicate 8 0)).toArray 132;have e:(w.alloc (.cells (aX (List.replicate 8 0)).toArray 132)).heap.size=w.heap.size+1:=by simp
  rw[e,<-af] at this;exact this
 have oD:Hid (bc W0 w.heap.size (aX (List.replicate 8 0)).toArray 132):=by
  rw[af];exact(bc.new w _ _).alloc _
 have HK:Hid (ay [] w W0):=by
  rw[af];exact((ay.refl _ _).alloc _).alloc _
 have rf:=ar af;clear hE ho ai ax hf hc af ak az aB;generalize vW:(aX (List.replicate 8 0)).toArray=Z8 at *;have aj:Hid (∀U,ay [] W0 U->bc U (w.heap.size+1) (aX (List.replicate 8 0)).toArray 132):=λU hk=>by rw[vW];exact zC.out.keep hk
 have xz:Hid (Z8.size=8):=by rw[<-vW];rfl
 clear vW zC;generalize E.length=n at *;rcases aC with ⟨aA,rfl⟩|⟨aA,rfl⟩
 ·obtain rfl:c=4:=by omega
  have aF:IntKind.i64.wrap ((f:Int)+4)=(f:Int)+4:=fR _ (by omega);have h1:(0:Int)<=(f:Int)+4:=by omega
  have h2:(f:Int)+4<=(cap:Int):=by omega
  have h3:((f:Int)+4).toNat=f+4:=by omega
  have h4:¬cap=f:=by omega
  clear hH ac;go_in;go_wp2_with fail;rw[<-rf.out];go_region_with (go_at_call 207;refine(F5.out _ HK.out.drew).mono ?_;rintro e w1 ⟨v1,g1,rfl,W,ah,h⟩;obtain⟨vc,w2,zH,J,V⟩:=qh (o:=0) (n:=8) (cap:=8) (aj.out _ ((ay.refl _ _).drew.trans' h)) W (by have :=aa.out;omega) (by rw[bJ];have :=aa.out;omega);(have M9:=zH 3);obtain⟨a1,c1,rfl,-,-,-⟩:=il W)
  have z:(List.replicate 8 (0:Int)).take 0++WE++(List.replicate 8 (0:Int)).drop (0+WE.length)=zG E f 4:=by
   rw[XY.out,aa.out,eW,bN,bp,jy]
  rw[z] at J;have HL:=ar (fN J Cx.out);have G:bc w2 w.heap.size Z8 132 :=(oD.out.drew.keep h).keep V;obtain⟨w3,hS,ae,ag⟩:=bE (P:= prog) (ty:= 132) (cs:=aX (zG E f 4)) (by rw[bA,Cx.out];exact iZ) G (by rw[xz.out,bA,Cx.out]) (fk _);obtain⟨HS,rJ⟩:=hh2 hS (fN ae Cx.out);have jD:Hid (ay [] w w3):=(((HK.out.drew.trans' h).trans V (by intro x hx;rw[au] at hx;omega))).trans ag (by intro x hx;rw[au] at hx;omega);clear z J G hS ae ag zH M9 h V ah W;go_wp2_with(with_reducible first|refine gL 132 HL.out ?_|refine gS 132 HS.out ?_);exact aH (bu results183 rfl rJ.out) rfl ⟨rfl,jD.out⟩
 ·have aF:IntKind.i64.wrap ((f:Int)+4)=(f:Int)+4:=fR _ (by omega)
  have h2:n<=cap:=by omega
  have h3:f<=n:=by omega
  have h4:¬cap=f:=by omega
  have h5:n-f=c:=by omega
  clear hH ac;go_in;go_wp2_with fail;rw[<-rf.out];go_region_with (go_at_call 207;refine(F5.out _ HK.out.drew).mono ?_;rintro e w1 ⟨v1,g1,rfl,W,ah,h⟩;obtain⟨vc,w2,zH,J,V⟩:=qh (o:=0) (n:=8) (cap:=8) (aj.out _ ((ay.refl _ _).drew.trans' h)) W (by have :=aa.out;omega) (by rw[bJ];have :=aa.out;omega);(have M9:=zH 3);obtain⟨a1,c1,rfl,-,-,-⟩:=il W)
  have z:(List.replicate 8 (0:Int)).take 0++WE++(List.replicate 8 (0:Int)).drop (0+WE.length)=zG E f c:=by
   rw[XY.out,aa.out,eW,bN,bp,jy]
  rw[z] at J;have HL:=ar (fN J Cx.out);have G:bc w2 w.heap.size Z8 132 :=(oD.out.drew.keep h).keep V;obtain⟨w3,hS,ae,ag⟩:=bE (P:= prog) (ty:= 132) (cs:=aX (zG E f c)) (by rw[bA,Cx.out];exact iZ) G (by rw[xz.out,bA,Cx.out]) (fk _);obtain⟨HS,rJ⟩:=hh2 hS (fN ae Cx.out);have jD:Hid (ay [] w w3):=(((HK.out.drew.trans' h).trans V (by intro x hx;rw[au] at hx;omega))).trans ag (by intro x hx;rw[au] at hx;omega);clear z J G hS ae ag zH M9 h V ah W;go_wp2_with(with_reducible first|refine gL 132 HL.out ?_|refine gS 132 HS.out ?_);exact aH (bu results183 rfl rJ.out) rfl ⟨rfl,jD.out⟩
end Go.Proofs.YtimcfdnbpkiniaaGreatDoor
