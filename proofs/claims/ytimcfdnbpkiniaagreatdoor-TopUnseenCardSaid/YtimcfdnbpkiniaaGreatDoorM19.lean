/- Lemmas. -/
import Derived.Test.YtimcfdnbpkiniaaGreatDoorM18
set_option maxHeartbeats 4000000
set_option maxRecDepth 100000
namespace Go.Proofs.YtimcfdnbpkiniaaGreatDoor
open Go.Proofs.Tryz
open Go.RowKit
section
variable{T a b c g gp i j k n:Nat}{f f':Nat->Nat}{w:World}{own:Nat->List Nat}{A B E M:List (ByteArray×Int)}{ps:List (Int×Int)}{nm:ByteArray}{D:List Int}{y:Int}
def dP (n:Nat) (f:Nat->Nat):List Nat:=(List.range n).map f
theorem qq (n:Nat)(f:Nat->Nat):(dP n f).length=n:=by simp[dP]
theorem Q9 (h:j<n):(dP n f).getD j 0=f j:=by
 unfold dP;rw[aj,bO,cU h];rfl
theorem yg (h:j<n):(dJ (dP n f)).toArray[j]? =some (.int .i64 (f j:Int)):=by
 rw[aG,nr (by rw[qq];exact h),Q9 h]
theorem tC (h:∀j,j<n->f j=f' j):dP n f=dP n f':=by
 unfold dP;exact dL λj z=>h j (cu.1 z)
theorem Ra (f:Nat->Nat){y:Nat}(x:Nat):(dP n f).set y x=dP n λq=>if q=y then x else f q:=by
 unfold dP;apply cX (by simp);intro j G z;have J:j<n:=by simpa using z
 rw[List.getElem_set];simp only[iN,lv];by_cases e:y=j
 ·subst e;simp
 ·rw[aA e,aA (λh=>e h.symm)]
theorem Lx (z:bc w g (dJ (dP n f)).toArray T){j:Nat}(h:j<n):w.cell? ⟨g,j,none⟩=some (.int .i64 (f j:Int)):=by
 rw[z.cell,yg h]
theorem N4 (J:bc w g (dJ (dP n f)).toArray T)(y:Nat)(h:∀q,q<n->f' q=if q=y then f y+1 else f q){x:Int}(G:x=((f y+1:Nat):Int)):bc (w.setCell ⟨g,y,none⟩ (.int .i64 x)) g (dJ (dP n f')).toArray T:=by
 subst G;have :=J.set y (.int .i64 ((f y+1:Nat):Int));rw[ag] at this;have z:(dJ (dP n f)).set y (.int .i64 ((f y+1:Nat):Int))=dJ ((dP n f).set y (f y+1)):=by simp[dJ,List.map_set]
 rw[z,Ra,<-tC h] at this;exact this
theorem N5 (w:World):(zeroValue 189).run prog w= .ok (.agg (dJ (dP 32 λ_=>0)).toArray) w:=by kernel_rfl
theorem Vz (w:World):(zeroValue 195).run prog w= .ok (.agg (dJ (dP 256 λ_=>0)).toArray) w:=by kernel_rfl
theorem N6:(prog.info? 189).map (·.size)=some 32:=by kernel_rfl
theorem VA:(prog.info? 195).map (·.size)=some 256:=by kernel_rfl
theorem Zc (l:List Nat):∀u∈dJ l,u.oneCell'=true:=by
 intro u h;unfold dJ at h;obtain⟨x,-,rfl⟩:=bH.1 h;rfl
theorem N7 (h:bc w g (dJ (dP 32 f)).toArray T):(loadVar 189 g).run prog w= .ok (.agg (dJ (dP 32 f)).toArray) w:=
 bX g 0 (dJ (dP 32 f)) underlying189 rfl (by rw[fo,qq];exact N6) λj z=>by
  rw[h.cell,bp,aG]
theorem VB (h:bc w g (dJ (dP 256 f)).toArray T):(loadVar 195 g).run prog w= .ok (.agg (dJ (dP 256 f)).toArray) w:=
 bX g 0 (dJ (dP 256 f)) underlying195 rfl (by rw[fo,qq];exact VA) λj z=>by
  rw[h.cell,bp,aG]
theorem J9 (h:bc w g (dJ (dP 32 f)).toArray T):
  ∃w',(storeVar 189 g (.agg (dJ (dP 32 f')).toArray)).run prog w= .ok () w'/\bc w' g (dJ (dP 32 f')).toArray T/\ay [g] w w':=
 bE (P:= prog) (ty:= 189) (cs:=dJ (dP 32 f')) (by rw[fo,qq];exact N6) h (by rw[bP,fo,fo,qq,qq]) (Zc _)
def Au (T:List (bS×Value)) (own:Nat->List Nat) (i:Nat):List Nat:=own i++dv (nT T i)
theorem qu{n:bS}(J:n.B.length=13)(V:cm n):∀c∈dv n,c≠0/\c<256:=λc z=>by
 unfold dv eA at z;obtain⟨x,h,rfl⟩:=bH.1 z;rw[List.mem_filter] at h;obtain⟨k,U,e⟩:=b9 (bL h.1);have G:=uX V J k;rw[aj,aD U,eZ,e] at G;have W:x≠0:=by simpa using h.2
 omega
theorem rF.all{X:List Int}{T:List (bS×Value)}(h:rF X T own)(i:Nat)(J:i<32):(∀c∈Au T own i,c≠0/\c<256)/\(Au T own i).length<=45:=by
 unfold Au;rcases h.form i with ⟨-,-,z⟩|⟨-,z,U⟩
 ·refine⟨λc G=> ?_,?_⟩
  ·rcases aR.1 G with G|G
   ·exact z.mem c G
   ·exact qu z.len z.right c G
  ·rw[aC]
   have h3:=z.ownLen;have V:=vr z.right;have W:(dv (nT T i)).length<=13:=Ap _ _;omega
 ·rw[(U J).1,z]
  have :dv bY=[]:=by decide
  rw[this];exact⟨λc G=>by simp at G,by simp⟩
theorem gK.all{B:List Int}{T:List (bS×Value)}(h:gK w b gp B ps T own){i:Nat}(U:i<32):
  Calls prog 140 #[b,(i:Int)] w λe w'=>∃v g,e=(v:Value)/\Reads w' v g (dJ (Au T own i))/\ay [] w w'/\(Au T own i≠[]->w.heap.size<=g):=by
 refine(acd h.sh h.w64 (i:Int)).mono ?_;rintro e w' ⟨v,g,l,rfl,hr,W,J,hg⟩;have e:l=Au T own i:=by
  unfold Au;rcases h.gots.form i with ⟨-,-,G⟩|⟨-,G,V⟩
  ·rcases J with ⟨n,o,z,rfl⟩|⟨z,-⟩
   ·obtain⟨e1,e2⟩:=G.uniq z
    rw[e1,e2]
   ·exact absurd G (z _ _)
  ·rcases J with ⟨n,o,z,-⟩|⟨-,rfl⟩
   ·exact absurd z ((V U).2 _ _)
   ·rw[(V U).1,G]
    rfl
 subst e;exact⟨v,g,rfl,hr,W,hg⟩
theorem N8 {T:List (bS×Value)}{own:Nat->List Nat}(h:∀i,i<32->(Au T own i).length<=45):∀k b,k<=32->jZ T own k b<=45*k
 |0,_,_=>fD _
 |k+1,b,hk=>by
  have G:=N8 h k b (by omega);have z:=h k (by omega);have J:(own k++dv (nT T k)).count b<=_:=List.count_le_length;unfold Au at z;show jZ T own k b+_<=_;omega
theorem EK {l:List Nat}{j:Nat}(z:j<l.length)(b:Nat):(l.take (j+1)).count b=if b=l.getD j 0 then (l.take j).count b+1 else (l.take j).count b:=by
 rw[bR z,fL,List.count_singleton];have :l.getD j 0=l[j]:=by rw[aj,aD z];rfl
 rw[this];by_cases e:b=l[j]
 ·subst e;simp
 ·rw[aA e]
  simp;exact λh=>e h.symm
theorem IY{B:List Int}{T:List (bS×Value)}(h:gK w b gp B ps T own):
  Calls prog 97 #[(b:Nat)] w (dz w (S6 (az B ps) T own)):=by
 have ui:Hid (∀U,ay [] w U->∀i:Nat,i<32->Calls prog 140 #[(b:Nat),(i:Int)] U λe w'=>∃v g,e=(v:Value)/\Reads w' v g (dJ (Au T own i))/\ay [] U w'/\(Au T own i≠[]->U.heap.size<=g)):=λU hk i hi=>(h.keep0 hk).all hi
 have ae:Hid (∀U,ay [] w U->∀c:Nat,c<256->Calls prog 141 #[(b:Nat),(c:Int)] U λe w'=>e=(dn (az B ps) c:Bool)/\U=w'):=λU hk c hc=>by
  have :=Vs (h.keep0 hk).sh h.w64 (c:Int);rwa[Za,aB (xH.2 ⟨by omega,by omega⟩),aF] at this
 have av:Hid (∀i,i<32->(∀c∈Au T own i,c≠0/\c<256)/\(Au T own i).length<=45):=λi hi=>h.gots.all i hi
 have aC:Hid (∀k c,k<=32->jZ T own k c<=45*k):=N8 λi hi=>(h.gots.all i hi).2
 have aI:Hid (∀k c,jZ T own (k+1) c=jZ T own k c+(Au T own k).count c):=λk c=>rfl
 have HP:Hid (∀(r:Bool) w',(r=true↔∀b:Nat,b<256->jZ T own 32 b<=1/\(dn (az B ps) b=true↔jZ T own 32 b=1))->ay [] w w'->dz w (S6 (az B ps) T own) (.returned (.bool r)) w'):=λr w' hr hk=>⟨r,rfl,hr,hk⟩
 have bb:=Vz;have pO:Hid (bc (w.alloc (.cells (dJ (dP 256 λ_=>0)).toArray 195)) w.heap.size (dJ (dP 256 λc=>jZ T own 0 c)).toArray 195):=bc.new w _ _;have fG:Hid (ay [] w (w.alloc (.cells (dJ (dP 256 λ_=>0)).toArray 195))):=(ay.refl [] w).alloc _;clear h;generalize S6 (az B ps) T own=pP at *;generalize az B ps=X,jZ T own=J,Au T own=W,(dJ (dP 256 λ_=>0)).toArray=Z0 at *;go_in;go_wp2_with fail;go_loopg [9] 32 (λgh s9 U=>∃k:Nat,k+gh=32/\s9= .int .i64 (k:Int)/\Hid (ay [] w U/\bc U w.heap.size (dJ (dP 256 λc=>J k c)).toArray 195))
 case atStart=>exact⟨0,by omega,rfl,fG.out,pO.out⟩
 case round=>
  clear pO fG;obtain⟨k,hk,rfl,G⟩:=hrel;cases gk with
  |succ gg=>
   have xa:(k:Int)<32:=by omega
   have vt:k<32:=by omega
   have aP:=ar (ui.out _ G.out.1 k vt);obtain⟨aH,aS⟩:=av.out k vt;obtain⟨aM,Ma⟩:=hh2 aH (λc=>aC.out k c (by omega));have aT:=G.out.2.lt;clear aH ui av ae HP;go_wp2_with fail;refine aP.out.mono ?_;rintro e w3 ⟨v,g,rfl,hr,ax,hg⟩;obtain⟨a,cap,rfl,ag,aR,ak⟩:=hr;rw[fo] at ag ak ⊢;have aK:Hid (W k≠[]->g≠w.heap.size):=λh0=>by have :=hg h0;omega
   have Me:Hid (∀j,j<(W k).length->∃off,a=some ⟨g,off,none⟩/\g<w3.heap.size/\w3.cell? ⟨g,off+j,none⟩=some (.int .i64 (((W k).getD j 0:Nat):Int))/\g≠w.heap.size):=λj hj=>by
    have aQ:W k≠[]:=λe=>by rw[e] at hj;simp at hj
    obtain⟨h1,off,h2,h3⟩:=ak (λe=>aQ (by unfold dJ at e;simpa using e));exact⟨off,h2,h1,by rw[h3 j hj,nr hj],aK.out aQ⟩
   have qC:Hid (bc w3 w.heap.size (dJ (dP 256 λc=>J k c+((W k).take 0).count c)).toArray 195):=G.out.2.keep ax;obtain⟨og,af⟩:=hh2 (G.out.1.trans' ax) (λj hj=> @EK (W k) j hj);have mV:Hid (∀U,bc U w.heap.size (dJ (dP 256 λc=>J k c+((W k).take (W k).length).count c)).toArray 195->bc U w.heap.size (dJ (dP 256 λc=>J (k+1) c)).toArray 195):=λU hb=>by
    rw[tC (λc _=>aI.out k c)];rwa[gi] at hb
   have ah:Hid (∀j c,((W k).take j).count c<=45):=λj c=>cL List.count_le_length (by rw[aJ];omega)
   have ac:Hid (∀j,j<(W k).length->(W k).getD j 0<256):=λj hj=>(aM.out _ (by rw[aj,aD hj];exact bM hj)).2
   clear ax hg ak ag aR G aP aK aM aT;obtain⟨m,hm⟩:∃m,(W k).length=m:=⟨_,rfl⟩;rw[hm] at Me af mV ac aS;rw[hm];clear hm;generalize W k=L at *;go_wp2_with fail;go_loopg [16] m (λgh s16 U=>∃j:Nat,j+gh=m/\s16= .int .i64 (j:Int)/\Hid (ay [w.heap.size] w3 U/\bc U w.heap.size (dJ (dP 256 λc=>J k c+(L.take j).count c)).toArray 195))
   case atStart=>exact⟨0,by omega,rfl,ay.refl _ _,qC.out⟩
   case round=>
    clear qC;obtain⟨j,hj,rfl,G⟩:=hrel;cases gk with
    |zero=>
     obtain rfl:j=m:=by omega
     have HF:Hid (ay [] w wr/\bc wr w.heap.size (dJ (dP 256 λc=>J (k+1) c)).toArray 195):=⟨og.out.trans G.out.1 (by intro x hx;rw[au] at hx;omega),mV.out _ G.out.2⟩;clear G mV Me af ah ac;go_wp2;go_roundg gg;case measure=>omega
     case rel=>exact⟨k+1,by omega,by go_num,HF.out⟩
    |succ g2=>
     have aG:j<m:=by omega
     have ES:(j:Int)<(m:Int):=by omega
     have Co:(0:Int)<=(j:Int):=by omega
     obtain⟨off,rfl,aX,d1,Vr⟩:=Me.out j aG;have c1:wr.cell? ⟨g,off+j,none⟩=some (.int .i64 ((L.getD j 0:Nat):Int)):=(aO (a:=⟨g,off+j,none⟩) (G.out.1.block g aX (by simpa using Vr))).trans d1;have hy:=ac.out j aG;have aL:=λc=>af.out j (by omega) c
     have aU:=Ma.out (L.getD j 0);have aV:=ah.out j (L.getD j 0);generalize L.getD j 0=y at *;have c2:=Lx G.out.2 (j:=y) hy;obtain⟨z,hz⟩:∃z,J k y+(L.take j).count y=z:=⟨_,rfl⟩;rw[hz] at c2;have ba:z<=1600:=by omega
     have Pz:Hid (∀x:Int,x=((z+1:Nat):Int)->bc (wr.setCell ⟨w.heap.size,y,none⟩ (.int .i64 x)) w.heap.size (dJ (dP 256 λc=>J k c+(L.take (j+1)).count c)).toArray 195):=λx hx=>N4 G.out.2 y (λq hq=>by
      rw[aL q];by_cases e:q=y
      ·subst e;rw[aB rfl,aB rfl];omega
      ·rw[aA e,aA e]) (by rw[hx,hz])
     have f2:=G.out.2.frozen y;have mK:=ar G.out.1;have aY:(0:Int)<=(y:Int):=by omega
     have aZ:(y:Int)<256:=by omega
     clear G d1 aL hz aU aV Me af ah ac;go_wp2;go_roundg g2;case measure=>omega
     case rel=>exact⟨j+1,by omega,by go_num,mK.out.setCell (.inl (by simp)) _,Pz.out _ (by go_num)⟩
  |zero=>
   obtain rfl:k=32:=by omega
   have mK:=ar G.out.1;have HL:Hid ((loadVar 195 w.heap.size).run prog wr= .ok (.agg (dJ (dP 256 λc=>J 32 c)).toArray) wr):=VB G.out.2;have HZ:Hid (∀c,c<256->(dJ (dP 256 λc=>J 32 c)).toArray[c]? =some (.int .i64 (J 32 c:Int))):=λc hc=>yg hc
   have ai:=ar (λc=>aC.out 32 c (by omega));clear G ui av aC aI hk;generalize (dJ (dP 256 λc=>J 32 c)).toArray=ZC at *;go_wp2_with(with_reducible refine gL 195 HL.out ?_);go_loopg [28] 256 (λgh s28 U=>wr=U/\∃c:Nat,c+gh=256/\s28= .int .i64 (c:Int)/\Hid (∀b:Nat,b<c->J 32 b<=1/\(dn X b=true↔J 32 b=1)))
   case atStart=>exact⟨rfl,0,by omega,rfl,λi hi=>by omega⟩
   case round=>
    obtain⟨rfl,c,hc,rfl,G⟩:=hrel;cases gk with
    |zero=>
     obtain rfl:c=256:=by omega
     have HF:=ar (HP.out true _ ⟨λ_=>G.out,λ_=>rfl⟩ mK.out);clear G HP HZ ai ae HL;go_wp2;go_ret;exact HF.out
    |succ g2=>
     have V:c<256:=by omega
     have Pw:(c:Int)<256:=by omega
     have Ib:=lR 195 3 256 .i64 ZC c _ underlying195 underlying3 oG V (HZ.out c V);have aa:=ar (ae.out _ mK.out c V);have hm:=ai.out c;have mV:Hid ((J 32 c<=1/\(dn X c=true↔J 32 c=1))->∀b:Nat,b<c+1->J 32 b<=1/\(dn X b=true↔J 32 b=1)):=λhh b hb=>by
      by_cases e:b=c
      ·rw[e];exact hh
      ·exact G.out b (by omega)
     have jT:Hid (¬(J 32 c<=1/\(dn X c=true↔J 32 c=1))->¬∀b:Nat,b<256->J 32 b<=1/\(dn X b=true↔J 32 b=1)):=λhh ha=>hh (ha c V)
     generalize dn X c=u,J 32 c=z at *;clear G HZ ai ae HL;by_cases h1:1<z
     ·have aW:(1:Int)<(z:Int):=by omega
      have HF:=ar (HP.out false _ ⟨(λh=>by cases h),λhh=>absurd hh (jT.out λh=>by omega)⟩ mK.out);clear mV jT HP h1;go_wp2;go_ret;exact HF.out
     ·have aW:¬(1:Int)<(z:Int):=by omega
      by_cases hz:z=1
      ·subst hz
       cases u
       ·have HF:=ar (HP.out false _ ⟨(λh=>by cases h),λhh=>absurd hh (jT.out λh=>by simp at h)⟩ mK.out)
        clear mV jT HP h1;go_wp2_with fail;refine C' aa.out ?_;go_wp2;go_ret;exact HF.out
       ·have HN:=ar (mV.out ⟨by omega,by simp⟩)
        clear mV jT HP h1;go_wp2_with fail;refine C' aa.out ?_;go_wp2;go_roundg g2;case measure=>omega
        case rel=>exact⟨rfl,c+1,by omega,by go_num,HN.out⟩
      ·obtain rfl:z=0:=by omega
       cases u
       ·have HN:=ar (mV.out ⟨by omega,by simp⟩)
        clear mV jT HP h1 hz;go_wp2_with fail;refine C' aa.out ?_;go_wp2;go_roundg g2;case measure=>omega
        case rel=>exact⟨rfl,c+1,by omega,by go_num,HN.out⟩
       ·have HF:=ar (HP.out false _ ⟨(λh=>by cases h),λhh=>absurd hh (jT.out λh=>by simp at h)⟩ mK.out)
        clear mV jT HP h1 hz;go_wp2_with fail;refine C' aa.out ?_;go_wp2;go_ret;exact HF.out
structure Nd where
 K:Int
 L:Int
 D:List Int
 E:List (ByteArray×Int)
def vQ:Nd:=⟨0,0,[],[]⟩
def na (M:Nat->Nd) (i:Nat) (n:Nd):Nat->Nd:=λj=>if j=i then n else M j
theorem nz (M:Nat->Nd)(i:Nat)(n:Nd):na M i n i=n:=aB rfl
theorem dH (M:Nat->Nd){i j:Nat}(n:Nd)(h:j≠i):na M i n j=M j:=aA h
def Edge (M:Nat->Nd) (a b:Nat):Prop:=∃e∈(M a).E,e.2=(b:Int)
inductive kI (M:Nat->Nd) (d:Nat):Nat->Prop
 |here:kI M d d
 |step {a b:Nat}:kI M d a->Edge M a b->kI M d b
theorem kI.trans{M:Nat->Nd}(h:kI M a b)(k:kI M b c):kI M a c:=by
 induction k with
 |here=>exact h
 |step _ e ih=>exact ih.step e
theorem kI.mono{M M':Nat->Nd}(h:∀a b,Edge M a b->Edge M' a b){d x:Nat}(k:kI M d x):kI M' d x:=by
 induction k with
 |here=>exact .here
 |step _ e ih=>exact ih.step (h _ _ e)
def tD (E:List (ByteArray×Int)) (i:Nat):Nat:=E.countP λe=>e.2==(i:Int)
theorem kU (A B:List (ByteArray×Int))(i:Nat):tD (A++B) i=tD A i+tD B i:=List.countP_append
theorem yh (nm:ByteArray)(x:Int)(i:Nat):tD [(nm,x)] i=if x=(i:Int) then 1 else 0:=by simp[tD,List.countP_singleton]
theorem N9 (i:Nat):tD [] i=0:=rfl
theorem GZ:0<tD E i↔∃e∈E,e.2=(i:Int):=by simp[tD,List.countP_pos_iff]
def lf (M:Nat->Nd):Nat->Nat->Nat
 |0,_=>0
 |k+1,i=>lf M k i+tD (M k).E i
theorem G0{M M':Nat->Nd}(h:∀a,a<k->(M' a).E=(M a).E)(i:Nat):lf M' k i=lf M k i:=by
 induction k with
 |zero=>rfl
 |succ k ih=>show _+_=_+_;rw[ih λa z=>h a (by omega),h k (by omega)]
theorem Fe (M:Nat->Nd)(d:Nat)(n:Nd)(i:Nat):∀k,d<k->lf (na M d n) k i+tD (M d).E i=lf M k i+tD n.E i:=by
 intro k;induction k with
 |zero=>intro h;omega
 |succ k ih=>
  intro h;show(lf (na M d n) k i+tD (na M d n k).E i)+_=(lf M k i+tD (M k).E i)+_;by_cases e:d=k
  ·subst e
   rw[nz,G0 (M:=M) (M':=na M d n) (λa z=>by rw[dH M n (by omega)])];omega
  ·rw[dH M n (by omega)]
   have :=ih (by omega);omega
theorem qR{M:Nat->Nd}:0<lf M k i↔∃a,a<k/\Edge M a i:=by
 induction k with
 |zero=>exact⟨λh=>by simp[lf] at h,λ⟨_,h,_⟩=>by omega⟩
 |succ k ih=>
  show 0<lf M k i+tD (M k).E i↔_;constructor
  ·intro h
   rcases eo (lf M k i) with G|G
   ·exact⟨k,by omega,GZ.1 (by omega)⟩
   ·obtain⟨a,J,z⟩:=ih.1 G
    exact⟨a,by omega,z⟩
  ·rintro⟨a,J,z⟩
   by_cases e:a=k
   ·subst e
    have :=GZ.2 z;omega
   ·have :=ih.2 ⟨a,by omega,z⟩
    omega
theorem Oa{M:Nat->Nd}(J:Edge M a i)(G:Edge M c i)(z:a<c):∀k,c<k->2<=lf M k i:=by
 intro k;induction k with
 |zero=>intro h;omega
 |succ k ih=>
  intro h;show 2<=lf M k i+tD (M k).E i;by_cases e:c=k
  ·subst e
   have U:=GZ.2 G;have V:=qR.2 ⟨a,z,J⟩;omega
  ·have :=ih (by omega)
   omega
structure dB (M:Nat->Nd):Prop where
 out:∀i,32<=i->M i=vQ
 kind:∀i,M i=vQ\/((M i).K=1/\(M i).E=[])\/((M i).K=2/\(M i).D=[])
 root:(M 0).K=2
 lead:∀i,∀e∈(M i).E,(0<=e.2/\e.2<32)/\(M e.2.toNat).K≠0
 rises:∀i,yc (M i).E
 links:∀i,i<32->((M i).K=1->(lf M 32 i:Int)=(M i).L/\1<=lf M 32 i)/\((M i).K=2->(M i).L=1/\(i=0->lf M 32 i=0)/\(i≠0->lf M 32 i=1))
 reach:∀i,(M i).K≠0->kI M 0 i
theorem dB.rng{M:Nat->Nd}(h:dB M){i:Nat}(G:(M i).K≠0):i<32:=by
 rcases dF i 32 with z|z
 ·exact z
 ·exact absurd (by rw[h.out i z];rfl) G
theorem dB.dir{M:Nat->Nd}(h:dB M){a b:Nat}(J:Edge M a b):(M a).K=2/\a<32/\(M b).K≠0/\b<32:=by
 obtain⟨e,G,J⟩:=J;have U:(M a).K=2:=by
  rcases h.kind a with z|⟨-,z⟩|z
  ·rw[z] at G;simp[vQ] at G
  ·rw[z] at G;simp at G
  ·exact z.1
 have z:=h.lead a e G;rw[J,aF] at z;exact⟨U,h.rng (by omega),z.2,by omega⟩
theorem dB.parent{M:Nat->Nd}(h:dB M){a c b:Nat}(U:(M b).K=2)(z:Edge M a b)(G:Edge M c b):a=c:=by
 have J:=((h.links b (h.dir z).2.2.2).2 U).2;have V:lf M 32 b<=1:=by
  by_cases e:b=0
  ·rw[J.1 e];omega
  ·rw[J.2 e];omega
 rcases Nat.lt_trichotomy a c with e|e|e
 ·have :=Oa z G e 32 (h.dir G).2.1;omega
 ·exact e
 ·have :=Oa G z e 32 (h.dir z).2.1;omega
theorem dB.noRoot{M:Nat->Nd}(h:dB M){a:Nat}:¬Edge M a 0:=λz=>by
 have G:=((h.links 0 (by omega)).2 h.root).2.1 rfl;have J:=qR.2 ⟨a,(h.dir z).2.1,z⟩;omega
def aho (M:Nat->Nd) (a b:Nat):Prop:=∃c,kI M a c/\Edge M c b
theorem Rb{M:Nat->Nd}(h:kI M a b):a=b\/∃c,Edge M a c/\kI M c b:=by
 induction h with
 |here=>exact .inl rfl
 |step h e ih=>
  rcases ih with rfl|⟨c,z,G⟩
  ·exact .inr ⟨_,e,.here⟩
  ·exact .inr ⟨c,z,G.step e⟩
theorem dB.acyclic{M:Nat->Nd}(h:dB M){x:Nat}(V:kI M 0 x):¬aho M x x:=by
 induction V with
 |here=>rintro⟨c,-,he⟩;exact h.noRoot he
 | @step a b _ e ih=>
  rintro⟨c,J,U⟩;have W:(M b).K=2:=by
   rcases Rb J with rfl|⟨d,z,-⟩
   ·exact(h.dir U).1
   ·exact(h.dir z).1
  have G:=h.parent W U e;subst G;cases J with
  |here=>exact ih ⟨_,.here,e⟩
  |step z h4=>exact ih ⟨_,(kI.step .here e).trans z,h4⟩
def ou (M:Nat->Nd) (d:Nat) (E:List (ByteArray×Int)):Nat->Nd:=na M d { M d with E:=E }
theorem oQ (M:Nat->Nd)(d:Nat)(E:List (ByteArray×Int))(j:Nat):(ou M d E j).E=if j=d then E else (M j).E:=by
 unfold ou na;by_cases h:j=d
 ·rw[aB h,aB h]
 ·rw[aA h,aA h]
theorem yj (M:Nat->Nd)(d:Nat)(E:List (ByteArray×Int))(j:Nat):(ou M d E j).K=(M j).K/\(ou M d E j).L=(M j).L/\(ou M d E j).D=(M j).D:=by
 unfold ou na;by_cases h:j=d
 ·rw[aB h,h];exact⟨rfl,rfl,rfl⟩
 ·rw[aA h];exact⟨rfl,rfl,rfl⟩
theorem BA (M:Nat->Nd){d:Nat}(h:d<32)(E:List (ByteArray×Int))(i:Nat):lf (ou M d E) 32 i+tD (M d).E i=lf M 32 i+tD E i:=Fe M d _ i 32 h
def Rc (M:Nat->Nd) (d i:Nat) (K:Int) (E:List (ByteArray×Int)):Nat->Nd:=ou (na M i ⟨K,1,[],[]⟩) d E
theorem dB.noEdge{M:Nat->Nd}(h:dB M){i:Nat}(z:M i=vQ)(a:Nat):¬Edge M a i:=λG=>(h.dir G).2.2.1 (by rw[z];rfl)
theorem dB.made{M:Nat->Nd}(h:dB M){d i:Nat}{K:Int}{A B:List (ByteArray×Int)}{nm:ByteArray}(hd:(M d).K=2)(V:M i=vQ)(jr:i<32)(hK:K=1\/K=2)(hs:iH (M d).E A [] B nm):
  dB (Rc M d i K (A++([(nm,(i:Int))]++B))):=by
 have Ob:=h.rng (i:=d) (by omega);have ac:d≠i:=λe=>by rw[e,V] at hd;simp[vQ] at hd
 have Mf:(M d).E=A++B:=hs.eq;have W:∀j,(Rc M d i K (A++([(nm,(i:Int))]++B)) j).K=if j=i then K else (M j).K:=λj=>by
  unfold Rc;rw[(yj _ _ _ j).1];unfold na;split<;>rfl
 have kL:∀j,(Rc M d i K (A++([(nm,(i:Int))]++B)) j).L=if j=i then 1 else (M j).L:=λj=>by
  unfold Rc;rw[(yj _ _ _ j).2.1];unfold na;split<;>rfl
 have kE:∀j,(Rc M d i K (A++([(nm,(i:Int))]++B)) j).E=if j=d then A++([(nm,(i:Int))]++B) else (M j).E:=λj=>by
  unfold Rc;rw[oQ];by_cases e:j=d
  ·rw[aB e,aB e]
  ·rw[aA e,aA e]
   unfold na;by_cases G:j=i
   ·rw[aB G,G,V];rfl
   ·rw[aA G]
 have Eg:∀a b,Edge M a b->Edge (Rc M d i K (A++([(nm,(i:Int))]++B))) a b:=λa b ⟨e,hm,J⟩=>⟨e,by
  rw[kE];split
  ·next G=>rw[G,Mf] at hm;rcases aR.1 hm with z|z<;>simp[z]
  ·exact hm,J⟩
 have aa:Edge (Rc M d i K (A++([(nm,(i:Int))]++B))) d i:=⟨(nm,(i:Int)),by rw[kE,aB rfl];simp,rfl⟩;have yl:∀j,lf (Rc M d i K (A++([(nm,(i:Int))]++B))) 32 j=lf M 32 j+if j=i then 1 else 0:=λj=>by
  have z:=BA (na M i ⟨K,1,[],[]⟩) Ob (A++([(nm,(i:Int))]++B)) j;have h2:=Fe M i ⟨K,1,[],[]⟩ j 32 jr;rw[dH M _ ac,Mf,kU,kU,kU,yh] at z;rw[V,show(vQ).E=[] from rfl,N9] at h2;unfold Rc;by_cases e:j=i
  ·subst e;simp only[aB] at z ⊢;omega
  ·rw[aA] at z;rw[aA e];omega
 refine⟨λj U=> ?_,λj=> ?_,?_,λj e J=> ?_,λj=> ?_,λj U=> ?_,λj U=> ?_⟩
 ·unfold Rc ou
  rw[dH _ _ (by omega),dH _ _ (by omega)];exact h.out j U
 ·unfold Rc ou
  by_cases e:j=d
  ·subst e
   rw[nz,dH _ _ ac];rcases h.kind j with z|z|z
   ·rw[z] at hd;simp[vQ] at hd
   ·omega
   ·exact .inr (.inr ⟨z.1,z.2⟩)
  ·rw[dH _ _ e]
   by_cases G:j=i
   ·subst G
    rw[nz];rcases hK with rfl|rfl
    ·exact .inr (.inl ⟨rfl,rfl⟩)
    ·exact .inr (.inr ⟨rfl,rfl⟩)
   ·rw[dH _ _ G]
    exact h.kind j
 ·rw[W,aA (λe=>by rw[<-e] at V;have :=h.root;rw[V] at this;simp[vQ] at this)]
  exact h.root
 ·rw[kE] at J
  have :e∈(M j).E\/e=(nm,(i:Int)):=by
   split at J
   ·next G=>
    rw[G,Mf];simp only[aR,au] at J ⊢;rcases J with z|z|z
    ·exact .inl (.inl z)
    ·exact .inr z
    ·exact .inl (.inr z)
   ·exact .inl J
  rcases this with z|rfl
  ·have :=h.lead j e z
   refine⟨this.1,?_⟩;rw[W];split
   ·omega
   ·exact this.2
  ·refine⟨by show(0:Int)<=(i:Int)/\(i:Int)<32;omega,?_⟩
   rw[W,aB (by simp)];omega
 ·rw[kE]
  split
  ·exact hs.rises (h.rises d) _ (.inr ⟨_,rfl⟩)
  ·exact h.rises j
 ·rw[W,kL,yl]
  by_cases e:j=i
  ·subst e
   have h0:lf M 32 j=0:=by
    rcases eo (lf M 32 j) with z|z
    ·exact z
    ·obtain⟨a,-,ha⟩:=qR.1 z
     exact absurd ha (h.noEdge V a)
   have Co:j≠0:=λe=>by subst e;have :=h.root;rw[V] at this;simp[vQ] at this
   simp only[aB,h0];exact⟨λ_=>⟨by first|rfl|trivial,by omega⟩,λ_=>⟨trivial,λh2=>absurd h2 Co,λ_=>by first|rfl|trivial⟩⟩
  ·simp only[aA e,dE]
   exact h.links j U
 ·rw[W] at U
  by_cases e:j=i
  ·subst e
   exact((h.reach d (by omega)).mono Eg).step aa
  ·rw[aA e] at U
   exact(h.reach j U).mono Eg
def S8 (M:Nat->Nd) (d i:Nat) (E:List (ByteArray×Int)):Nat->Nd:=ou (na M i { M i with L:=(M i).L+1 }) d E
theorem dB.linked{M:Nat->Nd}(h:dB M){d i:Nat}{A B:List (ByteArray×Int)}{nm:ByteArray}(hd:(M d).K=2)(hi:(M i).K=1)(hs:iH (M d).E A [] B nm):
  dB (S8 M d i (A++([(nm,(i:Int))]++B))):=by
 have Ob:=h.rng (i:=d) (by omega);have jr:=h.rng (i:=i) (by omega);have V:d≠i:=λe=>by rw[e] at hd;omega
 have Mf:(M d).E=A++B:=hs.eq;have W:∀j,(S8 M d i (A++([(nm,(i:Int))]++B)) j).K=(M j).K:=λj=>by
  unfold S8;rw[(yj _ _ _ j).1];unfold na;split
  ·next e=>rw[e]
  ·rfl
 have kL:∀j,(S8 M d i (A++([(nm,(i:Int))]++B)) j).L=(M j).L+if j=i then 1 else 0:=λj=>by
  unfold S8;rw[(yj _ _ _ j).2.1];unfold na;split
  ·next e=>rw[e]
  ·simp
 have kE:∀j,(S8 M d i (A++([(nm,(i:Int))]++B)) j).E=if j=d then A++([(nm,(i:Int))]++B) else (M j).E:=λj=>by
  unfold S8;rw[oQ];by_cases e:j=d
  ·rw[aB e,aB e]
  ·rw[aA e,aA e]
   unfold na;split
   ·next G=>rw[G]
   ·rfl
 have Eg:∀a b,Edge M a b->Edge (S8 M d i (A++([(nm,(i:Int))]++B))) a b:=λa b ⟨e,hm,J⟩=>⟨e,by
  rw[kE];split
  ·next G=>rw[G,Mf] at hm;rcases aR.1 hm with z|z<;>simp[z]
  ·exact hm,J⟩
 have yl:∀j,lf (S8 M d i (A++([(nm,(i:Int))]++B))) 32 j=lf M 32 j+if j=i then 1 else 0:=λj=>by
  have h0:({ M i with L:=(M i).L+1 }:Nd).E=(M i).E:=rfl;unfold S8;generalize ({ M i with L:=(M i).L+1 }:Nd)=n0 at *;have z:=BA (na M i n0) Ob (A++([(nm,(i:Int))]++B)) j;have h2:=Fe M i n0 j 32 jr;rw[dH M _ V,Mf,kU,kU,kU,yh] at z;rw[h0] at h2;by_cases e:j=i
  ·subst e;simp only[aB] at z ⊢;omega
  ·rw[aA] at z;rw[aA e];omega
 refine⟨λj U=> ?_,λj=> ?_,?_,λj e J=> ?_,λj=> ?_,λj U=> ?_,λj U=> ?_⟩
 ·unfold S8 ou
  rw[dH _ _ (by omega),dH _ _ (by omega)];exact h.out j U
 ·unfold S8 ou
  by_cases e:j=d
  ·subst e
   rw[nz,dH _ _ V];rcases h.kind j with z|z|z
   ·rw[z] at hd;simp[vQ] at hd
   ·omega
   ·exact .inr (.inr ⟨z.1,z.2⟩)
  ·rw[dH _ _ e]
   by_cases G:j=i
   ·subst G
    rw[nz];rcases h.kind j with z|z|z
    ·rw[z] at hi;simp[vQ] at hi
    ·exact .inr (.inl ⟨z.1,z.2⟩)
    ·omega
   ·rw[dH _ _ G]
    exact h.kind j
 ·rw[W]
  exact h.root
 ·rw[kE] at J
  have :e∈(M j).E\/e=(nm,(i:Int)):=by
   split at J
   ·next G=>
    rw[G,Mf];simp only[aR,au] at J ⊢;rcases J with z|z|z
    ·exact .inl (.inl z)
    ·exact .inr z
    ·exact .inl (.inr z)
   ·exact .inl J
  rw[W];rcases this with z|rfl
  ·exact h.lead j e z
  ·refine⟨by show(0:Int)<=(i:Int)/\(i:Int)<32;omega,?_⟩
   show(M (i:Int).toNat).K≠0;rw[aF];omega
 ·rw[kE]
  split
  ·exact hs.rises (h.rises d) _ (.inr ⟨_,rfl⟩)
  ·exact h.rises j
 ·rw[W,kL,yl]
  have z:=h.links j U;by_cases e:j=i
  ·subst e
   simp only[aB];exact⟨λ_=>⟨by have :=(z.1 hi).1;omega,by omega⟩,λh2=>by omega⟩
  ·simp only[aA e,dE,Int.add_zero]
   exact z
 ·rw[W] at U
  exact(h.reach j U).mono Eg
def EM (M:Nat->Nd) (d j:Nat) (E:List (ByteArray×Int)):Nat->Nd:=ou (na M j (if (M j).L=1 then vQ else { M j with L:=(M j).L-1 })) d E
theorem iH.leads(h:iH E A [(nm,(j:Int))] B nm):∃e∈E,e.2=(j:Int):=⟨(nm,(j:Int)),by rw[h.eq];simp,rfl⟩
theorem dB.notSelf{M:Nat->Nd}(h:dB M){d j:Nat}(z:Edge M d j):d≠j:=λe=>by
 subst e;exact h.acyclic (h.reach d (h.dir z).2.2.1) ⟨d,.here,z⟩
theorem dB.removed{M:Nat->Nd}(h:dB M){d j:Nat}{A B:List (ByteArray×Int)}{nm:ByteArray}(hj:(M j).E=[])(hs:iH (M d).E A [(nm,(j:Int))] B nm):
  dB (EM M d j (A++B)):=by
 have ac:Edge M d j:=hs.leads;obtain⟨hd,Ob,aa,af⟩:=h.dir ac;have ah:=h.notSelf ac;have Mf:(M d).E=A++([(nm,(j:Int))]++B):=hs.eq;have Co:j≠0:=λe=>by subst e;exact h.noRoot ac
 have Cj:1<=lf M 32 j:=qR.2 ⟨d,Ob,ac⟩
 -- one link left, or a file with more
 have hL:((M j).L=1/\lf M 32 j=1)\/((M j).K=1/\(M j).L≠1/\(lf M 32 j:Int)=(M j).L/\2<=lf M 32 j):=by
  have z:=h.links j af;rcases h.kind j with h2|h2|h2
  ·rw[h2] at aa;simp[vQ] at aa
  ·have h3:=(z.1 h2.1).1
   by_cases e:(M j).L=1
   ·exact .inl ⟨e,by omega⟩
   ·exact .inr ⟨h2.1,e,h3,by omega⟩
  ·exact .inl ⟨(z.2 h2.1).1,(z.2 h2.1).2.2 Co⟩
 have kk:∀x,(EM M d j (A++B) x).K=if x=j/\(M j).L=1 then 0 else (M x).K:=λx=>by
  unfold EM;rw[(yj _ _ _ x).1];unfold na;by_cases e:x=j
  ·rw[aB e]
   by_cases G:(M j).L=1
   ·rw[aB G,aB ⟨e,G⟩];rfl
   ·rw[aA G,aA (λh=>G h.2),e]
  ·rw[aA e,aA (λh=>e h.1)]
 have kE:∀x,(EM M d j (A++B) x).E=if x=d then A++B else (M x).E:=λx=>by
  unfold EM;rw[oQ];by_cases e:x=d
  ·rw[aB e,aB e]
  ·rw[aA e,aA e]
   unfold na;by_cases G:x=j
   ·rw[aB G,G,hj]
    split
    ·rfl
    ·exact hj
   ·rw[aA G]
 have Eg:∀a b,b≠j->Edge M a b->Edge (EM M d j (A++B)) a b:=λa b hb ⟨e,U,J⟩=>⟨e,by
  rw[kE];split
  ·next G=>
   rw[G,Mf] at U;simp only[aR,au] at U ⊢;rcases U with z|z|z
   ·exact .inl z
   ·rw[z] at J
    have :(j:Int)=(b:Int):=J;omega
   ·exact .inr z
  ·exact U,J⟩
 have W:∀a b,Edge (EM M d j (A++B)) a b->Edge M a b:=λa b ⟨e,U,J⟩=>⟨e,by
  rw[kE] at U;split at U
  ·next G=>rw[G,Mf];rcases aR.1 U with z|z<;>simp[z]
  ·exact U,J⟩
 have yl:∀x,lf (EM M d j (A++B)) 32 x+(if x=j then 1 else 0)=lf M 32 x:=λx=>by
  have h3:tD (if (M j).L=1 then vQ else { M j with L:=(M j).L-1 }).E x=0:=by
   split
   ·rfl
   ·show tD (M j).E x=0;rw[hj];rfl
  unfold EM;generalize (if (M j).L=1 then vQ else { M j with L:=(M j).L-1 })=n0 at *;have z:=BA (na M j n0) Ob (A++B) x;have h2:=Fe M j n0 x 32 af;rw[dH M _ ah,Mf,kU,kU,kU,yh] at z;rw[hj,h3,N9] at h2;by_cases e:x=j
  ·subst e;simp only[aB] at z ⊢;omega
  ·rw[aA] at z;rw[aA e];omega
 have ak:∀a,¬Edge M j a:=λa ⟨e,U,_⟩=>by rw[hj] at U;simp at U
 have ag:∀x,kI M 0 x->x≠j->kI (EM M d j (A++B)) 0 x:=λx V=>by
  induction V with
  |here=>exact λ_=> .here
  | @step a b _ J ih=>exact λhb=>(ih λe=>by subst e;exact ak _ J).step (Eg _ _ hb J)
 refine⟨λx V=> ?_,λx=> ?_,?_,λx e J=> ?_,λx=> ?_,λx V=> ?_,λx V=> ?_⟩
 ·unfold EM ou
  rw[dH _ _ (by omega),dH _ _ (by omega)];exact h.out x V
 ·unfold EM ou
  by_cases e:x=d
  ·subst e
   rw[nz,dH _ _ ah];rcases h.kind x with z|z|z
   ·rw[z] at hd;simp[vQ] at hd
   ·omega
   ·exact .inr (.inr ⟨z.1,z.2⟩)
  ·rw[dH _ _ e]
   by_cases G:x=j
   ·subst G
    rw[nz];split
    ·exact .inl rfl
    ·rcases h.kind x with z|z|z
     ·rw[z] at aa;simp[vQ] at aa
     ·exact .inr (.inl ⟨z.1,z.2⟩)
     ·exact .inr (.inr ⟨z.1,z.2⟩)
   ·rw[dH _ _ G]
    exact h.kind x
 ·rw[kk,aA (λe=>Co e.1.symm)]
  exact h.root
 ·have U:e∈(M x).E:=by
   rw[kE] at J;split at J
   ·next G=>rw[G,Mf];rcases aR.1 J with z|z<;>simp[z]
   ·exact J
  have z:=h.lead x e U;refine⟨z.1,?_⟩;rw[kk];rw[aA ?_]
  ·exact z.2
  ·rintro⟨e1,G⟩
   have h3:Edge (EM M d j (A++B)) x j:=⟨e,J,by omega⟩;have aj:x<32:=(h.dir (W _ _ h3)).2.1;have h4:=qR.2 ⟨x,aj,h3⟩;have h5:=yl j;rw[aB rfl] at h5;rcases hL with h6|h6<;>omega
 ·rw[kE]
  split
  ·have :=hs.rises (h.rises d) [] (.inl rfl)
   simpa using this
  ·exact h.rises x
 ·have h5:=yl x
  by_cases e:x=j
  ·subst e
   rw[aB rfl] at h5;rcases hL with h6|h6
   ·rw[kk,aB ⟨rfl,h6.1⟩]
    exact⟨λh=>by omega,λh=>by omega⟩
   ·rw[kk,aA (λh=>h6.2.1 h.2)]
    have ae:(EM M d x (A++B) x).L=(M x).L-1:=by
     unfold EM;rw[(yj _ _ _ x).2.1,nz,aA h6.2.1]
    rw[ae];exact⟨λ_=>⟨by omega,by omega⟩,λh=>by omega⟩
  ·rw[aA e] at h5
   have ae:(EM M d j (A++B) x).L=(M x).L:=by
    unfold EM;rw[(yj _ _ _ x).2.1,dH _ _ e]
   rw[kk,aA (λh=>e h.1),ae,show lf (EM M d j (A++B)) 32 x=lf M 32 x by omega];exact h.links x V
 ·by_cases e:x=j
  ·subst e
   rw[kk] at V;have h5:=yl x;rw[aB rfl] at h5;rcases hL with h6|h6
   ·rw[aB ⟨rfl,h6.1⟩] at V;exact absurd rfl V
   ·obtain⟨a,ha,ai⟩:=qR.1 (show 0<lf (EM M d x (A++B)) 32 x by omega)
    have h7:=W _ _ ai;exact(ag a (h.reach a (by have :=(h.dir h7).1;omega)) (h.notSelf h7)).step ai
  ·rw[kk,aA (λh=>e h.1)] at V
   exact ag x (h.reach x V) e
def Ka (M:Nat->Nd) (d t:Nat) (E h:List (ByteArray×Int)):Nat->Nd:=ou (ou M d E) t h
theorem dB.moved{M:Nat->Nd}(h:dB M){d t i:Nat}{A B U J:List (ByteArray×Int)}{nm nm':ByteArray}(hs:iH (M d).E A [(nm,(i:Int))] B nm)(ht:(M t).K=2)(ac:iH (ou M d (A++B) t).E U [] J nm')
  (hb:¬kI M i t):dB (Ka M d t (A++B) (U++([(nm',(i:Int))]++J))):=by
 have ai:Edge M d i:=hs.leads;obtain⟨hd,Ob,ae,jr⟩:=h.dir ai;have ag:=h.rng (i:=t) (by omega);have Mf:(M d).E=A++([(nm,(i:Int))]++B):=hs.eq;have aa:(ou M d (A++B) t).E=U++J:=ac.eq;have kk:∀x,(Ka M d t (A++B) (U++([(nm',(i:Int))]++J)) x).K=(M x).K/\(Ka M d t (A++B) (U++([(nm',(i:Int))]++J)) x).L=(M x).L/\(Ka M d t (A++B) (U++([(nm',(i:Int))]++J)) x).D=(M x).D:=λx=>by
  have z:=yj (ou M d (A++B)) t (U++([(nm',(i:Int))]++J)) x;have h2:=yj M d (A++B) x;exact⟨z.1.trans h2.1,z.2.1.trans h2.2.1,z.2.2.trans h2.2.2⟩
 have e1:∀a b,Edge M a b->Edge (ou M d (A++B)) a b\/(a=d/\b=i):=λa b ⟨e,hm,G⟩=>by
  by_cases e2:a=d
  ·rw[e2,Mf] at hm
   simp only[aR,au] at hm;rcases hm with z|z|z
   ·exact .inl ⟨e,by rw[oQ,aB e2];simp[z],G⟩
   ·right
    rw[z] at G;have h2:(i:Int)=(b:Int):=G;exact⟨e2,by omega⟩
   ·exact .inl ⟨e,by rw[oQ,aB e2];simp[z],G⟩
  ·exact .inl ⟨e,by rw[oQ,aA e2];exact hm,G⟩
 have e2:∀a b,Edge (ou M d (A++B)) a b->Edge (Ka M d t (A++B) (U++([(nm',(i:Int))]++J))) a b:=λa b ⟨e,hm,G⟩=>⟨e,by
  unfold Ka;rw[oQ];split
  ·next e3=>rw[e3,aa] at hm;rcases aR.1 hm with z|z<;>simp[z]
  ·exact hm,G⟩
 have e3:Edge (Ka M d t (A++B) (U++([(nm',(i:Int))]++J))) t i:=⟨(nm',(i:Int)),by unfold Ka;rw[oQ,aB rfl];simp,rfl⟩;have yl:∀x,lf (Ka M d t (A++B) (U++([(nm',(i:Int))]++J))) 32 x=lf M 32 x:=λx=>by
  have z:=BA M Ob (A++B) x;have h2:=BA (ou M d (A++B)) ag (U++([(nm',(i:Int))]++J)) x;rw[Mf,kU,kU,kU,yh] at z;rw[aa,kU,kU,kU,yh] at h2;unfold Ka;omega
 have ah:∀x,kI M 0 x->¬kI M i x->kI (Ka M d t (A++B) (U++([(nm',(i:Int))]++J))) 0 x:=λx W=>by
  induction W with
  |here=>exact λ_=> .here
  | @step a b _ G ih=>
   intro hn;rcases e1 _ _ G with z|⟨-,z⟩
   ·exact(ih λhc=>hn (hc.step G)).step (e2 _ _ z)
   ·rw[z] at hn;exact absurd kI.here hn
 have af:kI (Ka M d t (A++B) (U++([(nm',(i:Int))]++J))) 0 i:=(ah t (h.reach t (by omega)) hb).step e3;refine⟨λx W=> ?_,λx=> ?_,?_,λx e G=> ?_,λx=> ?_,λx W=> ?_,λx W=> ?_⟩
 ·unfold Ka ou
  rw[dH _ _ (by omega),dH _ _ (by omega)];exact h.out x W
 ·obtain⟨k1,k2,k3⟩:=kk x
  by_cases ex:x=d\/x=t
  ·right;right
   rw[k1,k3];have :(M x).K=2:=by rcases ex with rfl|rfl<;>assumption
   refine⟨this,?_⟩;rcases h.kind x with z|z|z
   ·rw[z] at this;simp[vQ] at this
   ·omega
   ·exact z.2
  ·have :Ka M d t (A++B) (U++([(nm',(i:Int))]++J)) x=M x:=by
    unfold Ka ou;rw[dH _ _ (λe=>ex (.inr e)),dH _ _ (λe=>ex (.inl e))]
   rw[this];exact h.kind x
 ·rw[(kk 0).1];exact h.root
 ·rw[(kk _).1]
  have :e∈(M x).E\/e=(nm',(i:Int)):=by
   unfold Ka at G;have V:∀y,∀e∈(ou M d (A++B) y).E,e∈(M y).E:=λy e G=>by
    rw[oQ] at G;split at G
    ·next e4=>rw[e4,Mf];rcases aR.1 G with z|z<;>simp[z]
    ·exact G
   rw[oQ] at G;split at G
   ·next e4=>
    simp only[aR,au] at G;rcases G with z|z|z
    ·exact .inl (V x e (by rw[e4,aa];simp[z]))
    ·exact .inr z
    ·exact .inl (V x e (by rw[e4,aa];simp[z]))
   ·exact .inl (V x e G)
  rcases this with z|rfl
  ·exact h.lead x e z
  ·refine⟨by show(0:Int)<=(i:Int)/\(i:Int)<32;omega,?_⟩
   show(M (i:Int).toNat).K≠0;rw[aF];exact ae
 ·have hr:∀y,yc (ou M d (A++B) y).E:=λy=>by
   rw[oQ];split
   ·have :=hs.rises (h.rises d) [] (.inl rfl)
    simpa using this
   ·exact h.rises y
  unfold Ka;rw[oQ];split
  ·exact ac.rises (hr t) _ (.inr ⟨_,rfl⟩)
  ·exact hr x
 ·rw[(kk x).1,(kk x).2.1,yl]
  exact h.links x W
 ·rw[(kk x).1] at W
  have aj:=h.reach x W;clear W;induction aj with
  |here=>exact .here
  | @step a b ha G ih=>
   rcases e1 _ _ G with z|⟨-,z⟩
   ·exact ih.step (e2 _ _ z)
   ·rw[z];exact af
theorem dB.data{M:Nat->Nd}(h:dB M){i:Nat}(V:(M i).K=1)(D:List Int):dB (na M i { M i with D:=D }):=by
 have z:∀x,(na M i { M i with D:=D } x).K=(M x).K/\(na M i { M i with D:=D } x).L=(M x).L/\(na M i { M i with D:=D } x).E=(M x).E:=λx=>by
  unfold na;split
  ·next e=>rw[e];exact⟨rfl,rfl,rfl⟩
  ·exact⟨rfl,rfl,rfl⟩
 have W:∀x,lf (na M i { M i with D:=D }) 32 x=lf M 32 x:=λx=>G0 (λa _=>(z a).2.2) x
 have Eg:∀a b,Edge M a b->Edge (na M i { M i with D:=D }) a b:=λa b ⟨e,hm,U⟩=>⟨e,by rw[(z a).2.2];exact hm,U⟩
 have jr:=h.rng (i:=i) (by omega);refine⟨λx G=>by rw[dH _ _ (by omega)];exact h.out x G,λx=> ?_,by rw[(z 0).1];exact h.root,λx e U=> ?_,λx=>by rw[(z x).2.2];exact h.rises x,λx G=> ?_,λx G=> ?_⟩
 ·by_cases e:x=i
  ·subst e
   rw[nz];rcases h.kind x with J|J|J
   ·rw[J] at V;simp[vQ] at V
   ·exact .inr (.inl ⟨J.1,J.2⟩)
   ·omega
  ·rw[dH _ _ e];exact h.kind x
 ·rw[(z x).2.2] at U
  rw[(z _).1];exact h.lead x e U
 ·rw[(z x).1,(z x).2.1,W]
  exact h.links x G
 ·rw[(z x).1] at G
  exact(h.reach x G).mono Eg
theorem lC (h:iH E A M B nm)(U:∀p∈E,0<=p.2):(ba E nm<0↔M=[])/\(0<=ba E nm->M=[(nm,ba E nm)]):=by
 have J:ba E nm=ba (M++B) nm:=by
  rw[h.eq,CX A _ nm λp z=>tz (h.ahead p z)]
 rcases h.one with rfl|⟨i,rfl⟩
 ·have G:ba E nm= -1:=by
   rw[J,bN];exact Aq B nm λp z e=>tz (h.behind p z) e.symm
  rw[G];exact⟨⟨λ_=>rfl,λ_=>by omega⟩,λh=>by omega⟩
 ·have G:ba E nm=i:=by
   rw[J];show(if nm=nm then i else _)=i;rw[aB rfl]
  have V:0<=i:=U (nm,i) (by rw[h.eq];simp);rw[G];exact⟨⟨λh=>by omega,λh=>by simp at h⟩,λ_=>rfl⟩
def xw:List (ByteArray×Int)->ByteArray×Int->List (ByteArray×Int)
 | [],x=>[x]
 |p::E,x=>if Op.bytesLess x.1.toList p.1.toList=true then x::p::E else p::xw E x
theorem Av (h:iH E A [] B nm)(i:Int):xw E (nm,i)=A++([(nm,i)]++B):=by
 have z:∀(A B:List (ByteArray×Int)),(∀p∈A,JX p.1 nm)->(∀p∈B,JX nm p.1)->xw (A++B) (nm,i)=A++([(nm,i)]++B):=by
  intro A;induction A with
  |nil=>
   intro B _ G;cases B with
   |nil=>rfl
   |cons p B=>
    show(if Op.bytesLess nm.toList p.1.toList=true then _ else _)=_;rw[aB (show Op.bytesLess nm.toList p.1.toList=true from G p (by simp))];rfl
  |cons p A ih=>
   intro B J G;show(if Op.bytesLess nm.toList p.1.toList=true then _ else p::xw (A++B) (nm,i))=_;rw[aA ?_,ih B (λq W=>J q (by simp[W])) G]
   ·rfl
   ·intro U
    exact mo _ (vz (J p (by simp)) U)
 have V:E=A++B:=h.eq;rw[V];exact z A B h.ahead h.behind
def iX (E:List (ByteArray×Int)) (nm:ByteArray):List (ByteArray×Int):=E.filter λp=>decide (p.1≠nm)
theorem tE (h:iH E A M B nm):iX E nm=A++B:=by
 have G:iX A nm=A:=List.filter_eq_self.2 λp z=>by
  have :p.1≠nm:=tz (h.ahead p z);simpa using this
 have V:iX B nm=B:=List.filter_eq_self.2 λp z=>by
  have :p.1≠nm:=λe=>tz (h.behind p z) e.symm
  simpa using this
 have U:iX M nm=[]:=by
  rcases h.one with rfl|⟨i,rfl⟩
  ·rfl
  ·simp[iX]
 have J:iX E nm=iX A nm++(iX M nm++iX B nm):=by
  rw[h.eq];simp[iX]
 rw[J,G,V,U];rfl
structure iP where
 K:Int
 P:List ByteArray
 Q:List ByteArray
 O:Int
 N:Int
 D:List Int
structure lX where
 E:Int
 N:Int
 K:Int
 L:Int
 I:Int
 D:List Int
 S:List (ByteArray×Int)
def fh:lX:=⟨0,0,0,0,0,[],[]⟩
def cW (e:Int):lX:={ fh with E:=e }
def lY (l:List ByteArray):Bool:=l.all λs=>ig (bl s)
def iI (M:Nat->Nd):Nat->List ByteArray->Nat×Int
 |a,[]=>(a,0)
 |a,p::ps=>if (M a).K=2 then (if ba (M a).E p<0 then (0,2) else iI M (ba (M a).E p).toNat ps) else (0,4)
def cO (M:Nat->Nd) (p:List ByteArray):Nat×Int:=if lY p=true then iI M 0 p else (0,1)
def bo (M:Nat->Nd) (p:List ByteArray):Nat×Int:=
 if p=[]\/lY p=false then (0,1) else
  if (iI M 0 p.dropLast).2=0/\(M (iI M 0 p.dropLast).1).K≠2 then (0,4) else iI M 0 p.dropLast
def aQ (p:List ByteArray):ByteArray:=p.getLastD ByteArray.empty
def vB (M:Nat->Nd):Option Nat:=(List.range 32).find? λi=>(M i).K==0
def ym (D:List Int) (n:Nat):List Int:=D.take n++List.replicate (n-D.length) 0
def xg (D:List Int) (o:Nat) (x:List Int):List Int:=(ym D (max D.length (o+x.length))).take o++(x++D.drop (o+x.length))
def BB (M:Nat->Nd) (o:iP):(Nat->Nd)×lX:=
 if o.P=[] then (M,cW 3) else
 if (bo M o.P).2≠0 then (M,cW (bo M o.P).2) else
 if 0<=ba (M (bo M o.P).1).E (aQ o.P) then (M,cW 3) else
 match vB M with
 |none=>(M,cW 7)
 |some i=>if (M (bo M o.P).1).E.length<24 then (Rc M (bo M o.P).1 i (1+o.K) (xw (M (bo M o.P).1).E (aQ o.P,(i:Int))),{ fh with N:=(i:Int) }) else (M,cW 7)
def yo (M:Nat->Nd) (o:iP):(Nat->Nd)×lX:=
 if (cO M o.P).2≠0 then (M,cW (cO M o.P).2) else
 if (M (cO M o.P).1).K=2 then (M,cW 5) else
 if (o.K≠4/\o.O<0)\/(o.K≠2/\o.N<0) then (M,cW 1) else
 if o.K=3 then (M,{ fh with D:=((M (cO M o.P).1).D.drop o.O.toNat).take o.N.toNat }) else
 if o.K=4 then
  if 832<o.N then (M,cW 8) else (na M (cO M o.P).1 { M (cO M o.P).1 with D:=ym (M (cO M o.P).1).D o.N.toNat },fh)
 else
  if 832<o.O\/(832:Int)-o.O<o.D.length then (M,cW 8) else
  if o.D=[] then (M,fh) else
   (na M (cO M o.P).1 { M (cO M o.P).1 with D:=xg (M (cO M o.P).1).D o.O.toNat o.D },{ fh with N:=(o.D.length:Int) })
def BX (M:Nat->Nd) (d:Nat) (nm:ByteArray):Nat->Nd:=EM M d (ba (M d).E nm).toNat (iX (M d).E nm)
def qE (M:Nat->Nd) (o:iP):(Nat->Nd)×lX:=
 if o.P=[]/\o.K=5 then (M,cW 5) else
 if (bo M o.P).2≠0 then (M,cW (bo M o.P).2) else
 if ba (M (bo M o.P).1).E (aQ o.P)<0 then (M,cW 2) else
 if o.K=5/\(M (ba (M (bo M o.P).1).E (aQ o.P)).toNat).K=2 then (M,cW 5) else
 if o.K=6/\(M (ba (M (bo M o.P).1).E (aQ o.P)).toNat).K≠2 then (M,cW 4) else
 if o.K=6/\(M (ba (M (bo M o.P).1).E (aQ o.P)).toNat).E≠[] then (M,cW 6) else
 (BX M (bo M o.P).1 (aQ o.P),fh)
def uu (M:Nat->Nd) (i j:Nat):Int:=
 if (M i).K=1/\(M j).K=2 then 5 else if (M i).K=2/\(M j).K=1 then 4 else if (M j).K=2/\(M j).E≠[] then 6 else 0
def Oc (M:Nat->Nd) (d t i:Nat) (nm nm':ByteArray):Nat->Nd:=
 Ka M d t (iX (M d).E nm) (xw (ou M d (iX (M d).E nm) t).E (nm',(i:Int)))
open Classical in
noncomputable def qF (M:Nat->Nd) (o:iP):(Nat->Nd)×lX:=
 if o.P=[]\/o.Q=[] then (M,cW 1) else
 if (bo M o.P).2≠0 then (M,cW (bo M o.P).2) else
 if ba (M (bo M o.P).1).E (aQ o.P)<0 then (M,cW 2) else
 if (bo M o.Q).2≠0 then (M,cW (bo M o.Q).2) else
 if ba (M (bo M o.Q).1).E (aQ o.Q)=ba (M (bo M o.P).1).E (aQ o.P) then (M,fh) else
 if kI M (ba (M (bo M o.P).1).E (aQ o.P)).toNat (bo M o.Q).1 then (M,cW 11) else
 if 0<=ba (M (bo M o.Q).1).E (aQ o.Q) then
  if uu M (ba (M (bo M o.P).1).E (aQ o.P)).toNat (ba (M (bo M o.Q).1).E (aQ o.Q)).toNat≠0 then
   (M,cW (uu M (ba (M (bo M o.P).1).E (aQ o.P)).toNat (ba (M (bo M o.Q).1).E (aQ o.Q)).toNat)) else
   (Oc (BX M (bo M o.Q).1 (aQ o.Q)) (bo M o.P).1 (bo M o.Q).1 (ba (M (bo M o.P).1).E (aQ o.P)).toNat (aQ o.P) (aQ o.Q),fh)
 else
  if (bo M o.P).1≠(bo M o.Q).1/\24<=(M (bo M o.Q).1).E.length then (M,cW 7) else
   (Oc M (bo M o.P).1 (bo M o.Q).1 (ba (M (bo M o.P).1).E (aQ o.P)).toNat (aQ o.P) (aQ o.Q),fh)
def zM (M:Nat->Nd) (o:iP):(Nat->Nd)×lX:=
 if (cO M o.P).2≠0 then (M,cW (cO M o.P).2) else
 if (M (cO M o.P).1).K=2 then (M,cW 5) else
 if o.Q=[] then (M,cW 3) else
 if (bo M o.Q).2≠0 then (M,cW (bo M o.Q).2) else
 if 0<=ba (M (bo M o.Q).1).E (aQ o.Q) then (M,cW 3) else
 if 24<=(M (bo M o.Q).1).E.length then (M,cW 7) else
 (S8 M (bo M o.Q).1 (cO M o.P).1 (xw (M (bo M o.Q).1).E (aQ o.Q,((cO M o.P).1:Int))),fh)
def zN (M:Nat->Nd) (o:iP):lX:=
 if (cO M o.P).2≠0 then cW (cO M o.P).2 else
 if o.K=10 then { fh with N:=((M (cO M o.P).1).D.length+(M (cO M o.P).1).E.length:Nat),K:=(M (cO M o.P).1).K,L:=(M (cO M o.P).1).L,I:=((cO M o.P).1:Int) } else
 if (M (cO M o.P).1).K≠2 then cW 4 else { fh with S:=(M (cO M o.P).1).E }
noncomputable def iJ (M:Nat->Nd) (o:iP):(Nat->Nd)×lX:=
 if o.K=0\/o.K=1 then BB M o else
 if o.K=2\/o.K=3\/o.K=4 then yo M o else
 if o.K=5\/o.K=6 then qE M o else
 if o.K=7 then qF M o else
 if o.K=8 then zM M o else
 if o.K=9\/o.K=10 then (M,zN M o) else
 if o.K=11 then (M,if o.N=1\/o.N=2 then fh else cW 1) else
 if o.K=12 then (M,fh) else (M,cW 1)
theorem CZ {M:Nat->Nd}(h:dB M):∀(p:List ByteArray) (a:Nat),(M a).K≠0->(iI M a p).2=0->(M (iI M a p).1).K≠0/\kI M a (iI M a p).1
 | [],a,ha,_=>⟨ha,.here⟩
 |p::ps,a,ha,he=>by
  unfold iI at he ⊢;by_cases J:(M a).K=2
  ·rw[aB J] at he ⊢
   by_cases U:ba (M a).E p<0
   ·rw[aB U] at he;simp at he
   ·rw[aA U] at he ⊢
    obtain⟨A,X,B,G⟩:=lA (h.rises a) p;have h1:=(lC G λq hq=>(h.lead a q hq).1.1).2 (by omega);have W:(p,ba (M a).E p)∈(M a).E:=by
     have z:=G.eq;rw[h1] at z;exact(cP (λl=>(p,ba (M a).E p)∈l) z).mpr (by simp)
    have z:=h.lead a _ W;have V:=CZ h ps (ba (M a).E p).toNat z.2 he;exact⟨V.1,(kI.step .here ⟨_,W,by show ba (M a).E p=_;omega⟩).trans V.2⟩
  ·rw[aA J] at he;simp at he
theorem nL{M:Nat->Nd}(h:dB M){p:List ByteArray}(z:(cO M p).2=0):(M (cO M p).1).K≠0/\lY p=true:=by
 unfold cO at z ⊢;split at z
 ·next e=>rw[aB e];exact⟨(CZ h p 0 (by rw[h.root];omega) z).1,e⟩
 ·simp at z
theorem pG{M:Nat->Nd}{p:List ByteArray}(z:(bo M p).2=0):(M (bo M p).1).K=2/\ig (bl (aQ p))=true/\p≠[]/\lY p=true:=by
 unfold bo at z ⊢;split at z
 ·simp at z
 ·next e=>
  rw[aA e];have J:p≠[]:=λh=>e (.inl h)
  have G:lY p=true:=by
   cases h:lY p
   ·exact absurd (.inr h) e
   ·rfl
  have V:ig (bl (aQ p))=true:=by
   unfold lY at G;rw[iM] at G;apply G;unfold aQ;cases p with
   |nil=>exact absurd rfl J
   |cons x xs=>rw[List.getLastD_cons,List.getLastD_eq_getLast?];exact(by
     cases hx:(xs.getLast?) with
     |none=>simp
     |some y=>simp;exact .inr (List.mem_of_getLast? hx))
  split at z
  ·simp at z
  ·next e2=>
   rw[aA e2];refine⟨?_,V,J,G⟩;by_cases U:(M (iI M 0 p.dropLast).1).K=2
   ·exact U
   ·exact absurd ⟨z,U⟩ e2
theorem Zd{M:Nat->Nd}(h:dB M){i:Nat}(G:vB M=some i):M i=vQ/\i<32:=by
 unfold vB at G;have J:=List.find?_some G;have U:=List.mem_of_find?_eq_some G;rw[cu] at U;refine⟨?_,U⟩;rcases h.kind i with z|z|z
 ·exact z
 ·simp at J;omega
 ·simp at J;omega
structure mW (M:Nat->Nd):Prop where
 names:∀i,∀e∈(M i).E,ig (bl e.1)=true
 len:∀i,(M i).E.length<=24
 data:∀i,(M i).D.length<=832
 bytes:∀i,∀x∈(M i).D,0<=x/\x<256
theorem mW.up{M:Nat->Nd}(h:mW M)(i:Nat){n:Nd}(G:∀e∈n.E,ig (bl e.1)=true)(V:n.E.length<=24)(U:n.D.length<=832)(J:∀x∈n.D,0<=x/\x<256):mW (na M i n):=by
 have z:∀(P:Nd->Prop),(∀j,P (M j))->P n->∀j,P (na M i n j):=λP a b j=>by unfold na;split;exact b;exact a j
 exact⟨z (λm=>∀e∈m.E,ig (bl e.1)=true) h.names G,z (λm=>m.E.length<=24) h.len V,z (λm=>m.D.length<=832) h.data U,z (λm=>∀x∈m.D,0<=x/\x<256) h.bytes J⟩
theorem mW.ed{M:Nat->Nd}(h:mW M)(d:Nat){E:List (ByteArray×Int)}(z:∀e∈E,ig (bl e.1)=true)(G:E.length<=24):mW (ou M d E):=h.up d z G (h.data d) (h.bytes d)
theorem yq (D:List Int)(n:Nat):(ym D n).length=n:=by unfold ym;simp;omega
theorem Kb (D:List Int)(o:Nat)(x:List Int):(xg D o x).length=max D.length (o+x.length):=by unfold xg;simp[yq];omega
theorem Od (h:y∈ym D n):y∈D\/y=0:=by
 unfold ym at h;rcases aR.1 h with z|z
 ·exact .inl (bL z)
 ·exact .inr (ib z)
theorem VC{o:Nat}{x:List Int}(h:y∈xg D o x):y∈D\/y=0\/y∈x:=by
 unfold xg at h;simp only[aR] at h;rcases h with z|z|z
 ·rcases Od (bL z) with G|G
  ·exact .inl G
  ·exact .inr (.inl G)
 ·exact .inr (.inr z)
 ·exact .inl (gj z)
theorem pH{e:ByteArray×Int}(h:e∈iX E nm):e∈E:=(List.mem_filter.1 h).1
theorem vC (E:List (ByteArray×Int))(nm:ByteArray):(iX E nm).length<=E.length:=fe _ _
theorem G1 {x e:ByteArray×Int}:∀{E:List (ByteArray×Int)},e∈xw E x->e=x\/e∈E
 | [],h=> .inl (by simpa[xw] using h)
 |p::E,h=>by
  unfold xw at h;split at h
  ·rcases aM.1 h with z|z
   ·exact .inl z
   ·exact .inr z
  ·rcases aM.1 h with z|z
   ·exact .inr (by rw[z];simp)
   ·rcases G1 z with G|G
    ·exact .inl G
    ·exact .inr (by simp[G])
theorem vD (x:ByteArray×Int):∀E:List (ByteArray×Int),(xw E x).length=E.length+1
 | []=>rfl
 |p::E=>by
  unfold xw;split
  ·rfl
  ·simp[vD x E]
theorem yr{M:Nat->Nd}(h:dB M)(d:Nat)(nm:ByteArray):ba (M d).E nm<0\/(0<=ba (M d).E nm/\∃A B,iH (M d).E A [(nm,ba (M d).E nm)] B nm/\iX (M d).E nm=A++B/\(iX (M d).E nm).length+1=(M d).E.length):=by
 obtain⟨A,X,B,z⟩:=lA (h.rises d) nm;have J:=lC z λq U=>(h.lead d q U).1.1
 rcases Int.lt_or_le (ba (M d).E nm) 0 with G|G
 ·exact .inl G
 ·have V:=J.2 G
  subst V;refine .inr ⟨G,A,B,z,tE z,?_⟩;rw[tE z];have :=cP List.length z.eq;simp at this ⊢;omega
theorem BC{M:Nat->Nd}(h:dB M){d:Nat}{nm:ByteArray}(J:ba (M d).E nm<0):∃A B,iH (M d).E A [] B nm/\∀i,xw (M d).E (nm,i)=A++([(nm,i)]++B):=by
 obtain⟨A,X,B,z⟩:=lA (h.rises d) nm;have G:=(lC z λq U=>(h.lead d q U).1.1).1.1 J;subst G;exact⟨A,B,z,λi=>Av z i⟩
theorem iY{M:Nat->Nd}(h:dB M){d:Nat}{nm:ByteArray}(V:0<=ba (M d).E nm):Edge M d (ba (M d).E nm).toNat/\(M (ba (M d).E nm).toNat).K≠0/\(((ba (M d).E nm).toNat:Nat):Int)=ba (M d).E nm/\ba (M d).E nm<32:=by
 rcases yr h d nm with G|⟨G,A,B,J,-⟩
 ·omega
 ·have z:Edge M d (ba (M d).E nm).toNat:=⟨(nm,ba (M d).E nm),by
   exact(cP (λl=>(nm,ba (M d).E nm)∈l) J.eq).mpr (by simp),by show ba (M d).E nm=_;omega⟩
  have U:=h.dir z;exact⟨z,U.2.2.1,by omega,by omega⟩
theorem Oe (nm:ByteArray):ba (iX E nm) nm<0:=by
 rw[Aq]
 ·omega
 ·intro p h
  have :=(List.mem_filter.1 h).2;simpa using this
theorem mW.del{M:Nat->Nd}(h:mW M)(d:Nat)(nm:ByteArray):mW (ou M d (iX (M d).E nm)):=h.ed d (λe z=>h.names d e (pH z)) (cL (vC _ _) (h.len d))
theorem mW.ins{M:Nat->Nd}(h:mW M)(d:Nat){nm:ByteArray}(G:ig (bl nm)=true)(i:Int)(U:(M d).E.length<24):mW (ou M d (xw (M d).E (nm,i))):=h.ed d (λe J=>by
 rcases G1 J with rfl|z
 ·exact G
 ·exact h.names d e z) (by rw[vD];omega)
theorem S9{M:Nat->Nd}(h:dB M)(hF:mW M){d:Nat}{nm:ByteArray}(hf:0<=ba (M d).E nm)(hE:(M (ba (M d).E nm).toNat).E=[]):dB (BX M d nm)/\mW (BX M d nm):=by
 rcases yr h d nm with J|⟨J,A,B,W,U,hl⟩
 ·omega
 ·obtain⟨z,hk,V,-⟩:=iY h hf
  constructor
  ·have :=h.removed (j:=(ba (M d).E nm).toNat) (nm:=nm) (A:=A) (B:=B) hE (by rw[V];exact W)
   unfold BX;rw[U];exact this
  ·have G:mW (na M (ba (M d).E nm).toNat (if (M (ba (M d).E nm).toNat).L=1 then vQ else { M (ba (M d).E nm).toNat with L:=(M (ba (M d).E nm).toNat).L-1 })):=by
    refine hF.up _ ?_ ?_ ?_ ?_
    ·split
     ·intro e z;simp[vQ] at z
     ·exact hF.names _
    ·split
     ·simp[vQ]
     ·exact hF.len _
    ·split
     ·simp[vQ]
     ·exact hF.data _
    ·split
     ·intro e z;simp[vQ] at z
     ·exact hF.bytes _
   exact G.ed d (λe z=>hF.names d e (pH z)) (cL (vC _ _) (hF.len d))
theorem Ta{M:Nat->Nd}(h:dB M)(hF:mW M){d t i:Nat}{nm nm':ByteArray}(hf:ba (M d).E nm=(i:Int))(ht:(M t).K=2)(hn:ba (M t).E nm'<0\/(d=t/\nm=nm'))(hb:¬kI M i t)(hg:ig (bl nm')=true)(hl:d=t\/(M t).E.length<24):
  dB (Oc M d t i nm nm')/\mW (Oc M d t i nm nm'):=by
 rcases yr h d nm with h1|⟨h1,A,B,hs,hd,aa⟩
 ·omega
 ·rw[hf] at hs
  have hr:yc (ou M d (iX (M d).E nm) t).E:=by
   rw[oQ];split
   ·rw[hd];simpa using hs.rises (h.rises d) [] (.inl rfl)
   ·exact h.rises t
  have W:∀p∈(ou M d (iX (M d).E nm) t).E,0<=p.2:=λp U=>by
   rw[oQ] at U;split at U
   ·exact(h.lead d p (pH U)).1.1
   ·exact(h.lead t p U).1.1
  have V:ba (ou M d (iX (M d).E nm) t).E nm'<0:=by
   rw[oQ];split
   ·next e=>
    by_cases en:nm=nm'
    ·rw[<-en];exact Oe nm
    ·rcases hn with J|J
     ·rw[Aq]
      ·omega
      ·intro p U
       rw[e] at J;intro e2;obtain⟨A2,X2,B2,G⟩:=lA (h.rises d) nm';have h4:=(lC G λq hq=>(h.lead d q hq).1.1).1.1 J;subst h4;have h5:p∈A2++B2:=by have :=G.eq;rw[bN] at this;rw[<-this];exact pH U
       rcases aR.1 h5 with h6|h6
       ·exact tz (G.ahead p h6) e2
       ·exact tz (G.behind p h6) e2.symm
     ·exact absurd J.2 en
   ·next e=>
    rcases hn with J|J
    ·exact J
    ·exact absurd J.1.symm e
  obtain⟨A',X,B',z⟩:=lA hr nm';have h3:=(lC z W).1.1 V;subst h3;have hi:=Av z (i:Int);constructor
  ·unfold Oc
   rw[hi,hd];rw[hd] at z;exact h.moved hs ht z hb
  ·unfold Oc Ka
   refine(hF.del d nm).ins t hg _ ?_;rw[oQ];split
   ·next e=>rw[<-e] at aa ⊢;have :=hF.len d;rw[<-e] at this;omega
   ·next e=>
    rcases hl with h4|h4
    ·exact absurd h4.symm e
    ·exact h4
def acj (o:iP):Prop:=∀x∈o.D,0<=x/\x<256
theorem VD{M:Nat->Nd}(h:dB M)(hF:mW M){o:iP}(hK:o.K=0\/o.K=1):dB (BB M o).1/\mW (BB M o).1:=by
 unfold BB;split
 ·exact⟨h,hF⟩
 ·split
  ·exact⟨h,hF⟩
  ·next hp=>
   have z:=pG (M:=M) (p:=o.P) (Decidable.not_not.1 hp);split
   ·exact⟨h,hF⟩
   ·next hn=>
    cases hi:vB M with
    |none=>exact⟨h,hF⟩
    |some i=>
     dsimp only
     split
     ·next hl=>
      obtain⟨U,W⟩:=Zd h hi;obtain⟨A,B,hs,G⟩:=BC h (d:=(bo M o.P).1) (nm:=aQ o.P) (by omega);refine⟨?_,?_⟩
      ·dsimp only
       rw[G];exact h.made z.1 U W (by omega) hs
      ·have J:(bo M o.P).1≠i:=λe=>by
        have :=z.1;rw[e,U] at this;simp[vQ] at this
       have h1:mW (na M i ⟨1+o.K,1,[],[]⟩):=hF.up i (λe G=>by simp at G) (by simp) (by simp) (λe G=>by simp at G);have V:=h1.ins (bo M o.P).1 (nm:=aQ o.P) z.2.1 (i:Int) (by rw[dH _ _ J];exact hl);rw[dH _ _ J] at V;exact V
     ·exact⟨h,hF⟩
theorem VE{M:Nat->Nd}(h:dB M)(hF:mW M){o:iP}(W:acj o):dB (yo M o).1/\mW (yo M o).1:=by
 unfold yo;split
 ·exact⟨h,hF⟩
 ·next hw=>
  have U:=nL h (p:=o.P) (Decidable.not_not.1 hw);split
  ·exact⟨h,hF⟩
  ·next hk=>
   have J:(M (cO M o.P).1).K=1:=by
    rcases h.kind (cO M o.P).1 with G|G|G
    ·exact absurd (by rw[G];rfl) U.1
    ·exact G.1
    ·exact absurd G.1 hk
   split
   ·exact⟨h,hF⟩
   ·next hneg=>
    split
    ·exact⟨h,hF⟩
    ·next h3=>
     split
     ·next h4=>
      split
      ·exact⟨h,hF⟩
      ·next hN=>
       refine⟨h.data J _,hF.up _ (hF.names _) (hF.len _) ?_ ?_⟩
       ·show(ym _ _).length<=832
        rw[yq];omega
       ·intro x V
        rcases Od V with z|z
        ·exact hF.bytes _ x z
        ·omega
     ·split
      ·exact⟨h,hF⟩
      ·next hl=>
       split
       ·exact⟨h,hF⟩
       ·refine⟨h.data J _,hF.up _ (hF.names _) (hF.len _) ?_ ?_⟩
        ·show(xg _ _ _).length<=832
         rw[Kb];have :=hF.data (cO M o.P).1;omega
        ·intro x V
         rcases VC V with z|z|z
         ·exact hF.bytes _ x z
         ·omega
         ·exact W x z
theorem Og{M:Nat->Nd}(h:dB M)(hF:mW M){o:iP}(J:o.K=5\/o.K=6):dB (qE M o).1/\mW (qE M o).1:=by
 unfold qE;split
 ·exact⟨h,hF⟩
 ·split
  ·exact⟨h,hF⟩
  ·split
   ·exact⟨h,hF⟩
   ·next hf=>
    split
    ·exact⟨h,hF⟩
    ·next h5=>
     split
     ·exact⟨h,hF⟩
     ·next h6=>
      split
      ·exact⟨h,hF⟩
      ·next h7=>
       refine S9 h hF (by omega) ?_;obtain⟨-,U,-⟩:=iY h (d:=(bo M o.P).1) (nm:=aQ o.P) (by omega);rcases h.kind (ba (M (bo M o.P).1).E (aQ o.P)).toNat with z|z|z
       ·rw[z];rfl
       ·exact z.2
       ·by_cases e:(M (ba (M (bo M o.P).1).E (aQ o.P)).toNat).E=[]
        ·exact e
        ·rcases J with G|G
         ·exact absurd ⟨G,z.1⟩ h5
         ·exact absurd ⟨G,e⟩ h7
theorem VF{M:Nat->Nd}(h:dB M)(hF:mW M)(o:iP):dB (zM M o).1/\mW (zM M o).1:=by
 unfold zM;split
 ·exact⟨h,hF⟩
 ·next hw=>
  have U:=nL h (p:=o.P) (Decidable.not_not.1 hw);split
  ·exact⟨h,hF⟩
  ·next hk=>
   have V:(M (cO M o.P).1).K=1:=by
    rcases h.kind (cO M o.P).1 with z|z|z
    ·exact absurd (by rw[z];rfl) U.1
    ·exact z.1
    ·exact absurd z.1 hk
   split
   ·exact⟨h,hF⟩
   ·split
    ·exact⟨h,hF⟩
    ·next hp=>
     have G:=pG (M:=M) (p:=o.Q) (Decidable.not_not.1 hp);split
     ·exact⟨h,hF⟩
     ·next hn=>
      split
      ·exact⟨h,hF⟩
      ·next hl=>
       obtain⟨A,B,hs,he⟩:=BC h (d:=(bo M o.Q).1) (nm:=aQ o.Q) (by omega);refine⟨?_,?_⟩
       ·dsimp only
        rw[he];exact h.linked G.1 V hs
       ·have J:(bo M o.Q).1≠(cO M o.P).1:=λe=>by
         have :=G.1;rw[e] at this;omega
        have z:mW (na M (cO M o.P).1 { M (cO M o.P).1 with L:=(M (cO M o.P).1).L+1 }):=hF.up _ (hF.names _) (hF.len _) (hF.data _) (hF.bytes _);have W:=z.ins (bo M o.Q).1 (nm:=aQ o.Q) G.2.1 ((cO M o.P).1:Int) (by rw[dH _ _ J];omega);rw[dH _ _ J] at W;exact W
theorem kI.sub{M M':Nat->Nd}(h:∀a b,Edge M' a b->Edge M a b){d x:Nat}(k:kI M' d x):kI M d x:=kI.mono h k
theorem Ze{M:Nat->Nd}{d:Nat}(G:(M (ba (M d).E nm).toNat).E=[]):
  (∀x,(BX M d nm x).E=if x=d then iX (M d).E nm else (M x).E)/\(∀x,x≠(ba (M d).E nm).toNat->(BX M d nm x).K=(M x).K)/\(∀a b,Edge (BX M d nm) a b->Edge M a b):=by
 have J:∀x,(BX M d nm x).E=if x=d then iX (M d).E nm else (M x).E:=λx=>by
  unfold BX EM;rw[oQ];by_cases e:x=d
  ·rw[aB e,aB e]
  ·rw[aA e,aA e]
   unfold na;by_cases h:x=(ba (M d).E nm).toNat
   ·rw[aB h,h,G]
    split
    ·rfl
    ·exact G
   ·rw[aA h]
 refine⟨J,λx U=> ?_,λa b ⟨e,z,V⟩=>⟨e,?_,V⟩⟩
 ·unfold BX EM
  rw[(yj _ _ _ x).1,dH _ _ U]
 ·rw[J] at z
  split at z
  ·next h=>rw[h];exact pH z
  ·exact z
theorem Oh{M:Nat->Nd}(h:dB M)(hF:mW M)(o:iP):dB (qF M o).1/\mW (qF M o).1:=by
 unfold qF;split
 ·exact⟨h,hF⟩
 ·split
  ·exact⟨h,hF⟩
  ·split
   ·exact⟨h,hF⟩
   ·next hf=>
    split
    ·exact⟨h,hF⟩
    ·next hq=>
     have W:=pG (M:=M) (p:=o.Q) (Decidable.not_not.1 hq);split
     ·exact⟨h,hF⟩
     ·next hne=>
      split
      ·exact⟨h,hF⟩
      ·next hc=>
       obtain⟨ak,xa,Pw,jr⟩:=iY h (d:=(bo M o.P).1) (nm:=aQ o.P) (by omega);generalize (bo M o.P).1=d,(bo M o.Q).1=t,aQ o.P=nm,aQ o.Q=nm' at *;split
       ·next Oi=>
        obtain⟨ah,ar,av,ai⟩:=iY h (d:=t) (nm:=nm') Oi;split
        ·exact⟨h,hF⟩
        ·next hov=>
         have hE:(M (ba (M t).E nm').toNat).E=[]:=by
          have U:uu M (ba (M d).E nm).toNat (ba (M t).E nm').toNat=0:=Decidable.not_not.1 hov;unfold uu at U;rcases h.kind (ba (M t).E nm').toNat with G|G|G
          ·rw[G];rfl
          ·exact G.2
          ·split at U
           ·omega
           ·split at U
            ·omega
            ·split at U
             ·omega
             ·next h2=>
              by_cases e:(M (ba (M t).E nm').toNat).E=[]
              ·exact e
              ·exact absurd ⟨G.1,e⟩ h2
         obtain⟨aa,ag⟩:=S9 h hF Oi hE;obtain⟨kE,kK,kB⟩:=Ze hE;have aj:(ba (M d).E nm).toNat≠(ba (M t).E nm').toNat:=λe=>hne (by omega)
         have af:t≠(ba (M t).E nm').toNat:=h.notSelf ah;refine Ta aa ag ?_ ?_ ?_ ?_ W.2.1 ?_
         ·rw[kE]
          split
          ·next e=>
           subst e
           -- another name of the same directory
           have ae:nm≠nm':=λe=>by subst e;exact hne rfl
           rw[Pw];obtain⟨A,X,B,hs⟩:=lA (h.rises d) nm;have G:=(lC hs λq hq=>(h.lead d q hq).1.1).2 (by omega);have J:(nm,ba (M d).E nm)∈iX (M d).E nm':=by
            refine List.mem_filter.2 ⟨?_,by simpa using ae⟩;have h2:=hs.eq;rw[G] at h2;exact(cP (λl=>(nm,ba (M d).E nm)∈l) h2).mpr (by simp)
           obtain⟨A2,X2,B2,z⟩:=lA (aa.rises d) nm;have Mf:(BX M d nm' d).E=iX (M d).E nm':=by rw[kE,aB rfl]
           rw[Mf] at z;have h3:=lC z λq hq=>(h.lead d q (pH hq)).1.1
           have h4:X2≠[]:=λe=>by
            subst e;have h5:=z.eq;rw[bN] at h5;rw[h5] at J;rcases aR.1 J with V|V
            ·exact mo _ (z.ahead _ V)
            ·exact mo _ (z.behind _ V)
           have h5:0<=ba (iX (M d).E nm') nm:=by
            rcases Int.lt_or_le (ba (iX (M d).E nm') nm) 0 with V|V
            ·exact absurd (h3.1.1 V) h4
            ·exact V
           have V:=h3.2 h5
           -- both stand in the same rising list
           have h7:=z.eq;rw[V] at h7;have h8:(nm,ba (M d).E nm)∈A2++([(nm,ba (iX (M d).E nm') nm)]++B2):=h7▸J;simp only[aR,au] at h8;rcases h8 with h9|h9|h9
           ·exact absurd (z.ahead _ h9) (mo _)
           ·exact(cP Prod.snd h9).symm
           ·exact absurd (z.behind _ h9) (mo _)
          ·exact Pw.symm
         ·rw[kK t af];exact W.1
         ·left
          rw[kE,aB rfl];exact Oe nm'
         ·exact λac=>hc (ac.sub kB)
         ·rw[kE,aB rfl]
          rcases yr h t nm' with G|⟨-,A,B,-,-,hl⟩
          ·omega
          ·have :=hF.len t
           right;omega
       ·next Oi=>
        split
        ·exact⟨h,hF⟩
        ·next hl=>
         refine Ta h hF Pw.symm W.1 (.inl (by omega)) hc W.2.1 ?_;by_cases e:d=t
         ·exact .inl e
         ·right
          rcases dF (M t).E.length 24 with G|G
          ·exact G
          ·exact absurd ⟨e,G⟩ hl
theorem acm{M:Nat->Nd}(h:dB M)(hF:mW M){o:iP}(z:acj o):dB (iJ M o).1/\mW (iJ M o).1:=by
 unfold iJ;split
 ·next h0=>exact VD h hF h0
 ·split
  ·exact VE h hF z
  ·split
   ·next h0=>exact Og h hF h0
   ·split
    ·exact Oh h hF o
    ·split
     ·exact VF h hF o
     ·split
      ·exact⟨h,hF⟩
      ·split
       ·exact⟨h,hF⟩
       ·split
        ·exact⟨h,hF⟩
        ·exact⟨h,hF⟩
end
end Go.Proofs.YtimcfdnbpkiniaaGreatDoor
