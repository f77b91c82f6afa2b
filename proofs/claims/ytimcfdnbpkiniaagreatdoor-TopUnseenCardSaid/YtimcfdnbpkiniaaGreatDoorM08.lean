/- Lemmas. -/
import Derived.Test.YtimcfdnbpkiniaaGreatDoorM07
import Derived.Deep.RegionHeld3
set_option maxHeartbeats 8000000
set_option maxRecDepth 100000
namespace Go.Proofs.YtimcfdnbpkiniaaGreatDoor
open Go.Proofs.Tryz
section
open Go.RowKit Go.Shelf
variable{w w5:World}{n:bS}{own z:List Nat}{J T U W b cap g gp k:Nat}{a:Option Addr}{E:List (ByteArray×Int)}{v:Value}{B l:List Int}{ps:List (Int×Int)}
attribute [local go_sem] jV
theorem Tryz.info_r8:(prog.info? 132).map (λi=>(i.zero,i.size,i.bytes))=some (some (.agg #[.int .u64 0,.int .u64 0,.int .u64 0,.int .u64 0,.int .u64 0,.int .u64 0,.int .u64 0,.int .u64 0]),8,64):=by kernel_rfl
theorem Uv (n:Nat)(W:n<=100000)(m:Int)(U:m=(n:Int))(w:World):(Instr.makeSlice 234 (.int .i64 m) (.int .i64 m)).run prog w=
  .ok (.slice w.heap.size n n) (w.alloc (.cells (madeCells #[.int .u64 0,.int .u64 0,.int .u64 0,.int .u64 0,.int .u64 0,.int .u64 0,.int .u64 0,.int .u64 0] (n*8)) 132)):=by
 subst U;obtain⟨J,V,z,h,G⟩:=df Tryz.info_r8;have :=run_make (P:= prog) w 234 132 J _ underlying234 V z .i64 .i64 (n:Int) (n:Int) (by omega) (by omega) (by rw[G];omega) (by omega);rw[h,aF] at this;exact this
theorem Uw (n:Nat):madeCells #[Value.int .u64 0,.int .u64 0,.int .u64 0,.int .u64 0,.int .u64 0,.int .u64 0,.int .u64 0,.int .u64 0] (n*8)=(aX (List.replicate (8*n) 0)).toArray:=by
 apply Array.toList_inj.1;apply cG;intro j;simp only[madeCells,Array.toList_map,Array.toList_range,bO,aX,jP,bB];by_cases h:j<n*8
 ·rw[cU h,aB]
  have z:j%8<8:=ij _ (by omega);show some ((#[Value.int .u64 0,.int .u64 0,.int .u64 0,.int .u64 0,.int .u64 0,.int .u64 0,.int .u64 0,.int .u64 0]:Array Value)[j%8]!)=_;generalize j%8=q at *;rcases (show q=0\/q=1\/q=2\/q=3\/q=4\/q=5\/q=6\/q=7 by omega) with rfl|rfl|rfl|rfl|rfl|rfl|rfl|rfl<;>rfl
 grind
structure Gi (w5 wx:World) (n:bS) (own:List Nat) (gB wB fB:Nat) (b:Nat) (pre:List Nat):Prop where
 keep:ay [gB,wB,fB] w5 wx
 rows:∃C,CB n.E own b pre C/\bc wx gB (aX C).toArray 132
 row:bc wx wB (aX (rC n own b pre.length)).toArray 132
 fill:bc wx fB #[((fO n.E b+pre.length:Nat):Int)] 3
def adf (D:Nat):Deferred:={ target:= .collected D,args:= #[] }
theorem ml {P:Program}{n:Nat}{fn:Func}{tmps:Array Value}{R:Ending->World->Prop}:∀(G:List Nat) (W:World),G.Nodup->(∀D∈G,W.heap[D]? =some (.deferred (some [])))->
  (∀z,ay G W z->∃v,(results fn tmps).run P z= .ok v z/\R (.returned v) z)->LeavesInM Fence.wide n P fn tmps R (G.map adf) .returning W
 | [],W,_,_,h=>h W (ay.refl _ _)
 |D::G,W,hn,hm,h=>by
  have V:=hm D (by simp);have aa:=(Array.getElem?_eq_some_iff.1 V).1;have J:ay [D] W (W.putObj D (.deferred none)):=ay.of_grown (grownBy_putObj' W D _) λk J=> .inl (by cases J;simp)
  refine⟨by simp,.inl ⟨D,_,rfl,run_takeDeferred V,?_⟩⟩;rw[List.nodup_cons] at hn;refine ml G _ hn.2 (λD' ac=> ?_) λz U=>h z ?_
  ·grind [World.putObj_heap_other]
  ·exact(J.mono).trans' (U.mono λk J _=>List.mem_cons_of_mem _ J)
theorem Gi.turn{A A':World}{V:Nat}(h:Gi w5 A n own V U W b z){row:Option Nat}{B:Nat}(J:A.grownBy A' row)(G:∀r,row=some r->B<=r/\∃o:Obj,A.heap[r]? =some o/\o.isCells=false)(hB:w5.heap.size<=B):Gi w5 A' n own V U W b z:=by
 obtain⟨h1,⟨C,h2,h3⟩,h4,h5⟩:=h;exact⟨h1.turn J (λr e=>(G r e).1) hB,⟨C,h2,h3.turn J λr e=>(G r e).2⟩,h4.turn J λr e=>(G r e).2,h5.turn J λr e=>(G r e).2⟩
def Ux (E:List (ByteArray×Int)) (h z b p:Nat):Addr:=if p=0 then ⟨z,2+b,none⟩ else ⟨h,8*(fO E b+p-1),none⟩
theorem Gi.link{W:World}{fB f:Nat}(h:Gi w5 W n own U J fB b z)(hb:b<4)(hf:f=fO n.E b+z.length)(ac:f<own.length)(aa:U≠J):
  ∃G lo C1 ae,Ux n.E U J b z.length=⟨G,lo,none⟩/\(G=U\/G=J)/\W.cell? ⟨G,lo,none⟩=some (.int .u64 ae)/\W.frozen? ⟨G,lo,none⟩=false/\8*f+7<C1.length/\
   (∀x,CB n.E own b (z++[x]) (Gg C1 (8*f+1) (eU (AJ (eD n.E b) x))))/\
   bc (W.drew.setCell ⟨G,lo,none⟩ (.int .u64 ((own.getD f 0:Nat):Int))) U (aX C1).toArray 132/\bc (W.drew.setCell ⟨G,lo,none⟩ (.int .u64 ((own.getD f 0:Nat):Int))) J (aX (rC n own b (z.length+1))).toArray 132 :=by
 obtain⟨C,hC,L9⟩:=h.rows;by_cases V:z.length=0
 ·refine⟨J,2+b,C,(rC n own b z.length).getD (2+b) 0,by rw[Ux,aB V],.inr rfl,by rw[h.row.cell,aG,dM (by rw[xR];omega)],h.row.frozen _,by rw[hC.len];omega,λx=>hC.step x f hf ac (by rw[aB V]),L9.drew.other aa _,?_⟩
  have :=h.row.drew.set (2+b) (.int .u64 ((own.getD f 0:Nat):Int));rw[ag,mz] at this;have e:(rC n own b z.length).set (2+b) ((own.getD f 0:Nat):Int)=rC n own b (z.length+1):=by
   grind [Yb]
  rw[e] at this;exact this
 ·have hl:8*(fO n.E b+z.length-1)<C.length:=by rw[hC.len];omega
  refine⟨U,8*(fO n.E b+z.length-1),C.set (8*(f-1)) ((own.getD f 0:Nat):Int),C.getD (8*(fO n.E b+z.length-1)) 0,by rw[Ux,aA V],.inl rfl,by rw[L9.cell,aG,dM hl],L9.frozen _,by rw[dg,hC.len];omega,λx=>hC.step x f hf ac (by rw[aA V]),?_,?_⟩
  ·have :=L9.drew.set (8*(fO n.E b+z.length-1)) (.int .u64 ((own.getD f 0:Nat):Int))
   grind [mz]
  ·rw[<-Us n own b z.length V]
   exact h.row.drew.other (λe=>aa e.symm) _
theorem Uy{len:Nat}{l:List (ByteArray×Int)}(h:bD w (.slice a len cap) g l)(x:Nat):bD w (chV a len x) g (AJ l x):=by
 obtain⟨a',c',J,h2,h3,V⟩:=h;cases J;by_cases G:l.length=0
 ·have z:(AJ l x).length=0:=by rw[pC,G];omega
  refine⟨?_,?_,?_,?_,?_,λh=>absurd z h⟩
  ·exact match a with|some ⟨g,off,_⟩=>some ⟨g,off+x*3*2,none⟩|none=>none
  ·exact 0
  ·grind [chV]
  ·rw[z];exact aI _
  ·unfold maxLen;omega
 ·obtain⟨W,off,rfl,U⟩:=V G
  refine⟨some ⟨g,off+x*3*2,none⟩,min 3 (l.length-3*x),by rw[pC];rfl,by rw[pC];exact aI _,by unfold maxLen;omega,λ_=>⟨W,_,rfl,λj hj=> ?_⟩⟩
  grind [AJ,eY,jq]
theorem EW (l:List (ByteArray×Int))(x j:Nat)(h:j<(AJ l x).length):3*x+j<l.length/\eY (AJ l x) j=eY l (3*x+j)/\jq (AJ l x) j=jq l (3*x+j):=by
 grind [AJ,eY,jq]
theorem EX (h:k<(eD E b).length):∃j,j<E.length/\eY (eD E b) k=eY E j/\jq (eD E b) k=jq E j:=by
 have z:(eY (eD E b) k,jq (eD E b) k)∈E:=(List.mem_filter.1 (XC h)).1;obtain⟨j,G,e⟩:=b9 z;have :E.getD j (ByteArray.empty,0)=E[j]:=by simp[G]
 grind [eY,jq]
theorem ad6 (h:xN E)(b x:Nat):xN (AJ (eD E b) x):=by
 refine⟨by rw[pC];omega,λk J=> ?_,λk J=> ?_⟩
 ·obtain⟨z,W,U⟩:=EW _ _ _ J
  obtain⟨j,G,V,e2⟩:=EX z;rw[W,V];exact h.size j G
 ·obtain⟨z,W,U⟩:=EW _ _ _ J
  obtain⟨j,G,V,e2⟩:=EX z;rw[U,e2];exact h.ino j G
theorem Qt (n:bS)(v:Value)(g:Nat)(hB:n.B.length=13)(ht:zD n)(hE:bD w v g n.E)(b9:xN n.E)(dA:n.E.length<=1000)(vo:Value)(go:Nat)(own:List Nat)(hO:Reads w vo go (dJ own))(uW:fO n.E 4=own.length)(wq:∀c∈own,c<256):
  Calls prog 212 #[aL n v,vo] w (pA w (Gf n own) (xQ n.E own 4)):=by
 have dO:own.length<=4000:=by
  have U:=kv n.E 0;have V:=kv n.E 1;have h3:=kv n.E 2;have h4:=kv n.E 3;simp only[fO,dN] at uW;omega
 obtain⟨ao,co,rfl,Ng,dG,SC⟩:=sU hO;have HH:=ar (ET n v hB ht);obtain⟨W0,aF⟩:∃W0,W0=((w.alloc (.cells (aL n v) 75)).alloc (.cells #[.slice ao own.length co] 76)).alloc (.cells (aX (List.replicate 8 0)).toArray 132):=⟨_,rfl⟩;have aS:bc W0 w.heap.size (aL n v) 75 :=by
  rw[aF];exact((bc.new w _ _).alloc _).alloc _
 have bl:bc W0 (w.heap.size+1) #[.slice ao own.length co] 76 :=by
  have :=bc.new (w.alloc (.cells (aL n v) 75)) #[.slice ao own.length co] 76;have e:(w.alloc (.cells (aL n v) 75)).heap.size=w.heap.size+1:=by simp
  rw[e] at this;rw[aF];exact this.alloc _
 have JK:Hid (bc W0 (w.heap.size+2) (aX (List.replicate 8 0)).toArray 132):=by
  have :=bc.new ((w.alloc (.cells (aL n v) 75)).alloc (.cells #[.slice ao own.length co] 76)) (aX (List.replicate 8 0)).toArray 132;have e:((w.alloc (.cells (aL n v) 75)).alloc (.cells #[.slice ao own.length co] 76)).heap.size=w.heap.size+2:=by simp
  rw[e,<-aF] at this;exact this
 have fG:Hid (ay [] w W0):=by
  rw[aF];exact(((ay.refl [] w).alloc _).alloc _).alloc _
 have uP:=ar (bZ aS hB);have KW:Hid (∀G,ay [] W0 G->G.cell? ⟨w.heap.size,17,none⟩=some v):=λG J=>by rw[(aS.keep J).cell];exact Aa _ hB
 have bp:Hid (∀G,ay [] W0 G->G.cell? (w.heap.size+1:Nat)=some (.slice ao own.length co)):=λG J=>by rw[(bl.keep J).cell];rfl
 have xp:Hid (∀G,ay [] w G->Calls prog 211 #[v] G (vZ G n.E)):=λG J=>JH (hE.keep J) (by omega) b9.size
 have cO:=kV;obtain⟨rf,pO,zC⟩:=hh3 aF aS bl;have MZ:Hid (uQ n=rC n own 0 0):=(Uq n own).symm;have X6:=Cu n;generalize uQ n=H,aL n v=Z at *;clear aS bl aF hB hE hO ht;generalize vW:(aX (List.replicate 8 0)).toArray=Z8 at *;have xz:=ar vW;clear vW;refine(callsIn_wide (n:=3)).1 (callsIn_of_wp_marks func212 rfl trivial (wpIn_wide.2 ?_) rfl);simp only[ntmps212,bP,cA,cD,Nat.reduceAdd,Nat.reduceSub,fX,fY,iA,gU,bN,iO];go_wp2_with((with_reducible show wpList _ _ _ (⟨_,.load 75 (.tmp 2),_,_,_,_⟩::_) _ _);rw[<-rf.out];refine gH rfl 75 (.tmp 2) rfl _ rfl _ uP.out ?_);refine Rr (HH.out _) λw1 aV=> ?_;obtain⟨w2,bu,tX,ax⟩:=bE (P:= prog) (ty:= 132) (cs:=aX H) (by rw[bA,X6];exact iZ) (bc.new w1 Z8 132) (by rw[<-xz.out];simp[bA,X6]) (fk _);have uB:ay [] W0 w2:=(aV.alloc (.cells Z8 132)).trans ax (by intro x hx;rw[au] at hx;have :=aV.size;omega);obtain⟨bY,SB,fC⟩:=hh3 bu tX uB;have c3:=bp.out w2 uB;have dH:w.heap.size+2<w1.heap.size:=bQ JK.out.lt aV.size;have dQ:w1.heap.size<w2.heap.size:=tX.lt;have af:=Uv own.length (by omega) (own.length:Int) rfl w2;rw[Uw] at af;obtain⟨W3,az⟩:∃W3,W3=((w2.alloc (.cells (aX (List.replicate (8*own.length) 0)).toArray 132)).alloc (.cells #[.slice w2.heap.size own.length own.length] 234)).alloc (.cells #[(0:Int)] 3):=⟨_,rfl⟩;have ny:ay [] w2 W3:=by
  rw[az];exact(((ay.refl [] w2).alloc _).alloc _).alloc _
 have EE:ay [] W0 W3:=uB.trans' ny;have bX:=KW.out W3 EE;rw[az] at bX;obtain⟨dc,og⟩:=hh2 (bp.out W3 EE) (fG.out.trans' EE);have aU:Hid (bc W3 w2.heap.size (aX (List.replicate (8*own.length) 0)).toArray 132):=by
  rw[az];exact((bc.new w2 _ _).alloc _).alloc _
 have cr:Hid (bc W3 (w2.heap.size+1) #[.slice w2.heap.size own.length own.length] 234):=by
  have :=bc.new (w2.alloc (.cells (aX (List.replicate (8*own.length) 0)).toArray 132)) #[.slice w2.heap.size own.length own.length] 234;have e:(w2.alloc (.cells (aX (List.replicate (8*own.length) 0)).toArray 132)).heap.size=w2.heap.size+1:=by simp
  rw[e] at this;rw[az];exact this.alloc _
 have bH:Hid (bc W3 (w2.heap.size+1+1) #[(0:Int)] 3):=by
  have :=bc.new ((w2.alloc (.cells (aX (List.replicate (8*own.length) 0)).toArray 132)).alloc (.cells #[.slice w2.heap.size own.length own.length] 234)) #[(0:Int)] 3;have e:((w2.alloc (.cells (aX (List.replicate (8*own.length) 0)).toArray 132)).alloc (.cells #[.slice w2.heap.size own.length own.length] 234)).heap.size=w2.heap.size+1+1:=by simp
  rw[e] at this;rw[az];exact this
 obtain⟨cw,bz,cp,aP⟩:=hh4 (tX.keep ny) (JK.out.keep EE) (zC.out.keep EE) az;clear bu tX ax uB aV ny EE HH JK zC pO uP KW bp az;generalize cE:w1.heap.size=g6 at *;go_wp2_with(first|(with_reducible refine gS 132 bY.out ?_));clear bX c3 af bY SB fC cO cE;refine((xp.out _ (aP.out▸og.out)).mono ?_);rintro e w5 ⟨S,rfl,kr,hS⟩;rw[<-aP.out] at kr;have pU:=ar (og.out.trans' kr);have rp:Hid (∀b,b<4->∃a cap g,S b= .slice a (eD n.E b).length cap/\(eD n.E b).length<=cap/\cap<=maxLen/\((eD n.E b).length≠0->∃g off,a=some ⟨g,off,none⟩)/\bD w5 (.slice a (eD n.E b).length cap) g (eD n.E b)/\W3.heap.size<=g):=λb hb=>by
  obtain⟨g,U,V⟩:=hS b hb;obtain⟨a,cap,h3,h4,h5,h6⟩:=U;refine⟨a,cap,g,h3,h4,h5,λh0=> ?_,h3▸⟨a,cap,h3,h4,h5,h6⟩,by rw[aP.out];exact V⟩;obtain⟨-,off,h7,-⟩:=h6 h0;exact⟨g,off,h7⟩
 obtain⟨cC,bU,cv,bV,dw,cQ⟩:=hh6 (aU.out.keep kr) (cr.out.keep kr) (bH.out.keep kr) (cw.out.keep kr) (bz.out.keep kr) (cp.out.keep kr);have dV:W3.heap.size<=w5.heap.size:=kr.size;have dW:w2.heap.size+3<=W3.heap.size:=by rw[aP.out];simp
 clear kr hS xp aU cr bH cw bz cp dc fG rf aP;generalize w2.heap.size=z at *;have EC:Hid (Gi w5 w5 n own z g6 (z+1+1) 0 []):=⟨ay.refl _ _,⟨_,CB.start n.E own,cC.out⟩,by have :=bV.out;rw[MZ.out] at this;exact this,cv.out⟩;have bT:∀b,b<4->fO n.E b+dN n.E b<=own.length:=λb hb=>by
  have :=uS n.E (show b+1<=4 by omega);rw[fO,uW] at this;exact this
 have dx:=ar bT;clear bT;have Gj:z≠g6:=by omega
 go_wp2_with fail;refine wp_loop (λa G=>∃(k:Nat) (Ds:List Nat) (u9 u10 u11 u22 u23 u24 u25 u26 u27 u28 u29 u51:Value),k<=4/\a={ tmps:= #[.agg Z,.slice ao own.length co,.pointer (some ⟨w.heap.size,0,none⟩),.pointer (some ⟨w.heap.size+1,0,none⟩),.pointer (some ⟨w.heap.size+1+1,0,none⟩),.slice none 0 0,.pointer (some ⟨g6,0,none⟩),.pointer (some ⟨z+1,0,none⟩),.pointer (some ⟨z+1+1,0,none⟩),u9,u10,u11,undef,.agg Z,.agg (aX H).toArray,.slice ao own.length co,.int .i64 (own.length:Int),.slice z own.length own.length,.pointer (some ⟨w.heap.size,17,none⟩),v,.agg (pk S),.int .i64 (k:Int),u22,u23,u24,u25,u26,u27,u28,u29,undef,undef,undef,undef,undef,undef,undef,undef,undef,undef,undef,undef,undef,undef,undef,undef,undef,undef,undef,undef,undef,u51,undef,undef],defers:=Ds.map adf }/\
   Hid (Gi w5 G n own z g6 (z+1+1) k []/\Ds.Nodup/\∀D∈Ds,w5.heap.size<=D/\G.heap[D]? =some (.deferred (some [])))) (λa _=>4-(intOf (a.tmps.getD 21 undef)).toNat) ⟨0,[],_,_,_,_,_,_,_,_,_,_,_,_,by omega,rfl,EC.out,List.nodup_nil,λD hD=>by cases hD⟩ ?_
 rintro a wr ⟨k,Ds,u9,u10,u11,u22,u23,u24,u25,u26,u27,u28,u29,u51,br,rfl,HP⟩;clear EC;by_cases J:k<4
 ·have dU:(k:Int)<4:=by omega
  obtain⟨ak,Qu,gk,bO,cm,af,bR,ct,ck⟩:=rp.out k J;have Ib:=λw=>FZ S J w
  rw[bO] at Ib;obtain⟨ji,hj,dM,Co,dD,dK⟩:∃ji:Int,2+(k:Int)=ji/\wrap64 ji=ji/\0<=ji/\ji<8/\ji.toNat=2+k:=⟨_,rfl,by unfold wrap64;omega,by omega,by omega,by omega⟩;obtain⟨kn,dX,dI,cd⟩:∃kn:Int,(k:Int)+1=kn/\wrap64 kn=kn/\Hid (kn=((k+1:Nat):Int)):=⟨_,rfl,by unfold wrap64;omega,(by show _=_;omega)⟩;obtain⟨cM,cP,dh,cR,Ma,HK,qB⟩:=hh7 ck ct bR cm af J br;clear bO ck ct bR cm af J br;generalize xa:(k:Int)=ki at *;have cX:=ar xa;clear xa;go_wp2_with fail;refine Rr (XL _ _ _ _) λwL aC=> ?_;have bq:(wr.alloc (.cells #[.pointer (some ⟨g6,2+k,none⟩)] 280)).heap.size=wr.heap.size+1:=by simp
  have nP:Hid (bc wL wr.heap.size #[.pointer (some ⟨g6,2+k,none⟩)] 280):=by
   rw[aC];exact((bc.new wr _ _).alloc _).alloc _
  have Qs:Hid (bc wL (wr.heap.size+1) #[.slice ak (eD n.E k).length Qu] 30):=by
   rw[aC,<-bq];exact(bc.new _ _ _).alloc _
  have Be:Hid (bc wL (wr.heap.size+1+1) #[(3:Int)] 3):=by
   have :=bc.new ((wr.alloc (.cells #[.pointer (some ⟨g6,2+k,none⟩)] 280)).alloc (.cells #[.slice ak (eD n.E k).length Qu] 30)) #[(3:Int)] 3;have e:((wr.alloc (.cells #[.pointer (some ⟨g6,2+k,none⟩)] 280)).alloc (.cells #[.slice ak (eD n.E k).length Qu] 30)).heap.size=wr.heap.size+1+1:=by simp
   rw[e] at this;rw[aC];exact this
  have aB:ay [] wr wL:=by
   rw[aC];exact(((ay.refl [] wr).alloc _).alloc _).alloc _
  have dS:wL.heap.size=wr.heap.size+3:=by rw[aC];simp
  rw[bq];clear aC bq;obtain⟨ae,aH,af⟩:=HP.out;have cx:Gi w5 wL n own z g6 (z+1+1) k []:=⟨ae.keep.trans' (aB.mono),by obtain⟨C,U,V⟩:=ae.rows;exact⟨C,U,V.keep aB⟩,ae.row.keep aB,ae.fill.keep aB⟩;have dE:w5.heap.size<=wr.heap.size:=ae.keep.size;have bJ:Hid (∀D∈Ds,w5.heap.size<=D/\D<wr.heap.size/\wL.heap[D]? =some (.deferred (some []))):=λD hD=>by
   obtain⟨U,V⟩:=af D hD;have h3:=(Array.getElem?_eq_some_iff.1 V).1;exact⟨U,h3,(aB.block D h3 (by simp)).trans V⟩
  obtain⟨cI,bo⟩:=hh2 cx aH;clear ae cx af aB HP aH;generalize wr.heap.size=lB at *;go_wp2_with fail;refine(wpIn_wide (n:=3)).1 ?_;refine wpIn_rangeFunc_ownG (F:=Fence.wide) rfl (by omega) (gf:= 238) (lb:= #[.pointer (some ⟨lB+1,0,none⟩),.pointer (some ⟨lB+1+1,0,none⟩)]) rfl trivial (enters_of func238 (by kernel_rfl) rfl)
   (MP (3-1) (by omega) ak (eD n.E k).length Qu (cL (kv _ _) (by omega)) cR.out dh.out (lB+1) (lB+1+1) wL Qs.out Be.out)
   (λU V=>⟨V.1.trans U.1,V.2.trans U.2⟩) (λW l o o' U V _ _=>⟨World.putObj_heap_other (by omega),World.putObj_heap_other (by omega)⟩) (Below.refl _ _) (λ_=>rfl)
   (λac W=>Gi w5 W n own z g6 (z+1+1) k ac/\bc W lB #[.pointer (some (Ux n.E z g6 k ac.length))] 280/\ay [z,g6,z+1+1,lB] wL W)
   (λ_ _ _=>False)
   (λac A A' row h hg hr=>⟨h.1.turn hg hr (by omega),h.2.1.turn hg (λr e=>(hr r e).2),h.2.2.turn hg (λr e=>(hr r e).1) (aI _)⟩)
   (λ_ _ _ _ _ h _ _=>h)
   ⟨cI.out,by have :=nP.out;exact this,ay.refl _ _⟩
   (λx=>{ tmps:= #[.agg Z,.slice ao own.length co,.pointer (some ⟨w.heap.size,0,none⟩),.pointer (some ⟨w.heap.size+1,0,none⟩),.pointer (some ⟨w.heap.size+1+1,0,none⟩),.slice none 0 0,.pointer (some ⟨g6,0,none⟩),.pointer (some ⟨z+1,0,none⟩),.pointer (some ⟨z+1+1,0,none⟩),.int .i64 ki,.slice ak (eD n.E k).length Qu,.pointer (some ⟨lB,0,none⟩),chV ak (eD n.E k).length x,.agg Z,.agg (aX H).toArray,.slice ao own.length co,.int .i64 (own.length:Int),.slice z own.length own.length,.pointer (some ⟨w.heap.size,17,none⟩),v,.agg (pk S),.int .i64 ki,.bool true,.int .i64 ki,.slice ak (eD n.E k).length Qu,.int .i64 ki,.int .i64 ji,.pointer (some ⟨g6,2+k,none⟩),.slice ak (eD n.E k).length Qu,.func (.func 238) #[] #[(lB+1:Nat),(lB+1+1:Nat)],chV ak (eD n.E k).length x,undef,undef,undef,undef,undef,undef,undef,undef,undef,undef,undef,undef,undef,undef,undef,undef,undef,undef,undef,undef,u51,undef,undef],defers:=[] }) ?assign ?body ?done ?stop
  case assign=>
   intro l x W K hK
   gi_wp2
   exact hK
  case stop=>
   rintro D c ac W _ _ h _;exact h.elim
  case done=>
   rintro D ys W hD rfl ⟨IE,Uz,jY⟩ JM;have bv:(List.range (((eD n.E k).length+2)/3)).length=dN n.E k:=fK;have SF:Gi w5 W n own z g6 (z+1+1) (k+1) []:=by
    obtain⟨U,⟨C,V,h3⟩,h4,h5⟩:=IE;rw[bv] at h4 h5;exact⟨U,⟨C,V.next,h3⟩,by rw[Ur] at h4;exact h4,h5⟩
   have mi:Hid (Gi w5 W n own z g6 (z+1+1) (k+1) []/\(D::Ds).Nodup/\∀D'∈D::Ds,w5.heap.size<=D'/\W.heap[D']? =some (.deferred (some []))):=by
    refine⟨SF,List.nodup_cons.2 ⟨λhm=> ?_,bo.out⟩,λD' cF=> ?_⟩
    ·have :=(bJ.out D hm).2.1
     omega
    ·rcases aM.1 cF with rfl|hm
     ·exact⟨by omega,JM⟩
     ·obtain⟨U,V,h3⟩:=bJ.out D' hm
      exact⟨U,(jY.block D' (by omega) (by
       have h4:D'≠z/\D'≠g6/\D'≠z+1+1/\D'≠lB:=by omega
       simp only[aM,aK,bC];omega)).trans h3⟩
   clear IE Uz jY JM SF bv;go_wp2_with fail;refine⟨⟨k+1,D::Ds,_,_,_,_,_,_,_,_,_,_,_,_,HK.out,by rw[<-cd.out];rfl,mi.out⟩,?_⟩;have U:=cd.out;have V:=cX.out;have h3:=HK.out;simp[intOf];omega
  case body=>
   rintro l ac x W ⟨IE,Uz,jY⟩ aG;obtain⟨f,hf⟩:∃f,f=fO n.E k+ac.length:=⟨_,rfl⟩;have aZ:f<own.length:=by
    have U:=dx.out k HK.out;have V:ac.length<dN n.E k:=aG;omega
   obtain⟨lg,lo,C1,cH,Cj,cG,bL,bt,b6,cz,aT,aW⟩:=IE.link HK.out hf aZ Gj;obtain⟨bI,Qq,rfl,bj⟩:=SC.out f aZ;rw[Cj] at Uz;have Yd:own.getD f 0<256:=wq _ (by rw[aj,aD aZ];exact bM aZ);have Ni:=IE.fill;rw[<-hf] at Ni;obtain⟨xi,K9,cK⟩:∃xi:Int,((own.getD f 0:Nat):Int)=xi/\IntKind.u64.wrap xi=xi:=⟨_,rfl,by rw[nu (by omega) (by omega)]⟩;obtain⟨fi,bg,dL,dF,dz,dR⟩:∃fi:Int,((f:Nat):Int)=fi/\0<=fi/\fi<(own.length:Int)/\fi.toNat=f/\wrap64 (fi+1)=fi+1:=⟨_,rfl,by omega,by omega,by omega,by unfold wrap64;omega⟩;rw[K9] at bj aT aW;rw[bg] at Ni;have bK:Hid (∀G,ay [z,g6] W G->G.cell? lB=some (.pointer (some ⟨lg,lo,none⟩))/\G.cell? (w.heap.size+1:Nat)=some (.slice (some ⟨go,Qq,none⟩) own.length co)/\G.cell? (z+1+1:Nat)=some (.int .i64 fi)/\G.cell? ⟨go,Qq+f,none⟩=some (.int .i64 xi)):=λG J=>by
    refine⟨by rw[(Uz.keep J (by simp<;>omega)).cell];rfl,by rw[((cQ.out.keep IE.keep (by simp<;>omega)).keep J (by simp<;>omega)).cell];rfl,by rw[(Ni.keep J (by simp<;>omega)).cell];rfl,?_⟩;have kr:=pU.out;have U:go<w5.heap.size:=bQ bI kr.size;have V:go<W.heap.size:=bQ U IE.keep.size;refine(aO (a:=⟨go,Qq+f,none⟩) ?_).trans bj;show G.heap[go]? =w.heap[go]?;exact((J.block go V (by simp<;>omega)).trans (IE.keep.block go U (by simp<;>omega))).trans (kr.block go bI (by simp))
   have cS:W.drew.cell? ⟨lg,lo,none⟩=some (.int .u64 cH):=bL;have df:W.drew.frozen? ⟨lg,lo,none⟩=false:=bt;have bG:W.drew.setCell ⟨lg,lo,none⟩ (.int .u64 xi)=(W.setCell ⟨lg,lo,none⟩ (.int .u64 xi)).drew:=rfl;obtain⟨W1,ba⟩:∃W1,W1=(W.setCell ⟨lg,lo,none⟩ (.int .u64 xi)).drew:=⟨_,rfl⟩;rw[bG,<-ba] at aT aW;have bF:ay [z,g6] W W1:=by
    rw[ba];exact((ay.refl _ _).setCell (.inl (by rcases cG with h|h<;>simp[h])) _).drew
   obtain⟨cg,cU,mK,dt,bw,di,IC⟩:=hh7 IE Uz jY Ni aT aW bF;obtain⟨cj,cY,WW,HF,qN,xj⟩:=hh6 ba cz b6 hf bg aG;clear IE Uz jY Ni aT aW bF ba bG cz b6 hf aG Cj bj K9 bg bL bt Yd;refine wpIn_block (wpIn_seq_k λK aJ=> ?_);refine uV (r:=some l) (S:=λG=>ay [z,g6] W G) (l:=[_,_,_,_,_,_]) (tl:=[_,_]) (by kernel_rfl) rfl (by kernel_rfl) (by rintro⟨a,w,h⟩;exact h) (by kernel_rfl) (by kernel_rfl) (by kernel_rfl) (λd _ _ _ _ h=>by cases d<;>exact h) (ay.refl _ _).drew ?_;repeat (refine cT.cons ?_ (YieldsIf.val rfl ?h) ?_;(case h=>(intro G hx;obtain⟨U,V,h3,h4⟩:=bK.out G hx;go_simp;rfl));simp only[Act.put,ag,ah,ai])
   refine cT.done ?_;unfold gF;go_wp2_with fail;refine⟨(ay.refl _ _).drew,?_⟩;unfold gF;go_wp2_with fail;rw[<-cj.out];refine⟨IC.out,?_⟩;unfold gF;refine aJ _ _ ?_;clear aJ K bK cS df cK cj cC bV cv
   -- the entries' words
   have bb:=IC.out;have aY:ay [z,g6,z+1+1] w5 W1:=cg.out.keep.trans' (IC.out.mono (by simp<;>omega));have bn:bc W1 (z+1) #[.slice z own.length own.length] 234 :=bU.out.keep aY (by simp<;>omega);have bh:bc W1 (z+1+1) #[fi] 3 :=dt.out.keep bb (by simp<;>omega);have bW:=cU.out.keep bb (by simp<;>omega);have dn:Hid (∀G,ay [z] W1 G->G.cell? (z+1:Nat)=some (.slice z own.length own.length)/\G.cell? (z+1+1:Nat)=some (.int .i64 fi)):=λG J=>by
    exact⟨by rw[(bn.keep J (by simp<;>omega)).cell];rfl,by rw[(bh.keep J (by simp<;>omega)).cell];rfl⟩
   have dP:∀G,(Instr.sliceAt 132 (.pointer (some ⟨z,f*8,none⟩)) (some (.int .i64 1)) none none).run prog G= .ok (.slice (some ⟨z,f*8+1,none⟩) 7 7) G:=λG=>by show Sem.run _ _ _=_;kernel_rfl
   have F5:Hid (∀G,ay [] W1 G->Calls prog 207 #[chV ak (eD n.E k).length x] G (jG G (eU (AJ (eD n.E k) x)))):=λG J=>by
    refine zE (E:=AJ (eD n.E k) x) (g:=gk) ?_ (ad6 b9 k x);refine(((Uy cP.out x).keep aY ?_).keep J);intro _;have :=cM.out;simp;omega
   obtain⟨dC,cZ,dg,dv⟩:=hh4 aY bn bh bW;clear bb aY bn bh bW;refine wpIn_seq_k λK aJ=> ?_
   refine uV (r:=some l) (S:=λG=>ay [z] W1 G) (l:=[_,_,_,_,_]) (tl:=[_,_]) (by kernel_rfl) rfl (by kernel_rfl) (by rintro⟨a,w,h⟩;exact h) (by kernel_rfl) (by kernel_rfl) (by kernel_rfl) (λd _ _ _ _ h=>by cases d<;>exact h) (ay.refl _ _).drew ?_;repeat (refine cT.cons ?_ (YieldsIf.val rfl ?h) ?_;(case h=>(intro G hx;obtain⟨U,V⟩:=dn.out G hx;go_simp;rfl));simp only[Act.put,ag,ah,ai])
   refine cT.done ?_;unfold gF;go_wp2_with fail;refine(F5.out _ (ay.refl _ _).drew).mono ?_;rintro e W2 ⟨va,ga,rfl,JI,xe,cu⟩;have ax:ay [] W1 W2:=((ay.refl _ _).drew).trans' cu;obtain⟨aa,ca,rfl,-,-,-⟩:=il JI;have cN:(eU (AJ (eD n.E k) x)).length<=6:=by rw[kT,pC];omega
   obtain⟨vc,av,zH,cy,cf⟩:=qh (o:=f*8+1) (n:=7) (cap:=7) (bw.out.keep ax) JI (by omega) (by have :=WW.out;omega);have cW:=ar zH;have fC:Hid (ay [z] W1 W2):=ax.mono;have UB:Hid (ay [z] W1 av):=(ax.mono (l':=[z]) (by simp)).trans' cf;have aU:Hid (bc av z (aX (Gg C1 (8*f+1) (eU (AJ (eD n.E k) x)))).toArray 132):=by
    rw[Nat.mul_comm 8 f];exact cy
   generalize cV:eU (AJ (eD n.E k) x)=ws at *;clear ax cu JI xe zH cy cf cN F5 bw;go_wp2_with fail;refine⟨fC.out,?_⟩;unfold gF;go_wp2_with(first|((with_reducible show wpList _ _ _ (⟨some 44,_,_,_,_,_⟩::_) _ _);refine jm rfl (.tmp 41) (.tmp 43) 65 65 rfl _ _ rfl rfl (cW.out _) ?_));refine⟨UB.out,?_⟩;unfold gF;refine aJ _ _ ?_;clear aJ K;have aQ:=dv.out.keep UB.out (by simp<;>omega);have bk:=dg.out.keep UB.out (by simp<;>omega);have b7:=cZ.out.keep UB.out (by simp<;>omega);have e1:av.cell? (z+1:Nat)=some (.slice z own.length own.length):=by rw[b7.cell];rfl
   have e2:av.cell? (z+1+1:Nat)=some (.int .i64 fi):=by rw[bk.cell];rfl
   have e3:av.cell? lB=some (.pointer (some ⟨lg,lo,none⟩)):=by rw[aQ.cell];rfl
   have e4:av.frozen? lB=false:=aQ.frozen 0;have bB:=aQ.set 0 (.pointer (some ⟨z,f*8,none⟩));have aR:=bk.other (a:=⟨lB,0,none⟩) (by show z+1+1≠lB;omega) (.pointer (some ⟨z,f*8,none⟩));have e5:(av.setCell ⟨lB,0,none⟩ (.pointer (some ⟨z,f*8,none⟩))).cell? (z+1+1:Nat)=some (.int .i64 fi):=by rw[aR.cell];rfl
   have e6:(av.setCell ⟨lB,0,none⟩ (.pointer (some ⟨z,f*8,none⟩))).frozen? (z+1+1:Nat)=false:=aR.frozen 0;obtain⟨cJ,dm⟩:=hh2 bB aR;clear aQ bk b7 bB aR
   gi_wp2
   have aN:ay [z,g6,z+1+1,lB] W ((av.setCell ⟨lB,0,none⟩ (.pointer (some ⟨z,f*8,none⟩))).setCell ⟨z+1+1,0,none⟩ (.int .i64 (fi+1))):=
    (((IC.out.mono (l':=[z,g6,z+1+1,lB]) (by simp<;>omega)).trans' (UB.out.mono (by simp<;>omega))).setCell (.inl (by simp)) _).setCell (.inl (by simp)) _
   have dB:wL.heap.size<=W.heap.size:=mK.out.size;have bf:(ac++[x]).length=ac.length+1:=by simp
   refine⟨KeepsFrom.of_keeps aN (λj hj Sq=> .inl ?_),⟨aN.block (lB+1) (by omega) (by simp<;>omega),aN.block (lB+1+1) (by omega) (by simp<;>omega)⟩,⟨?_,?_,?_,?_⟩,?_,mK.out.trans' aN⟩
   ·simp only[aM,aK,bC] at hj
    rcases hj with rfl|rfl|rfl|rfl<;>omega
   ·refine cg.out.keep.trans aN λy hy=> ?_
    simp only[aM,aK,bC] at hy ⊢;rcases hy with rfl|rfl|rfl|rfl
    ·exact .inl (.inl rfl)
    ·exact .inl (.inr (.inl rfl))
    ·exact .inl (.inr (.inr rfl))
    ·exact .inr (by omega)
   ·refine⟨_,cY.out x,?_⟩
    rw[cV];exact(aU.out.other (a:=⟨lB,0,none⟩) (by show z≠lB;omega) _).other (a:=⟨z+1+1,0,none⟩) (by show z≠z+1+1;omega) _
   ·rw[bf]
    exact((di.out.keep UB.out (by simp<;>omega)).other (a:=⟨lB,0,none⟩) (by show g6≠lB;omega) _).other (a:=⟨z+1+1,0,none⟩) (by show g6≠z+1+1;omega) _
   ·have :=dm.out.set 0 (.int .i64 (fi+1))
    rw[bf,show((fO n.E k+(ac.length+1):Nat):Int)=fi+1 by rw[<-qN.out,HF.out];omega];exact this
   ·have :=cJ.out.other (a:=⟨z+1+1,0,none⟩) (by show lB≠z+1+1;omega) (.int .i64 (fi+1))
    have e:Ux n.E z g6 k (ac++[x]).length=⟨z,f*8,none⟩:=by
     rw[bf,Ux,aA,HF.out,show 8*(fO n.E k+(ac.length+1)-1)=(fO n.E k+ac.length)*8 by omega]
    rw[e];exact this
 ·obtain rfl:k=4:=by omega
  obtain⟨ae,aH,af⟩:=HP.out;have jI:bc wr.drew (w.heap.size+2) Z8 132 :=(dw.out.keep ae.keep (by simp<;>omega)).drew;have cn:bc wr g6 (aX (rC n own 4 0)).toArray 132 :=ae.row;have cB:Hid (∀G,ay [w.heap.size+2] wr G->(loadVar 132 g6).run prog G= .ok (.agg (aX (rC n own 4 0)).toArray) G/\G.cell? (z+1:Nat)=some (.slice z own.length own.length)):=λG J=>by
   exact⟨fN (cn.keep J (by simp<;>omega)) (xR _ _ _ _),by rw[((bU.out.keep ae.keep (by simp<;>omega)).keep J (by simp<;>omega)).cell];rfl⟩
  obtain⟨wS,hS,rZ,SD⟩:=bE (P:= prog) (ty:= 132) (cs:=aX (rC n own 4 0)) (by rw[bA,xR];exact iZ) jI (by rw[<-xz.out];simp[bA,xR]) (fk _);have HS:=ar hS;have K8:Hid (ay [w.heap.size+2] wr wS):=((ay.refl _ _).drew).trans' SD;have mi:Hid (∀W',ay Ds wS W'->(loadVar 132 (w.heap.size+2:Nat)).run prog W'= .ok (.agg (aX (rC n own 4 0)).toArray) W'/\pA w (Gf n own) (xQ n.E own 4) (.returned (.tuple #[(aX (rC n own 4 0)).toArray,.slice z own.length own.length])) W'):=λW' J=>by
   have hD:∀q,q<w5.heap.size->q∉Ds:=λq hq hm=>by
    have :=(af q hm).1;omega
   refine⟨fN (bc.keep rZ J (hD _ (by omega))) (xR _ _ _ _),_,z,rfl,?_,by omega,?_⟩
   ·obtain⟨C,U,V⟩:=ae.rows
    exact U.breads uW (aI _) (by unfold maxLen;omega) ((V.keep K8.out (by simp<;>omega)).keep J (hD _ (by omega)))
   ·have U:ay [] w wr:=pU.out.trans ae.keep (by intro q hq;simp at hq;omega)
    have V:ay [] w wS:=U.trans K8.out (by intro q hq;simp at hq;omega);exact V.trans J λq hq=> .inr (by have :=(af q hq).1;omega)
  have bo:=ar aH;have Ma:Hid (∀D∈Ds,wS.heap[D]? =some (.deferred (some []))):=λD hD=>by
   obtain⟨U,V⟩:=af D hD;exact(K8.out.block D (Array.getElem?_eq_some_iff.1 V).1 (by simp<;>omega)).trans V
  clear ae aH af jI cn hS rZ SD HP J br;go_wp2_with fail;refine wp_region_noPanic ?_;refine xU (S:=λG=>ay [w.heap.size+2] wr G) (l:=[_,_]) (tl:=[_,_]) (by kernel_rfl) rfl (by kernel_rfl) (by kernel_rfl) (by kernel_rfl) (λd _ _ _ _ h=>by cases d<;>exact h) (ay.refl _ _).drew ?_;refine cT.cons _ (YieldsIf.load rfl 132 (.tmp 6) rfl _ rfl λG hx=>(cB.out G hx).1) ?_;simp only[Act.put,ag,ah,ai];refine cT.cons ?_ (YieldsIf.val rfl ?h) ?_;(case h=>(intro G hx;obtain⟨-,U⟩:=cB.out G hx;go_simp;rfl));simp only[Act.put,ag,ah,ai];refine cT.done ?_;unfold gF;go_wp2_with(first|(with_reducible refine gS 132 HS.out ?_));refine⟨K8.out,?_⟩;unfold gF;go_wp2_with fail;refine⟨K8.out,?_⟩;unfold gF;refine NoPanic.normal ?_;go_wp2_with fail;refine ml Ds wS bo.out Ma.out λW' J=> ?_
  obtain⟨U,V⟩:=mi.out W' J;exact⟨_,eI results212 rfl U rfl,V⟩
end
section
open Go.RowKit
variable{w w5:World}{n:bS}{own z:List Nat}{J T U W b cap g gp k:Nat}{a:Option Addr}{E:List (ByteArray×Int)}{v:Value}{B l:List Int}{ps:List (Int×Int)}
def iK (w:List Int):bS:=⟨w.getD 0 0%256,w.getD 0 0/256%256,w.getD 0 0/65536%65536,wrap64 (w.getD 1 0),List.replicate 13 0,[]⟩
theorem UC (x:Nat)(h:x<18446744073709551616):bits .and .u64 (x:Int) 255=((x%256:Nat):Int)/\bits .and .u64 ((x:Int)/256) 255=((x/256%256:Nat):Int)/\bits .and .u64 ((x:Int)/65536) 65535=((x/65536%65536:Nat):Int):=by
 have z:=Nat.div_le_self x 256;have G:=Nat.div_le_self x 65536;refine⟨?_,?_,?_⟩
 ·rw[show(255:Int)=((255:Nat):Int) from rfl,gM x 255 h (by omega),show x &&& 255=x%2^8 from dW x 8]
 ·rw[show(x:Int)/256=((x/256:Nat):Int) by omega,show(255:Int)=((255:Nat):Int) from rfl,gM (x/256) 255 (by omega) (by omega),show x/256 &&& 255=x/256%2^8 from dW _ 8]
 ·rw[show(x:Int)/65536=((x/65536:Nat):Int) by omega,show(65535:Int)=((65535:Nat):Int) from rfl,gM (x/65536) 65535 (by omega) (by omega),show x/65536 &&& 65535=x/65536%2^16 from dW _ 16]
theorem CD (l:List Int)(hl:l.length=8)(h0:0<=l.getD 0 0/\l.getD 0 0<18446744073709551616)(h1:0<=l.getD 1 0/\l.getD 1 0<18446744073709551616)(w:World):
  Calls prog 61 #[(aX l).toArray] w λe w'=>e=aL (iK l) (.slice none 0 0)/\ay [] w w':=by
 have h:=(bc.new w (aX l).toArray 132).alloc (.cells (aL bY (.slice none 0 0)) 75);have J:bc ((w.alloc (.cells (aX l).toArray 132)).alloc (.cells (aL bY (.slice none 0 0)) 75)) (w.heap.size+1) (aL bY (.slice none 0 0)) 75 :=by
  have :=bc.new (w.alloc (.cells (aX l).toArray 132)) (aL bY (.slice none 0 0)) 75;have e:(w.alloc (.cells (aX l).toArray 132)).heap.size=w.heap.size+1:=by simp
  rw[e] at this;exact this
 have c0:((w.alloc (.cells (aX l).toArray 132)).alloc (.cells (aL bY (.slice none 0 0)) 75)).cell? w.heap.size=some (.int .u64 (l.getD 0 0)):=by
  rw[h.cell,aG,dM (by omega)]
 have c1:((w.alloc (.cells (aX l).toArray 132)).alloc (.cells (aL bY (.slice none 0 0)) 75)).cell? ⟨w.heap.size,1,none⟩=some (.int .u64 (l.getD 1 0)):=by
  rw[h.cell,aG,dM (by omega)]
 obtain⟨w2,hS,V,U⟩:=bE (P:= prog) (ty:= 75) (cs:=mQ (iK l) (.slice none 0 0)) (by rw[gJ];exact iV) J rfl (kR rfl);have G:=bZ (n:=iK l) (v:= .slice none 0 0) V rfl;have HK:Hid (ay [] w w2):=(((ay.refl [] w).alloc _).alloc _).trans U;obtain⟨W,rJ⟩:=hh2 hS G;have aa:=dC;clear h J hS G V U;have HT:Hid ((mQ (iK l) (.slice none 0 0)).toArray=aL (iK l) (.slice none 0 0)):=rfl;rw[HT.out] at W;obtain⟨x,hx⟩:∃x:Nat,l.getD 0 0=(x:Int):=⟨(l.getD 0 0).toNat,by omega⟩;obtain⟨y,hy⟩:∃y:Nat,l.getD 1 0=(y:Int):=⟨(l.getD 1 0).toNat,by omega⟩;have hI:aL (iK l) (.slice none 0 0)= #[.int .i64 ((x%256:Nat):Int),.int .i64 ((x/256%256:Nat):Int),.int .i64 ((x/65536%65536:Nat):Int),.int .i64 (wrap64 (y:Int)),.int .i64 0,.int .i64 0,.int .i64 0,.int .i64 0,.int .i64 0,.int .i64 0,.int .i64 0,.int .i64 0,.int .i64 0,.int .i64 0,.int .i64 0,.int .i64 0,.int .i64 0,.slice none 0 0]:=by
  unfold iK;rw[hx,hy];rfl
 have z:aL bY (.slice none 0 0)= #[.int .i64 0,.int .i64 0,.int .i64 0,.int .i64 0,.int .i64 0,.int .i64 0,.int .i64 0,.int .i64 0,.int .i64 0,.int .i64 0,.int .i64 0,.int .i64 0,.int .i64 0,.int .i64 0,.int .i64 0,.int .i64 0,.int .i64 0,.slice none 0 0]:=rfl;rw[hI] at W rJ HT;rw[hI];rw[z] at W c0 c1;rw[z] at aa;clear HT z;generalize (aX l).toArray=Z at *;rw[hx] at c0 h0;rw[hy] at c1 h1;obtain⟨p1,p2,p3⟩:=UC x (by omega);clear hx hy;have q1:x%256<256:=ij _ (by decide);have q2:x/256%256<256:=ij _ (by decide);have q3:x/65536%65536<65536:=ij _ (by decide);have ac:Hid (0<=y):=fD y;generalize x%256=a,x/256%256=b,x/65536%65536=c at *;go_in;go_wp2_with(first|(with_reducible refine gS 75 W.out ?_));exact aH (bu results61 rfl rJ.out) rfl ⟨rfl,HK.out⟩
theorem SG (z:bc w g (aL n v) T)(G:n.B.length=13)(h:l.length=13):
  ∃w',(storeVar 73 ⟨g,4,none⟩ (.agg (zs l).toArray)).run prog w= .ok () w'/\bc w' g (aL { n with B:=l } v) T/\ay [g] w w':=by
 refine⟨_,jH g 4 (zs l) _ (by rw[eT,h];exact lS) z (by rw[aL,bP,gJ,eT,G,h];omega) (nt l),?_,(ay.refl _ _).setRow (by simp) _⟩;have e:((aL n v).toList.take 4++zs l++(aL n v).toList.drop (4+(zs l).length)).toArray=aL { n with B:=l } v:=by
  have J:(aL n v).toList.drop (4+(zs l).length)=[v]:=by
   have :(aL n v).toList=[.int .i64 n.F,.int .i64 n.K,.int .i64 n.L,.int .i64 n.S]++(zs n.B++[v]):=rfl;rw[this,<-List.drop_drop,List.drop_left' (by rfl),List.drop_left' (by rw[eT,eT,G,h])]
  rw[J];rfl
 rw[e];exact j4 z
theorem La{u:Value}(G:bc w g (aL n v) T)(h:n.B.length=13):bc (w.setCell ⟨g,17,none⟩ u) g (aL { n with E:=E } u) T:=by
 have :=G.set 17 u;have e:(aL n v).setIfInBounds 17 u=aL { n with E:=E } u:=by
  have z:aL n v=(([.int .i64 n.F,.int .i64 n.K,.int .i64 n.L,.int .i64 n.S]:List Value)++(zs n.B++[v])).toArray:=rfl;rw[z,ag,dU _ _ (by simp),dU _ _ (by rw[eT,h];simp),eT,h];rfl
 rw[e] at this;exact this
theorem aeb (h:∀k,0<=l.getD k 0):dJ (l.map Int.toNat)=zs l:=by
 apply cX (by simp[dJ,zs]);intro j J G;have z:j<l.length:=by simpa[zs] using G
 have :=h j;rw[aj,aD z,eZ] at this;simp[dJ,zs];omega
theorem xV (h:eN w b J B ps)(z:In64 (az B ps))(n:Nat)(W:(aY (az B ps)).length<n):
  Calls prog 157 #[b,(n:Int)] w λe w'=>e= .returned (.tuple #[(),(7:Int)])/\w=w':=by
 have G:=ar (Ju h z);generalize (aY (az B ps)).length=f at *;have V:¬(n:Int)<0:=by omega
 have U:(f:Int)<(n:Int):=by omega
 clear h z;go_in;go_wp2_with fail;refine C' G.out ?_;go_wp2;go_ret2;exact⟨rfl,rfl⟩
def Bk (w:World) (b z:Nat) (B:List Int) (ps:List (Int×Int)) (l:List Nat) (e:Ending) (w':World):Prop:=
 ∃v g,e= .returned (.tuple #[v,(0:Int)])/\Reads w' v g (dJ l)/\w.heap.size<=g/\g<w'.heap.size/\(∃h,(h=z\/(w.heap.size<=h/\h<w'.heap.size))/\h≠g/\eN w' b h B (ps++dt (az B ps) l)/\ay [b,z] w w')
theorem CE (X:List Int)(l:List Nat)(k:Nat)(h:k<l.length):dt X (l.take (k+1))=dt X (l.take k)++(eK (az X (dt X (l.take k))) (l.getD k 0) true++gX (l.getD k 0)):=by
 rw[bR h,ME];simp[h]
theorem CF (h:eN w b gp B ps)(U:In64 (az B ps))(hT:ku w)(Ic:gp<w.heap.size)(af:ps.length<=900000)(n:Nat)(hn:n<=(aY (az B ps)).length):
  Calls prog 157 #[b,(n:Int)] w (Bk w b gp B ps ((aY (az B ps)).take n)):=by
 have HF:=ar (Ju h U);have aO:=Cl (az B ps);have Qv:=ar (FD h U hT n (by omega));have EP:Hid (∀c∈(aY (az B ps)).take n,c≠0/\c<256):=λc J=>by
  have :=j5.1 (bL J);exact⟨this.2.1,this.1⟩
 have z:Hid (((aY (az B ps)).take n).length=n):=by show _=_;rw[aJ,cZ hn]
 obtain⟨HS,uM⟩:=hh2 h U;have aG:Hid ((az B ps).length=3128):=h.raw.lx;have aP:=h.raw.lt;have zB:=ar af;generalize (aY (az B ps)).take n=l,(aY (az B ps)).length=f at *;clear h U hT af;have h0:¬(n:Int)<0:=by omega
 have h1:¬(f:Int)<(n:Int):=by omega
 go_in;go_wp2_with fail;refine C' HF.out ?_;go_wp2_with fail;refine Qv.out.mono ?_;rintro e w1 ⟨v,g,rfl,hr,ai,aI,V⟩;clear HF Qv h1 h0;have ah:=hr;obtain⟨a,cap,rfl,q1,q2,-⟩:=ah;rw[fo,z.out] at hr ⊢;rw[fo,z.out] at q1;obtain⟨HR,jv⟩:=hh2 hr V;have hz:=V.size;clear hr V;unfold maxLen at q2;go_wp2_with fail;go_loopg [20] n (λgh s20 wx=>∃k:Nat,k+gh=n/\s20= .int .i64 (k:Int)/\Hid (Onto w1 b gp B (ps++dt (az B ps) (l.take k)) wx))
 case atStart=>exact⟨0,by omega,rfl,by show Onto _ _ _ _ _ _;rw[eW,show dt (az B ps) []=[] from rfl,bz];exact Onto.refl (HS.out.keep jv.out)⟩
 case round=>
  obtain⟨k,hk,rfl,HQ⟩:=hrel;have Gj:∀x,x∈[b,gp]->g≠x:=by
   intro x hx;simp only[aM,aK,bC] at hx;omega
  obtain⟨kQ,p1,p2,p3⟩:=HQ.out;have aa:=ar (HR.out.keep p3 (λhm=>Gj g hm rfl));have aL:=p3.size;cases gk with
  |zero=>
   obtain rfl:k=n:=by omega
   have HM:Hid (Bk w b gp B ps l (.returned (.tuple #[.slice a k cap,(0:Int)])) wr):=by
    rw[aW (by rw[z.out];omega)] at p2;exact⟨_,g,rfl,aa.out,ai,by omega,kQ,by omega,by omega,p2,(jv.out.mono).trans p3 λx hx=> .inl hx⟩
   have av:¬(k:Int)<(k:Int):=by omega
   clear p1 p2 p3 Gj hk;go_wp2;go_ret2;exact HM.out
  |succ gg=>
   have ay:k<n:=by omega
   have av:(k:Int)<(n:Int):=by omega
   have cM:(0:Int)<=(k:Int):=by omega
   have G:k<l.length:=by rw[z.out];exact ay
   have J:=EP.out (l.getD k 0) (by rw[aj,aD G];exact bM _);have ae:=nH (l.take k) (az B ps) uM.out aG.out λc J=>EP.out c (bL J)
   have W:=qb (l.take k) (az B ps) λc J=>EP.out c (bL J)
   have au:(l.take k).length<=255:=by rw[aJ];omega
   have aA:=ar (CE (az B ps) l k G);obtain⟨a',aH,ak,r1,r2,r3⟩:=aa.out;cases ak;obtain⟨aN,off,rfl,r4⟩:=r3 (by intro e;have :=cP List.length e;rw[fo,cD] at this;omega);have aB:=(r4 k (by rw[fo];exact G)).trans (nr G);generalize l.getD k 0=c at *;have Ye:Hid (Calls prog 145 #[b,(c:Int),true] wr (jN wr b kQ B ((ps++dt (az B ps) (l.take k))++eK (az (az B ps) (dt (az B ps) (l.take k))) c true))):=by
    have :=MG p2 (by rw[br];exact ae.1) (by rw[aC,W];have :=zB.out;omega) (c:Int) true;rw[br,aF] at this;exact this
   have ag:∀(w':World) (gG:Nat),eN w' b gG B ((ps++dt (az B ps) (l.take k))++eK (az (az B ps) (dt (az B ps) (l.take k))) c true)->Hid (Calls prog 191 #[b,(c:Int)] w' (jN w' b gG B (ps++dt (az B ps) (l.take (k+1))))):=by
    intro w' gG ax;have :=P4 ax (by rw[aC,aC,W,Jr _ c J.1 J.2];have :=zB.out;omega) c J.2;rw[aA.out];show Calls _ _ _ _ _;simpa only[aV] using this
   obtain⟨P1,P3,ac⟩:=hh3 p1 p3 ag;clear p1 p2 p3 Gj J ae W au r1 r2 r3 r4 G aa HQ ag;go_wp2_with fail;refine Rr Ye.out ?_;rintro w2 ⟨lH,s1,s2,s3⟩;have HE:=(ac.out w2 lH s2);obtain⟨S1,S3⟩:=hh2 s1 s3;clear s1 s2 s3 ac Ye;go_wp2_with fail;refine Rr HE.out λw3 t1=> ?_;have HO:Hid (Onto w1 b gp B (ps++dt (az B ps) (l.take (k+1))) w3):=Onto.trans P1.out P3.out (Onto.trans S1.out S3.out t1);clear t1;go_wp2;go_roundg gg;case measure=>omega
   case rel=>exact⟨k+1,by omega,by go_num,HO⟩
def gA (i:Int):Int:=if i<0\/32<=i then -1 else 824+i*8
theorem km (i:Int)(w:World):Calls prog 63 #[i] w λe w'=>e=(gA i:Int)/\w=w':=by
 rcases (show i<0\/32<=i\/(0<=i/\i<32) by omega) with h|h|⟨z,G⟩
 ·rw[gA,aB (.inl h)]
  go_in;go_wp2;go_ret;exact⟨rfl,rfl⟩
 ·rw[gA,aB (.inr h)]
  have J:¬i<0:=by omega
  go_in;go_wp2;go_ret;exact⟨rfl,rfl⟩
 ·rw[gA,aA]
  go_in;go_wp2;go_ret;exact⟨rfl,rfl⟩
def dY (n:bS) (own:List Nat):List Int:=(own.take (bj n.E.length)).map (λx:Nat=>(x:Int))++n.B.drop (bj n.E.length)
def fp (n:bS) (own:List Nat):Nat:=if bj n.E.length<own.length then own.getD (bj n.E.length) 0 else 0
def sW (E:List (ByteArray×Int)) (l:List Int) (k:Nat):List (Int×Int):=(List.range k).flatMap λj=>jM (1080+8*(l.getD j 0).toNat) (jf E j) 8
def ql (n:bS) (own:List Nat):List (Int×Int):=if bj n.E.length<own.length then jM (1080+8*fp n own) ((dY n own).drop 5) 8 else []
def wu (i:Nat) (n:bS) (own:List Nat):List (Int×Int):=
 sW n.E (dY n own) (bj n.E.length)++(ql n own++jM (824+8*i) (ic n (dY n own) (fp n own)) 8)
def pD (X:List Int) (i:Nat) (n:bS) (own:List Nat):List (Int×Int):=dt X own++wu i n own
theorem Af (E:List (ByteArray×Int))(l:List Int)(k:Nat):sW E l (k+1)=sW E l k++jM (1080+8*(l.getD k 0).toNat) (jf E k) 8:=by
 unfold sW;rw[dQ,List.flatMap_append];simp
theorem yP (E:List (ByteArray×Int))(l:List Int)(k:Nat):(sW E l k).length=8*k:=by
 induction k with
 |zero=>rfl
 |succ k ih=>rw[Af,aC,ih,oJ];omega
theorem SH (l:List Nat):zs (l.map λx:Nat=>(x:Int))=dJ l:=by simp[zs,dJ,Function.comp_def]
theorem jJ (h:cm n):n.E.length<=24/\bj n.E.length<=6/\(n.E.length≠0->n.K=2/\oW n):=by
 have :n.E.length<=24/\(n.E.length≠0->n.K=2/\oW n):=by
  rcases h.2.2 with h|h
  ·have :=h.2.2.1
   exact⟨by omega,λh=>absurd this h⟩
  ·exact⟨h.2.1,λ_=>h⟩
 refine⟨this.1,?_,this.2⟩;unfold bj;omega
theorem uj (h:cm n):zD n:=by
 obtain⟨hF,G,z⟩:=h;refine⟨by omega,?_,by omega,?_⟩
 ·rcases z with z|z
  ·have :=z.1;omega
  ·have :=z.1;omega
 ·rcases z with z|z
  ·have :=z.2.1;omega
  ·have :=z.2.2.1;have :=z.2.1;omega
theorem Nj (h:cm n)(z:∀k,k<n.E.length->(eY n.E k).size<=9223372036854775807):xN n.E:=by
 have G:=jJ h;refine⟨by omega,z,λk J=> ?_⟩;have :=((G.2.2 (by omega)).2.2.2.2 k J).2.1;omega
theorem uX (h:cm n)(G:n.B.length=13):∀k,0<=n.B.getD k 0/\n.B.getD k 0<256:=by
 intro k;by_cases z:k<13
 ·rcases h.2.2 with h|h
  ·exact(h.2.2.2.2 k z).1
  ·rw[h.2.2.2.1,aj,bB]
   split<;>simp
 ·rw[aj,aZ (by omega)]
  simp
theorem uY (h:n.B.length=13)(z:bj n.E.length<=13)(G:bj n.E.length<=own.length):(dY n own).length=13:=by
 simp[dY,h];omega
theorem uZ (z:bj n.E.length<=own.length)(k:Nat):(dY n own).getD k 0=if k<bj n.E.length then ((own.getD k 0:Nat):Int) else n.B.getD k 0:=by
 unfold dY;simp only[aj,jb,b7,aJ,cZ z,bO,bU,cj];by_cases h:k<bj n.E.length
 ·rw[aB h,aB h,aB h,aD (by omega)]
  rfl
 ·rw[aA h,aA h,show bj n.E.length+(k-bj n.E.length)=k by omega]
theorem CG (h:cm n)(z:n.B.length=13)(G:bj n.E.length<=own.length)(J:∀c∈own,c≠0/\c<256):∀k,0<=(dY n own).getD k 0/\(dY n own).getD k 0<256:=by
 intro k;rw[uZ G];split
 ·rename_i hk
  have :=J (own.getD k 0) (by rw[aj,aD (by omega)];exact bM _);omega
 ·exact uX h z k
theorem UD{n m mc oc:Nat}{h:List Int}(U:bc w b (zs h).toArray T)(hs:Reads w (.slice a own.length oc) W (dJ own))(hm:m<=n)(V:m<=h.length)(aa:m<=own.length):
  ∃v w',(∀ty,(Builtin.copy_ #[76,76] ty #[.slice b n cap,.slice a m mc]).run prog w= .ok v w')/\bc w' b (zs ((own.take m).map (λx:Nat=>(x:Int))++h.drop m)).toArray T/\ay [b] w w':=by
 by_cases h0:m=0
 ·subst h0
  refine⟨_,w,λty=>run_copy_none (P:= prog) w 76 76 ty 3 (some ⟨b,0,none⟩) a n cap 0 mc underlying76 oG (by simp),?_,ay.refl _ _⟩;simpa using U
 ·obtain⟨a',G,hv,r1,r2,r3⟩:=hs
  obtain⟨rfl,rfl⟩:a=a'/\oc=G:=by injection hv with h1 h2 h3;exact⟨h1,h3⟩
  obtain⟨hg,off,rfl,r4⟩:=r3 (by intro e;have :=cP List.length e;rw[fo,cD] at this;omega);have J:(dJ (own.take m)).length=min m n:=by rw[fo,aJ];omega
  refine⟨_,_,λty=>run_copy_row (P:= prog) w 76 76 ty 3 b 0 n cap ⟨W,off,none⟩ m mc (zs h).toArray T (dJ (own.take m)) underlying76 oG U J ?_ ?_ ?_,?_,(ay.refl _ _).setRow (by simp) _⟩
  ·intro j u z
   have hj:j<m:=by
    have :=(List.getElem?_eq_some_iff.1 z).1;rw[J] at this;omega
   rw[nr (by rw[aJ];omega)] at z;rw[add_plain,r4 j (by rw[fo];omega),nr (by omega),<-z];simp[hj]
  ·rw[J,bP,eT];omega
  ·intro u z
   rw[<-SH] at z;exact nt _ u z
  ·have e:((zs h).toArray.toList.take 0++dJ (own.take m)++(zs h).toArray.toList.drop (0+(dJ (own.take m)).length)).toArray=(zs ((own.take m).map (λx:Nat=>(x:Int))++h.drop m)).toArray:=by
    rw[J,cZ hm,Cq,SH];simp[zs,List.map_drop]
   rw[e];exact j4 U
theorem Qw (a:Option Addr)(n cap c:Nat)(J:c<=cap)(w:World):
  (Instr.sliceAt 76 (.slice a n cap) none (some (.int .i64 (c:Int))) none).run prog w= .ok (.slice a c cap) w:=by
 have h: prog.underlying 76 =some (.slice (prog.elem 76)):=by kernel_rfl
 have z: prog.elem 76 = 3 :=by kernel_rfl
 have G:(sizeOf 3).run prog w= .ok 1 w:=by kernel_rfl
 rw[run_sliceAt_slice _ _ _ _ _ _ h,run_slice_h _ _ _ _ _ h .i64 (c:Int) (by omega) (by omega),z,G];cases a with
 |none=>simp[sliced]
 |some x=>cases x;simp[sliced,Addr.add]
theorem UE (b:Nat)(w:World):(Instr.sliceAt 73 (.pointer (some ⟨b,0,none⟩)) none none none).run prog w= .ok (.slice b 13 13) w:=by show Sem.run _ _ _=_;kernel_rfl
theorem aec (h:bc w g (aL n v) T)(z:n.B.length=13):(loadVar 73 ⟨g,4,none⟩).run prog w= .ok (.agg (zs n.B).toArray) w:=
 fy h z λ_ G=>Cr v (by omega)
def nR (n:bS) (own:List Nat):List Int:=if n.K=2 then Gf n own else mY n own
def gY (n:bS) (own:List Nat):List (List Int):=if n.K=2 then xQ n.E own 4 else kf n
theorem Ag (n:bS):∀k,pn n k=(if 6<(fu n.B).length then 1 else 0)+fO n.E k
 |0=>by rw[pn,fO];rfl
 |k+1=>by rw[pn,fO,Ag n k,dN];omega
theorem UF:fu (List.replicate 13 0)=[]:=by kernel_rfl
theorem vg (h:oW n):eQ n=fO n.E 4:=by
 rw[eQ,Ag,h.2.2.1,UF];simp
theorem sf (h:qM n):eQ n=if 6<(fu n.B).length then 1 else 0:=by
 have z:n.E=[]:=bg h.2.1;rw[eQ,Ag,z];rfl
theorem Nk (n:bS)(own:List Nat):(mY n own).length=8:=by
 have h:=mj n.B 13;have z:(fu n.B).length<=13:=h;unfold mY;split
 ·simp;omega
 ·simp;omega
theorem Bl (n:bS)(own:List Nat):(nR n own).length=8:=by
 unfold nR;split
 ·rfl
 ·exact Nk n own
theorem UG (J:cm n):xN n.E:=by
 rcases J.2.2 with ⟨-,G⟩|⟨-,z⟩
 ·have :=G.2.1
  exact⟨by omega,λk h=>by omega,λk h=>by omega⟩
 ·have U:=z.1
  refine⟨by omega,λk h=> ?_,λk h=> ?_⟩
  ·have :=(oz (z.2.2.2 k h).1).2
   rw[mh] at this;omega
  ·have :=(z.2.2.2 k h).2.1
   omega
theorem SI (n:bS)(v:Value)(g:Nat)(hB:n.B.length=13)(hR:cm n)(hE:bD w v g n.E)(vo:Value)(go:Nat)(own:List Nat)(hO:Reads w vo go (dJ own))(ho:own.length=eQ n)(wq:∀c∈own,c<256):
  Calls prog 188 #[aL n v,vo] w (pA w (nR n own) (gY n own)):=by
 have ht:=uj hR;obtain⟨V,J⟩:∃V,V=(w.alloc (.cells (aL n v) 75)).alloc (.cells (aX (List.replicate 8 0)).toArray 132):=⟨_,rfl⟩;have W:bc V w.heap.size (aL n v) 75 :=by
  rw[J];exact(bc.new w _ _).alloc _
 have jI:bc V (w.heap.size+1) (aX (List.replicate 8 0)).toArray 132 :=by
  have :=bc.new (w.alloc (.cells (aL n v) 75)) (aX (List.replicate 8 0)).toArray 132;have e:(w.alloc (.cells (aL n v) 75)).heap.size=w.heap.size+1:=by simp
  rw[e,<-J] at this;exact this
 have cM:ay [] w V:=by
  rw[J];exact((ay.refl [] w).alloc _).alloc _
 have uP:=ar (bZ W hB);have cK:V.cell? ⟨w.heap.size,1,none⟩=some (.int .i64 n.K):=by rw[W.cell];exact(fT v hB).f1
 have ai:=kV;obtain⟨rf,fG,JK⟩:=hh3 J cM jI;have aa:=Bl n own;have mi:Hid (∀w1 vb gb,ay [] V w1->pz w1 vb gb (gY n own)->w.heap.size<=gb->gb≠w.heap.size+1->∃w2,(storeVar 132 (w.heap.size+1:Nat) (.agg (aX (nR n own)).toArray)).run prog w1= .ok () w2/\(loadVar 132 (w.heap.size+1:Nat)).run prog w2= .ok (.agg (aX (nR n own)).toArray) w2/\pA w (nR n own) (gY n own) (.returned (.tuple #[(aX (nR n own)).toArray,vb])) w2):=λw1 vb gb hk hb hg af=>by
  obtain⟨w2,hS,ae,ac⟩:=bE (P:= prog) (ty:= 132) (cs:=aX (nR n own)) (by rw[bA,aa];exact iZ) (jI.keep hk) (by simp[bA,aa]) (fk _);exact⟨w2,hS,fN ae aa,vb,gb,rfl,hb.keep ac (by intro _;simp;exact af),hg,(cM.trans' hk).trans ac (by intro x hx;rw[au] at hx;omega)⟩
 have ag:w.heap.size+1<V.heap.size:=jI.lt;by_cases hK:n.K=2
 ·have hd:oW n:=(hR.2.2.resolve_left (λh=>by have :=h.1;omega)).2
  have z:nR n own=Gf n own:=aB hK;have G:gY n own=xQ n.E own 4:=aB hK;have HD:=ar (Qt n v g hB ht (hE.keep cM) (UG hR) (by have :=hd.1;omega) vo go own (hO.keep cM) (by rw[ho,vg hd]) wq);rw[<-z,<-G] at HD;rw[hK] at cK;rw[J] at cK;clear W jI cM J hE hO ho hR ht hd z G hK;generalize nR n own=RW,gY n own=BW,aL n v=Z,vW:(aX (List.replicate 8 0)).toArray=Z8 at *;go_in;go_wp2_with((with_reducible show wpList _ _ _ (⟨_,.load 75 (.tmp 2),_,_,_,_⟩::_) _ _);rw[<-rf.out];refine gH rfl 75 (.tmp 2) rfl _ rfl _ uP.out ?_);refine HD.out.mono ?_;rintro e w1 ⟨vb,gb,rfl,hb,hg,U⟩;obtain⟨w2,hS,hL,hM⟩:=mi.out w1 vb gb U hb (by have :=fG.out.size;omega) (by omega);obtain⟨HS,HL,HM⟩:=hh3 hS hL hM;clear hS hL hM hb hg U;go_wp2_with(with_reducible refine gS 132 HS.out ?_);exact aH (eI results188 rfl HL.out rfl) rfl HM.out
 ·have hf:qM n:=(hR.2.2.resolve_right (λh=>hK h.1)).2
  have z:nR n own=mY n own:=aA hK;have G:gY n own=kf n:=aA hK;have HD:Hid (Calls prog 213 #[aL n v,vo] V (pA V (mY n own) (kf n))):=by
   have hn:=sf hf;by_cases h6:(fu n.B).length<=6
   ·exact Gd n v hB ht vo own h6
   ·rw[aB] at hn
    refine K6 n v hB ht vo go own (hO.keep cM) ?_ (by omega) (by omega);exact wq _ (by rw[aj,aD (by omega:0<own.length)];exact bM _)
  rw[<-z,<-G] at HD;rw[J] at cK;have ah:(n.K==2)=false:=by simpa using hK
  clear W jI cM J hE hO ho hR ht hf z G;generalize nR n own=RW,gY n own=BW,n.K=K,aL n v=Z,vW:(aX (List.replicate 8 0)).toArray=Z8 at *;go_in;go_wp2_with((with_reducible show wpList _ _ _ (⟨_,.load 75 (.tmp 2),_,_,_,_⟩::_) _ _);rw[<-rf.out];refine gH rfl 75 (.tmp 2) rfl _ rfl _ uP.out ?_);refine HD.out.mono ?_;rintro e w1 ⟨vb,gb,rfl,hb,hg,U⟩;obtain⟨w2,hS,hL,hM⟩:=mi.out w1 vb gb U hb (by have :=fG.out.size;omega) (by omega);obtain⟨HS,HL,HM⟩:=hh3 hS hL hM;clear hS hL hM hb hg U;go_wp2_with(with_reducible refine gS 132 HS.out ?_);exact aH (eI results188 rfl HL.out rfl) rfl HM.out
def pE (X R:List Int) (n:bS) (own:List Nat):Prop:=
 (∀k,k<own.length->(gY n own).getD k []=eu X (1080+8*own.getD k 0))/\nR n own=R
theorem xW (V:cm n)(G:own.length=eQ n):(gY n own).length=own.length:=by
 unfold gY;rcases V.2.2 with ⟨z,U⟩|⟨z,J⟩
 ·rw[aA,G,sf U,kf]
  by_cases h:(fu n.B).length<=6
  ·rw[aB h,aA];rfl
  ·rw[aA h,aB];rfl
 ·rw[aB z,oL,G,vg J]
theorem wC (z:k<(gY n own).length):((gY n own).getD k []).length=8:=by
 unfold gY at *;by_cases G:n.K=2
 ·rw[aB G] at z ⊢
  rw[oL] at z;obtain⟨b,j,V,U,rfl⟩:=uT n.E z;rw[se n.E own U V];exact X8 (by rw[kT,pC];omega) _
 ·rw[aA G] at z ⊢
  unfold kf at *;have J:(fu n.B).length<=13:=mj n.B 13;by_cases h:(fu n.B).length<=6
  ·rw[aB h] at z;simp at z
  ·rw[aA h] at z ⊢
   obtain rfl:k=0:=by simpa using z
   simp;omega
theorem D4{Ls:List (List Int)}(h:pz w v g Ls){k:Nat}(hk:k<Ls.length)(J:(Ls.getD k []).length=8):
  ∃off cap,v= .slice (some ⟨g,off,none⟩) Ls.length cap/\g<w.heap.size/\∀z,z.heap[g]? =w.heap[g]? ->(loadVar 132 ⟨g,off+k*8,none⟩).run prog z= .ok (.agg (aX (Ls.getD k [])).toArray) z:=by
 obtain⟨a,cap,U,h2,h3,h4⟩:=h;obtain⟨hg,off,rfl,W⟩:=h4 (by omega);refine⟨off,cap,U,hg,λz V=>bX g (off+k*8) (aX (Ls.getD k [])) underlying132 rfl (by rw[bA,J];exact iZ) λj G=> ?_⟩;rw[bA,J] at G;rw[aO (w:=w) (a:=⟨g,off+k*8+j,none⟩) V,W k hk j G,dM (by rw[J];exact G)]
theorem UH (Qx:eN w b gp B ps)(n:bS)(v:Value)(g:Nat)(hB:n.B.length=13)(hR:cm n)(hE:bD w v g n.E)(vo:Value)(go:Nat)(own:List Nat)(hO:Reads w vo go (dJ own))(ho:own.length=eQ n)(wq:∀c∈own,c<256){R:List Int}(aN:R.length=8):
  Calls prog 187 #[b,(aX R).toArray,aL n v,vo] w λe w'=>∃t:Bool,e= .returned (.bool t)/\(t=true↔pE (az B ps) R n own)/\ay [] w w':=by
 obtain⟨ao,co,rfl,Ng,aW,SC⟩:=sU hO;obtain⟨W0,U⟩:∃W0,W0=(w.alloc (.cells (aX R).toArray 132)).alloc (.cells (aL n v) 75):=⟨_,rfl⟩;have rQ:bc W0 w.heap.size (aX R).toArray 132 :=by
  rw[U];exact(bc.new w _ _).alloc _
 have tX:bc W0 (w.heap.size+1) (aL n v) 75 :=by
  have :=bc.new (w.alloc (.cells (aX R).toArray 132)) (aL n v) 75;have e:(w.alloc (.cells (aX R).toArray 132)).heap.size=w.heap.size+1:=by simp
  rw[e] at this;rw[U];exact this
 have cM:ay [] w W0:=by
  rw[U];exact((ay.refl _ _).alloc _).alloc _
 obtain⟨uP,aQ⟩:=hh2 (bZ tX hB) (SI n v g hB hR (hE.keep cM) (.slice ao own.length co) go own (hO.keep cM) ho wq);have aJ:=xW hR ho;have Qy:Hid (∀k,k<own.length->((gY n own).getD k []).length=8):=λk hk=>wC (by omega)
 have aa:=Bl n own;have aY:=kV;have aZ:own.length<=4001:=by
  rw[ho]
  have :=Cy n (by rcases hR.2.2 with ⟨-,hf⟩|⟨-,hd⟩;·have :=hf.2.1;omega
                  ·have :=hd.1;omega) 4
  unfold eQ;have h2:=hR.2.2;rcases h2 with ⟨-,hf⟩|⟨-,hd⟩
  ·have :=sf hf
   unfold eQ at this;rw[this];split<;>omega
  ·have h3:=vg hd
   have Px:=hd.1;unfold eQ at h3;rw[h3];have e0:=kv n.E 0;have e1:=kv n.E 1;have e2:=kv n.E 2;have e3:=kv n.E 3;simp only[fO,dN];omega
 have ac:Hid (∀t,(t=true↔pE (az B ps) R n own)↔(t=true↔((∀k,k<own.length->(gY n own).getD k []=eu (az B ps) (1080+8*own.getD k 0))/\nR n own=R))):=λt=>Iff.rfl
 obtain⟨vP,rf,fG,Un⟩:=hh4 (Qx.keep cM) U cM rQ;have Yf:Hid (∀k,k<own.length->own.getD k 0<256):=λk hk=>wq _ (by rw[aj,aD hk];exact bM hk)
 have BU:=ar aN;have ba:W0.heap.size=w.heap.size+1+1:=by rw[U];simp
 clear rQ tX cM U hE hO hR ho wq hB Qx;generalize aK:nR n own=RW,aM:gY n own=BW,aL n v=Z,EU:(aX R).toArray=ZR at *;have av:=ar EU;generalize vW:(aX (List.replicate 8 0)).toArray=Z8 at *;have xz:=ar vW;clear aK aM EU vW;generalize hn:own.length=nn at *;have HN:=ar hn;clear hn;go_in;go_wp2_with((with_reducible show wpList _ _ _ (⟨_,.load 75 (.tmp 6),_,_,_,_⟩::_) _ _);rw[<-rf.out];refine gH rfl 75 (.tmp 6) rfl _ rfl _ uP.out ?_);refine aQ.out.mono ?_;rintro e w1 ⟨vb,gb,rfl,hb,hg,af⟩;obtain⟨w2,aF,EB,ak⟩:=bE (P:= prog) (ty:= 132) (cs:=aX RW) (by rw[bA,aa];exact iZ) (bc.new w1 Z8 132) (by rw[<-xz.out];simp[bA,aa]) (fk _);have aP:=af.size;have EF:=ar aF;have fC:Hid (ay [] W0 w2):=(af.alloc (.cells Z8 132)).trans ak (by intro x G;rw[au] at G;omega);have X7:=ar EB;have aC:Hid (pz w2 vb gb BW):=by
  obtain⟨a,cap,q1,q2,q3,q4⟩:=hb;refine pz.keep (l:=[w1.heap.size]) ⟨a,cap,q1,q2,q3,q4⟩ (((ay.refl [w1.heap.size] w1).alloc (.cells Z8 132)).trans' ak) λh0 hm=> ?_
  have :=(q4 h0).1;rw[au] at hm;omega
 clear aF EB ak af hb hg aP;generalize aU:w1.heap.size=g9 at *;go_wp2_with(with_reducible refine gS 132 EF.out ?_);go_loopg [21] nn (λgh s21 z=>∃k:Nat,k+gh=nn/\s21= .int .i64 (k:Int)/\Hid ((∀j,j<k->BW.getD j []=eu (az B ps) (1080+8*own.getD j 0))/\ay [] w2 z))
 case atStart=>exact⟨0,by omega,rfl,λj hj=>by omega,ay.refl _ _⟩
 case round=>
  obtain⟨k,hk,rfl,HP⟩:=hrel;obtain⟨J,gD⟩:=HP.out;cases gk with
  |zero=>
   obtain rfl:k=nn:=by omega
   have aR:=ar (fN (X7.out.keep gD) aa);have JL:Hid ((loadVar 132 w.heap.size).run prog wr= .ok (.agg ZR) wr):=by
    have :=(Un.out.keep fC.out).keep gD;rw[<-av.out] at this ⊢;exact fN this BU.out
   have Iz:=λz=>ML (a:=RW) (b:=R) aa BU.out z
   have aH:=xK;rw[av.out] at Iz;obtain⟨t,ht⟩:∃t,decide (RW=R)=t:=⟨_,rfl⟩;rw[ht] at Iz;have HF:Hid (∃t':Bool,Ending.returned (.bool t)=t'/\(t'=true↔pE (az B ps) R n own)/\ay [] w wr):=by
    refine⟨t,rfl,(ac.out t).2 ?_,fG.out.trans' (fC.out.trans' gD)⟩;rw[<-ht,decide_eq_true_iff];exact⟨λh=>⟨J,h⟩,λh=>h.2⟩
   have aT:=Iz;clear J gD HP ht Iz;generalize (aX RW).toArray=ZW at *;go_wp2_with(with_reducible first|refine gL 132 aR.out ?_|refine gL 132 JL.out ?_);go_ret;exact HF.out
  |succ gg=>
   have V:k<nn:=by omega
   have bb:(k:Int)<(nn:Int):=by omega
   have cM:(0:Int)<=(k:Int):=by omega
   obtain⟨ax,Qq,rfl,aG⟩:=SC.out k V;have c0:=(aO (w:=w) (w':=wr) (a:=⟨go,Qq+k,none⟩) ((fG.out.trans' (fC.out.trans' gD)).block go ax (by simp))).trans aG;have G:=Yf.out k V;obtain⟨off,cap,rfl,aB,pN⟩:=D4 aC.out (k:=k) (by omega) (Qy.out k V);rw[aJ] at *;have mO:Hid (∀z,ay [] wr z->(loadVar 132 ⟨gb,off+k*8,none⟩).run prog z= .ok (.agg (aX (BW.getD k [])).toArray) z):=λz yQ=>pN z ((gD.trans' yQ).block gb aB (by simp))
   obtain⟨x,ae⟩:∃x,x=own.getD k 0:=⟨_,rfl⟩;rw[<-ae] at G c0;have nP:=ar (λz=>j6 (x:Int) z);have Be:Hid (iG (x:Int)=((1080+8*x:Nat):Int)):=by
    show _=_;rw[iG,aA];omega
   rw[Be.out] at nP;have mZ:Hid (∀z,ay [] wr z->Calls prog 62 #[b,((1080+8*x:Nat):Int)] z λe w'=>e=(aX (eu (az B ps) (1080+8*x))).toArray/\ay [] z w'):=λz yQ=>
    po (((vP.out.keep fC.out).keep gD).keep yQ) (1080+8*x) (by omega)
   have Iz:=λz=>ML (a:=BW.getD k []) (b:=eu (az B ps) (1080+8*x)) (Qy.out k V) (iy _ _) z
   have aH:=xK;obtain⟨t,ht⟩:∃t,decide (BW.getD k []=eu (az B ps) (1080+8*x))=t:=⟨_,rfl⟩;rw[ht] at Iz;obtain⟨Ey,jD⟩:=hh2 J gD;have HT:Hid (t=true↔BW.getD k []=eu (az B ps) (1080+8*own.getD k 0)):=by
    show _↔_;rw[<-ht,decide_eq_true_iff,ae]
   have aV:=Iz;clear J gD HP aG ax aB pN aC ht G ae Be Iz;generalize aI:((1080+8*x:Nat):Int)=px,K9:(x:Int)=xi,(aX (BW.getD k [])).toArray=ZQ,(aX (eu (az B ps) (1080+8*x))).toArray=ZP at *;clear aI K9;cases t;all_goals
    go_wp2_with fail;refine iW (S:=λz=>ay [] wr z) ((ay.refl _ _).drew) ?_;repeat (
     (first
     |(refine aS.cons (.agg ZQ) (bG.load rfl 132 (.tmp 28) rfl _ rfl λz G=>mO.out z G) ?_)
     |(refine aS.cons (.int .i64 px) (bG.call rfl 155 #[xi] ?W ?h) ?_;(case W=>(intro wz;go_simp));(case h=>exact λz G=>(nP.out z).mono λe w' W=>⟨W.1,W.2▸G⟩))
     |(refine aS.cons (.agg ZP) (bG.call rfl 62 #[b,px] ?W ?h) ?_;(case W=>(intro wz;go_simp));(case h=>exact λz G=>(mZ.out z G).mono λe w' W=>⟨W.1,G.trans' W.2⟩))
     |(refine aS.cons ?_ (bG.val rfl ?h) ?_;(case h=>(intro z G;clear G;go_simp;rfl))));simp only[Act.put,ag,ah,ai])
    refine aS.done λwz G=> ?_
    have ED:=ar G;clear G
   ·have HF:Hid (∃t':Bool,Ending.returned false= .returned t'/\(t'=true↔pE (az B ps) R n own)/\ay [] w wz):=by
     refine⟨false,rfl,(ac.out false).2 ⟨λh=>(by cases h),λh=> ?_⟩,fG.out.trans' (fC.out.trans' (jD.out.trans' ED.out))⟩;have :=HT.out.2 (h.1 k V);cases this
    go_wp2;go_ret;exact HF.out
   ·have HN:Hid ((∀j,j<k+1->BW.getD j []=eu (az B ps) (1080+8*own.getD j 0))/\ay [] w2 wz):=by
     refine⟨λj hj=> ?_,jD.out.trans' ED.out⟩;by_cases e:j=k
     ·subst e;exact HT.out.1 (by trivial)
     ·exact Ey.out j (by omega)
    clear Ey HT ac;go_wp2;go_roundg gg;case measure=>omega
    case rel=>exact⟨k+1,by omega,by go_num,HN.out⟩
theorem CH (n:bS)(own:List Nat):(nR n own).getD 0 0=oX n/\(nR n own).getD 1 0=n.S:=by
 unfold nR;split
 ·exact⟨rfl,rfl⟩
 ·unfold mY
  split<;>exact⟨rfl,rfl⟩
theorem Nl (l:List (ByteArray×Int))(j y:Nat)(W:y<7):(eU (AJ l j)).getD y 0=if 3*j+y/2<l.length/\y<6 then (if y%2=0 then ((kS (bl (eY l (3*j+y/2))):Nat):Int) else jq l (3*j+y/2)) else 0:=by
 by_cases h:3*j+y/2<l.length/\y<6
 ·rw[aB h]
  have z:y/2<(AJ l j).length:=by rw[pC];omega
  obtain⟨-,V,U⟩:=EW l j (y/2) z;have G:=vY (AJ l j) (y/2) z;rcases (show y%2=0\/y%2=1 by omega) with J|J
  ·rw[aB J,<-V,<-G.1,show y/2*2=y by omega]
  ·rw[aA,<-U,<-G.2,show y/2*2+1=y by omega]
 ·rw[aA h,aj,aZ (by rw[kT,pC];omega)]
  rfl
theorem Yg (h:n.K=2){b:Nat}(z:b<4):(nR n own).getD (2+b) 0=hdD n.E own b/\(nR n own).getD 6 0=0/\(nR n own).getD 7 0=0:=by
 unfold nR;rw[aB h];refine⟨?_,rfl,rfl⟩;rcases (show b=0\/b=1\/b=2\/b=3 by omega) with rfl|rfl|rfl|rfl<;>rfl
end
end Go.Proofs.YtimcfdnbpkiniaaGreatDoor
