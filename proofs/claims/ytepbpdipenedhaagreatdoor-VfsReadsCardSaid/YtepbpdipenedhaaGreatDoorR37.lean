/- Lemmas. -/
import Derived.Test.YtepbpdipenedhaaGreatDoorR36
import Derived.LaidMore
import Derived.Stop.Joined
import Derived.Laws.IdiomArrays
set_option maxHeartbeats 2000000
set_option maxRecDepth 100000
namespace Go.Proofs.YtepbpdipenedhaaGreatDoor
open Go.Proofs.Tryz
open Go.RowKit
def Y8 (G:World) (f b gn gl gf U J:Nat) (D:List Int) (n O:Int) (x:List Int) (V:Nat) (z:World):Prop:=
 ∃E h,z.cell? ⟨V,0,none⟩=some (.int .i64 E)/\DZ G f b gn gl gf U J h (nI D 832) (n+3000) z/\((E≠0/\h=D)\/(E=0/\(0<=O/\O+x.length<=832)/\h=KJ D O x))
theorem R5 {z w4 w5:World}{f b gn gl gf ga gw U:Nat}{D:List Int}{n O:Int}{x:List Int}{r:lX}{Z:Array Value}{T:Nat}(hr:Hw w4 r Z)(hb:bh w5 U Z T)(h:(r.E≠0/\R4 z f b gn gl gf D (n+3000) w4)\/(r.E=0/\(0<=O/\O+x.length<=832)/\R4 z f b gn gl gf (KJ D O x) (n+3000) w4))
  (V:∀W,R4 z f b gn gl gf W (n+3000) w4->DZ z f b gn gl gf ga gw W (nI D 832) (n+3000) w5):Y8 z f b gn gl gf ga gw D n O x U w5:=by
 have hc:w5.cell? ⟨U,0,none⟩=some (.int .i64 r.E):=by
  obtain⟨_,_,rfl,-⟩:=hr;rw[hb.cell];rfl
 rcases h with ⟨G,J⟩|⟨G,J,h3⟩
 ·exact⟨r.E,D,hc,V D J,.inl ⟨G,rfl⟩⟩
 ·exact⟨r.E,_,hc,V _ h3,.inr ⟨G,J,rfl⟩⟩
theorem NZ (g n f:Nat)(U:f<=n)(h:World):(Instr.sliceAt 31 (.slice (some ⟨g,0,none⟩) n n) none (some (.int .i64 (f:Int))) none).run prog h= .ok (.slice (some ⟨g,0,none⟩) f n) h:=by
 have z: prog.underlying 31 =some (.slice (prog.elem 31)):=by kernel_rfl
 have G: prog.elem 31 = 5 :=by kernel_rfl
 have J:(sizeOf 5).run prog h= .ok 1 h:=by kernel_rfl
 rw[jh _ _ _ _ _ _ z,run_slice_h _ _ _ _ _ z .i64 (f:Int) (by omega) (by omega),G,J];simp only[cm,sliced,aH];simp;intro _;rfl
theorem N0 {w:World}(hT:kg w){v:Value}{g:Nat}{l:List kM}(hL:zU w v g l)(ak:Bool):
  Calls prog 3 #[v,.bool ak] w λe w'=>e= .returned (.bool true)/\az [] w w':=by
 have aN:=au (λJ (hk:az [] w J)=>Qu (hT.keep hk));have bf:=au (λJ (hk:az [] w J)=>Y5 (hL.keep hk) 10 (by omega));have yU:=au (λJ (hk:az [] w J)=>NF (hT.keep hk) (k:=1) (.inl rfl));have Bq:=au hT;have O5:=au hL;obtain⟨a,cap,rfl,b6,bV,aZ⟩:=hL;have cf:=NG;clear hT aZ;unfold Bo at bf;go_enter func3,ntmps3;go_wp2_with fail;refine(aN.out w (az.refl _ _)).mono ?_;rintro e w1 ⟨rfl,aW⟩;have U:=au aW;have bw:=au (bf.out w1 aW);clear aW bf;go_wp2_with fail;refine bw.out.mono ?_;rintro e w' ⟨fb,rfl,bk,rfl⟩;have aG:=au bk;clear bk bw;cases fb
 ·have bR:=au (aN.out w1 U.out)
  clear aN yU aG;go_wp2_with fail;refine bR.out.mono ?_;rintro e w2 ⟨rfl,bt⟩;have fL:=au (U.out.trans' bt);clear bt;go_wp2_with fail;go_ret;exact⟨rfl,fL.out⟩
 have bE:=au (yU.out w1 U.out);clear aN yU;go_wp2_with fail;refine bE.out.mono ?_;rintro e w3 ⟨f,b,gn,gl,gf,Y,rfl,hl,o9⟩
 -- the way, and the file
 have bC:az [] w3 (w3.alloc (.cells #[.string Ef] 9)):=(az.refl _ _).alloc _;have Sd:=NH w3 Ef 9;have hI:zS (w3.alloc (.cells #[.string Ef] 9)) (YS Ef) (.slice (some ⟨w3.heap.size,0,none⟩) 1 1) (.slice none 0 0) (.slice none 0 0):=
  ⟨⟨_,Sd⟩,λs hs=>by rw[ay.1 hs];decide,⟨0,nM _ _⟩,by simp[YS],⟨0,nK _ _⟩,by simp[YS]⟩
 have bA:=Bq.out.keep U.out;have bn:Hid (Calls prog 10 #[.pointer (some ⟨f,0,none⟩),.agg #[.int .i64 0,.slice (some ⟨w3.heap.size,0,none⟩) 1 1,.slice none 0 0,.int .i64 0,.int .i64 0,.slice none 0 0]] (w3.alloc (.cells #[.string Ef] 9)) λe w4=>∃Z,e= .returned (.agg Z)/\
   Hid (DZ w1 f b gn gl gf w3.heap.size w4.heap.size [] (List.replicate 832 0) 6520 (w4.alloc (.cells (jL (List.replicate 832 0)).toArray 5)))):=by
  show Calls _ _ _ _ _;refine(uI (Jp _ rfl) (hl.keep0 bC) bA (by omega) hI).mono ?_;rintro e w4 ⟨r,Z,rfl,-,bv,h⟩;have aL:∃X,Live w1 f b gn gl gf (fA []) X 6520 w4:=by
   rcases h with ⟨h0,h1,⟨-,-,-,-,h5⟩|h5⟩|⟨-,-,h5,X',h6⟩
   ·rw[o9,KI.2] at h5
    omega
   ·rw[h5] at h0
    exact absurd KI.2 h0
   ·rw[KI.1] at h6
    exact⟨X',h6⟩
  refine⟨Z,rfl,?_⟩;have aR:w3.heap.size∉[f,b,gn,gl,gf]:=λhm=>by
   obtain⟨d,hd,hp⟩:=hl.pm;have ho:=hp.old (by show Y.length≠0;have :=hl.ws.len;omega);have :=hl.fs.lt;simp only[aP,aM,bz] at hm;omega
  have ac:=bv.size;rw[br] at ac;have bW:=hl.keeps.size;obtain⟨X,hX⟩:=aL;have bN:=hX.keep0 ((az.refl [] w4).alloc (.cells (jL (List.replicate 832 0)).toArray 5));refine⟨⟨⟨X,bN⟩,by simp,by simp⟩,(Sd.keep bv (λhm=>aR (eQ _ hm))).keep ((az.refl [] w4).alloc _) (by simp),bh.new _ _ _,⟨by omega,by omega⟩,aR,λhm=> ?_,by omega⟩;obtain⟨d,hd,hp⟩:=hX.pm;have ho:=hp.old (by show X.length≠0;have :=hX.ws.len;omega);have :=hX.fs.lt;simp only[aP,aM,bz] at hm;omega
 have bX:∀J,(Instr.makeSlice 31 (.int .i64 832) (.int .i64 832)).run prog J= .ok (.slice (some ⟨J.heap.size,0,none⟩) 832 832) (J.alloc (.cells (jL (List.replicate 832 0)).toArray 5)):=λJ=>abE 832 (by omega) J
 clear hl o9 bC Sd hI bA bE;go_wp2_with fail;refine bn.out.mono ?_;rintro e w4 ⟨Z,rfl,hr⟩;have PG:=au hr.out;clear hr bn;generalize (jL (List.replicate 832 0)).toArray=b7 at *;go_wp2_with fail;obtain⟨V,tv⟩:∃V,w3.heap.size=V:=⟨_,rfl⟩;obtain⟨gw,PS⟩:∃gw,w4.heap.size=gw:=⟨_,rfl⟩;rw[tv,PS] at PG ⊢;have GC:Hid (∀k,k<l.length->∃off ad cd,a=some ⟨g,off,none⟩/\(∀y∈(oT l k).D,0<=y/\y<256)/\(-9223372036854775808<=(oT l k).O/\(oT l k).O<=9223372036854775807)/\∀J,az [] w J->J.cell? ⟨g,off+k*6+3,none⟩=some (.int .i64 (oT l k).O)/\J.cell? ⟨g,off+k*6+5,none⟩=some (.slice ad (oT l k).D.length cd)/\∃gd,Reads J (.slice ad (oT l k).D.length cd) gd (jL (oT l k).D)):=λk hk=>by
  obtain⟨a',c',e,-,-,aZ⟩:=O5.out;cases e;obtain⟨hg,off,ha,Z,G,av⟩:=aZ k hk;obtain⟨vp,vq,vd,rfl,-,-,gd,hD⟩:=G.cells;have ax:=hD;obtain⟨ad,cd,e1,-⟩:=ax;rw[fF] at e1;subst e1;refine⟨off,ad,cd,ha,G.bytes,G.i64.2.1,λJ C9=>⟨?_,?_,gd,hD.keep C9 (by simp)⟩⟩
  ·rw[aO (w:=w) (a:=⟨g,off+k*6+3,none⟩) (C9.block g hg (by simp))]
   exact av 3 (by omega)
  ·rw[aO (w:=w) (a:=⟨g,off+k*6+5,none⟩) (C9.block g hg (by simp))]
   exact av 5 (by omega)
 go_loopg [9,10,11] l.length (λgh s9 Sq KR J=>∃(k:Nat) (D:List Int),k+gh=l.length/\s9= .int .i64 (D.length:Int)/\Sq= .int .i64 (k:Int)/\
  Hid (DZ w1 f b gn gl gf V gw D (nI D 832) (6520+12000*(k:Int)) J))
 case atStart=>
  refine⟨0,[],by omega,rfl,rfl,?_⟩;have hp:nI [] 832=List.replicate 832 0:=by
   unfold nI;rw[List.take_nil,bY];rfl
  rw[hp];exact PG.out.le (by omega)
 case round=>
  obtain⟨k,D,hk,rfl,rfl,HI⟩:=hrel;cases gk with
  |zero=>
   obtain rfl:k=l.length:=by omega
   have bT:l.length<=10:=(aG.out trivial).1;have cm:¬(l.length:Int)<(l.length:Int):=by omega
   have hD:=HI.out.lv.2.1;have ac:=λy (hy:wr.heap.size<=y)=>HI.out.fresh hy
   have aj:zS wr (RV 3 2000) (.slice (some ⟨V,0,none⟩) 1 1) (.slice none 0 0) (.slice none 0 0):=
    ⟨⟨V,HI.out.nm⟩,λs hs=>by rw[ay.1 hs];decide,⟨0,nM _ _⟩,by simp[RV],⟨0,nK _ _⟩,by simp[RV]⟩
   have bo:Hid (Calls prog 10 #[.pointer (some ⟨f,0,none⟩),.agg #[.int .i64 3,.slice (some ⟨V,0,none⟩) 1 1,.slice none 0 0,.int .i64 0,.int .i64 2000,.slice none 0 0]] wr λe w5=>∃Z,e= .returned (.agg Z)/\Hid (∃w6 vd,(storeVar 34 ⟨w5.heap.size,0,none⟩ (.agg Z)).run prog (w5.alloc (.cells #[.int .i64 0,.int .i64 0,.int .i64 0,.int .i64 0,.int .i64 0,.slice none 0 0,.slice none 0 0] 34))= .ok () w6/\
     DZ w1 f b gn gl gf V gw D (nI D 832) (6520+12000*(l.length:Int)+3000) w6/\∀J,az [b,gn,gl,gf] w6 J->J.cell? ⟨w5.heap.size,0,none⟩=some (.int .i64 0)/\J.cell? ⟨w5.heap.size,5,none⟩=some vd/\(convert 31 9 vd).run prog J= .ok (.string (aei D)) J/\(convert 31 9 (.slice (some ⟨gw,0,none⟩) D.length 832)).run prog J= .ok (.string (aei D)) J)):=by
    show Calls _ _ _ _ _;refine(NY HI.out.lv (Bq.out.keep U.out) (by omega) (.inl rfl) (abV hD) rfl aj).mono ?_;rintro e w5 ⟨r,Z,rfl,h1,h2,h3,h4⟩;obtain rfl:=h4 _ rfl;obtain⟨vd,ve,rfl,⟨gd,wP,bH⟩,-⟩:=id h1;obtain⟨w6,s1,s2,s3⟩:=uF (bh.new w5 #[.int .i64 0,.int .i64 0,.int .i64 0,.int .i64 0,.int .i64 0,.slice none 0 0,.slice none 0 0] 34) rfl h1.at;have U1:az [w5.heap.size] w5 w6:=((az.refl _ _).alloc _).trans' s3;have bq:=HI.out.go h2 h3;have bD:=bq.fresh (aI _);have af:=bq.keep U1 (λy hy=>by rw[ay] at hy;rw[hy];exact bD);have bG:∀y,y∈[b,gn,gl,gf]->y∈[f,b,gn,gl,gf,V,gw]:=λy hy=>by
     simp only[aP,aM,bz] at hy ⊢;omega
    have bP:Reads w6 vd gd (jL D):=Ju wP U1 (λhx hm=>by
     rw[ay] at hm;obtain⟨_,_,_,_,_,x6⟩:=wP;have :=(x6 hx).1;omega)
    refine⟨_,rfl,w6,vd,s1,af,λJ C9=> ?_⟩;have LS:=s2.keep C9 (λhm=>bD.2 (bG _ hm));refine⟨by rw[LS.cell];rfl,by rw[LS.cell];rfl,Js (Ju bP C9 λhx hm=> ?_),Js (QE hD (af.wt.keep C9 λhm=>af.off.2.1 (eQ _ hm)))⟩;exact(ac gd (bH λe=>hx (by have e':D=[]:=e;rw[e'];rfl))).2 (bG _ hm)
   have IE:=pZ;rw[p8] at IE;have YN:=au hD;clear ac aj HI hD GC aG;go_wp2_with fail;refine bo.out.mono ?_;rintro e w5 ⟨Z,rfl,hq⟩;obtain⟨w6,vd,s1,af,aS⟩:=hq.out;have DG:=au s1;have oo:=au aS;have bL:=au af;have bU:=YN.out;have bO:=NZ gw 832 D.length bU;have aj:zS w6.drew (RV 10 0) (.slice (some ⟨V,0,none⟩) 1 1) (.slice none 0 0) (.slice none 0 0):=
    ⟨⟨V,(af.keep0 (az.refl _ _).drew).nm⟩,λs hs=>by rw[ay.1 hs];decide,⟨0,nM _ _⟩,by simp[RV],⟨0,nK _ _⟩,by simp[RV]⟩
   have bF:Hid (Calls prog 10 #[.pointer (some ⟨f,0,none⟩),.agg #[.int .i64 10,.slice (some ⟨V,0,none⟩) 1 1,.slice none 0 0,.int .i64 0,.int .i64 0,.slice none 0 0]] w6.drew λe w9=>∃aD aF,e= .returned (.agg #[.int .i64 0,.int .i64 (D.length:Int),.int .i64 1,.int .i64 1,.int .i64 1,aD,aF])/\Hid (az [b,gn,gl,gf] w6 w9/\az [] w w9)):=by
    show Calls _ _ _ _ _;refine(NY (af.keep0 (az.refl _ _).drew).lv (Bq.out.keep U.out) (by omega) (.inr rfl) (abW D) rfl aj).mono ?_;rintro e w9 ⟨r,Z9,rfl,⟨aD,aF,rfl,-⟩,h2,⟨⟨X,hX⟩,-⟩,h4⟩;obtain rfl:=h4 _ rfl;exact⟨aD,aF,rfl,((az.refl _ _).drew).trans' h2,U.out.trans' hX.keeps⟩
   clear hq s1 aS af aj bo IE
   go_upto_region 22 with(first|(with_reducible refine gS 34 DG.out ?_))
   refine jX (S:=λJ=>az [b,gn,gl,gf] w6 J) [0,1,2,3,4,5,6,7,8,9,10,11,12,13,14,15,16,19] [17,18,20,21,22] (l:=[_,_,_,_,_,_,_,_,_,_,_,_,_,_,_,_,_,_]) (tl:=[_,_,_,_,_]) (by kernel_rfl) (by kernel_rfl) (by kernel_rfl) (by kernel_rfl) rfl rfl rfl rfl rfl (λd _ _ _ _ h=>by cases d<;>exact h) (az.refl _ _).drew ?_;simp only[iz,iI,iJ];repeat (refine cN.cons ?_ (YieldsIf.val rfl ?h) ?_;(case h=>(intro z G;have c0:=(oo.out z G).1;have c5:=(oo.out z G).2.1;have v1:=(oo.out z G).2.2.1;have v2:=(oo.out z G).2.2.2;clear G;go_simp;first|done|rfl));simp only[Act.put,ag,ah,ai])
   refine cN.done ?_;unfold gI;go_wp2_with fail;refine bF.out.mono ?_;rintro e w9 ⟨aD,aF,rfl,bj⟩;have aU:=au bj.out;have cj:=Jq 0 (D.length:Int) 1 1 1 aD aF;clear bj bF oo bL PG;go_wp2_with fail
   iterate 4
    refine⟨aU.out.1,?_⟩;unfold gI;go_wp2_with fail
   refine⟨aU.out.1,?_⟩;unfold gI;go_wp2_with fail;go_ret;exact⟨rfl,aU.out.2⟩
  |succ gg=>
   have b8:(k:Int)<(l.length:Int):=by omega
   obtain⟨off,ad,cd,rfl,bB,bZ,av⟩:=GC.out k (by omega);have X6:Hid (∀z,az [] w1 z->z.cell? ⟨g,off+k*6+3,none⟩=some (.int .i64 (oT l k).O)/\z.cell? ⟨g,off+k*6+5,none⟩=some (.slice ad (oT l k).D.length cd)/\∃gd,Reads z (.slice ad (oT l k).D.length cd) gd (jL (oT l k).D)):=λz G=>av z (U.out.trans' G)
   have DU:Hid (∀z,az [] wr z->z.cell? ⟨g,off+k*6+3,none⟩=some (.int .i64 (oT l k).O)/\z.cell? ⟨g,off+k*6+5,none⟩=some (.slice ad (oT l k).D.length cd)/\∃gd,Reads z (.slice ad (oT l k).D.length cd) gd (jL (oT l k).D)):=λz G=>av z (U.out.trans' (HI.out.keeps.trans' G))
   have bT:l.length<=10:=(aG.out trivial).1;have bJ:=au bB;generalize (oT l k).O=O at *;generalize (oT l k).D=x at *;have ac:=HI.out.fresh (aI _)
   -- what a write leaves, in its variable, which was made ahead of it or behind it
   have aJ:Hid (∀z,az [] wr z->Calls prog 10 #[.pointer (some ⟨f,0,none⟩),.agg #[.int .i64 2,.slice (some ⟨V,0,none⟩) 1 1,.slice none 0 0,.int .i64 O,.int .i64 0,.slice ad x.length cd]] z λe w4=>∃Z,e= .returned (.agg Z)/\
     Hid ((bh z wr.heap.size #[.int .i64 0,.int .i64 0,.int .i64 0,.int .i64 0,.int .i64 0,.slice none 0 0,.slice none 0 0] 34->∃w5,(storeVar 34 ⟨wr.heap.size,0,none⟩ (.agg Z)).run prog w4= .ok () w5/\Hid (Y8 w1 f b gn gl gf V gw D (6520+12000*(k:Int)) O x wr.heap.size w5))/\
      ∃w5,(storeVar 34 ⟨w4.heap.size,0,none⟩ (.agg Z)).run prog (w4.alloc (.cells #[.int .i64 0,.int .i64 0,.int .i64 0,.int .i64 0,.int .i64 0,.slice none 0 0,.slice none 0 0] 34))= .ok () w5/\Hid (Y8 w1 f b gn gl gf V gw D (6520+12000*(k:Int)) O x w4.heap.size w5))):=λz G=>by
    have hI:=HI.out.keep0 G;obtain⟨-,-,gd,wP⟩:=DU.out z G;have aj:zS z (opW O x) (.slice (some ⟨V,0,none⟩) 1 1) (.slice none 0 0) (.slice ad x.length cd):=
     ⟨⟨V,hI.nm⟩,λs hs=>by rw[ay.1 hs];decide,⟨0,nM _ _⟩,by simp[opW],⟨gd,wP⟩,bJ.out⟩
    show Calls _ _ _ _ _;refine(Vu hI.lv (Bq.out.keep U.out) (by omega) aj).mono ?_;rintro e w4 ⟨r,Z,rfl,h1,h2,h3⟩;refine⟨Z,rfl,λhb=> ?_,?_⟩
    ·obtain⟨w5,s1,s2,s3⟩:=uF (hb.keep h2 (λhm=>ac.2 (by simp only[aP,aM,bz] at hm ⊢;omega))) rfl h1.at
     refine⟨w5,s1,R5 h1.at s2 h3 (λD' ax=>(hI.go h2 ax).keep s3 λy hy=> ?_)⟩;rw[ay] at hy;rw[hy];exact ac
    ·obtain⟨w5,s1,s2,s3⟩:=uF (bh.new w4 #[.int .i64 0,.int .i64 0,.int .i64 0,.int .i64 0,.int .i64 0,.slice none 0 0,.slice none 0 0] 34) rfl h1.at
     refine⟨w5,s1,R5 h1.at s2 h3 (λD' ax=>((hI.go h2 ax).keep0 ((az.refl _ _).alloc _)).keep s3 λy hy=> ?_)⟩;rw[ay] at hy;rw[hy];exact(hI.go h2 ax).fresh (aI _)
   have IE:=pZ;rw[p8] at IE;have b9:0<=(k:Int):=by omega
   clear GC av bB aG O5
   go_upto_region 13 with fail
   go_cut [11] (λKR J=>∃ar:Nat,KR= .pointer (some ⟨ar,0,none⟩)/\Hid (Y8 w1 f b gn gl gf V gw D (6520+12000*(k:Int)) O x ar J))
   case first=>
    generalize Y8 w1 f b gn gl gf V gw D (6520+12000*(k:Int)) O x=WP at *;refine DY (l:=[_,_,_,_,_,_,_,_,_,_,_,_,_]) (tl:=[_]) (o:=_) (f:=_) (S:=λbb z=>az [] wr z/\(bb=true->bh z wr.heap.size #[.int .i64 0,.int .i64 0,.int .i64 0,.int .i64 0,.int .i64 0,.slice none 0 0,.slice none 0 0] 34)/\(bb=false->z.heap.size=wr.heap.size)) (by kernel_rfl) (by kernel_rfl) rfl (by kernel_rfl) (by kernel_rfl) (by kernel_rfl) (by kernel_rfl) (by kernel_rfl) (by kernel_rfl) (by kernel_rfl) (by kernel_rfl) (by kernel_rfl) (by kernel_rfl) (λd _ _ _ _ h=>by cases d<;>exact h) ⟨(az.refl _ _).drew,by simp[df],λ_=>rfl⟩ ?_;repeat (first
     |(refine fG.cons (.int .i64 O) (λbb=>bc.val rfl ?h) ?_;(case h=>(intro z G;have c3:=(DU.out z G.1).1;clear G;go_simp;done));simp only[Act.put,ag,ah,ai])
     |(refine fG.cons (.slice ad x.length cd) (λbb=>bc.val rfl ?h) ?_;(case h=>(intro z G;have c5:=(DU.out z G.1).2.1;clear G;go_simp;done));simp only[Act.put,ag,ah,ai])
     |(refine fG.cons ?_ (λbb=>bc.val rfl ?h) ?_;(case h=>(intro z G;clear G;go_simp;rfl));simp only[Act.put,ag,ah,ai]))
    refine fG.done ⟨⟨.pointer (some ⟨wr.heap.size,0,none⟩),⟨rfl,λz G=> ?_⟩,λz G=> ?_⟩,λz G=> ?_⟩
    ·have bM:=G.2.2 trivial
     have bQ:=G.1;clear G
     go_simp
     exact⟨rfl,bQ.alloc _,by rw[<-bM];exact bh.new _ _ _⟩
    ·obtain⟨dt,hb,-⟩:=G
     have HB:=au (hb trivial);have HD:=au (aJ.out z dt);clear dt hb aJ DU;go_wp2_with fail;refine HD.out.mono ?_;rintro e w4 ⟨Z,rfl,hq⟩;obtain⟨w5,s1,s2⟩:=hq.out.1 HB.out;have HS:=au s1;clear hq s1 HB HD;go_wp2_with(with_reducible refine gS 34 HS.out ?_);go_meet;exact⟨_,rfl,s2⟩
    ·obtain⟨dt,-,-⟩:=G
     have HD:=au (aJ.out z dt);clear dt aJ DU;go_wp2_with fail;refine HD.out.mono ?_;rintro e w4 ⟨Z,rfl,hq⟩;obtain⟨w5,s1,s2⟩:=hq.out.2;have HS:=au s1;clear hq s1 HD;go_wp2_with(with_reducible refine gS 34 HS.out ?_);go_meet;exact⟨_,rfl,s2⟩
   case rest=>
    obtain⟨ar,rfl,bl⟩:=hcut;obtain⟨E,D2,cE,aQ,aY⟩:=bl.out;have Y6:=au aQ;have Re:=au aQ.keeps;obtain⟨c3,c5,-⟩:=X6.out wc aQ.keeps;have aL:D.length<=832:=HI.out.lv.2.1;clear bl aQ aJ DU ac HI;rcases aY with ⟨hE,rfl⟩|⟨rfl,hb,rfl⟩
    ·have b1:(E==0)=false:=cQ.2 hE
     clear hE aL;have ZJ:=Y6
     go_upto_region 17 with fail
     have HT:=au ZJ.out;cases ak
     ·clear Bq Re PG Y6 X6
      go_wp2_with fail;go_roundg gg;case measure=>omega
      case rel=>exact⟨k+1,D2,by omega,by go_num,by go_num,ZJ.out.le (by omega)⟩
     ·have Vy:=au (λm=>ZJ.out.turn (m:=m) (Bq.out.keep U.out) (by omega) (.inl rfl))
      go_wp2_with fail;refine(Vy.out _).mono ?_;rintro e w6 ⟨Z6,rfl,ae⟩;have Ut:=au (ae.out.turn (Bq.out.keep U.out) (by omega) (.inr ⟨rfl,rfl⟩));clear Vy;go_wp2_with fail;refine Ut.out.mono ?_;rintro e w7 ⟨Z7,rfl,aa⟩;have Zz:=au (aa.out.turn (Bq.out.keep U.out) (by omega) (.inr ⟨rfl,rfl⟩));clear Ut;go_wp2_with fail;refine Zz.out.mono ?_;rintro e w8 ⟨Z8,rfl,aA⟩;clear Zz Bq Re PG Y6 ae aa;go_wp2_with fail;go_roundg gg;case measure=>omega
      case rel=>exact⟨k+1,D2,by omega,by go_num,by go_num,aA.out.le (by omega)⟩
    ·obtain⟨W,rfl⟩:=cu hb.1
     by_cases hx:x=[]
     ·subst hx
      have ew:KJ D (W:Int) []=D:=by unfold KJ;rw[aC rfl]
      rw[ew] at Y6;have ZJ:=Y6;clear X6 ew
      go_upto_region 17 with fail
      cases ak
      ·clear Bq Re PG Y6
       go_wp2_with fail;go_roundg gg;case measure=>omega
       case rel=>exact⟨k+1,D,by omega,by go_num,by go_num,ZJ.out.le (by omega)⟩
      ·have Vy:=au (λm=>ZJ.out.turn (m:=m) (Bq.out.keep U.out) (by omega) (.inl rfl))
       go_wp2_with fail;refine(Vy.out _).mono ?_;rintro e w6 ⟨Z6,rfl,ae⟩;have Ut:=au (ae.out.turn (Bq.out.keep U.out) (by omega) (.inr ⟨rfl,rfl⟩));clear Vy;go_wp2_with fail;refine Ut.out.mono ?_;rintro e w7 ⟨Z7,rfl,aa⟩;have Zz:=au (aa.out.turn (Bq.out.keep U.out) (by omega) (.inr ⟨rfl,rfl⟩));clear Ut;go_wp2_with fail;refine Zz.out.mono ?_;rintro e w8 ⟨Z8,rfl,aA⟩;clear Zz Bq Re PG Y6 ae aa;go_wp2_with fail;go_roundg gg;case measure=>omega
       case rel=>exact⟨k+1,D,by omega,by go_num,by go_num,aA.out.le (by omega)⟩
     ·have bu:0<x.length:=List.length_pos_iff.2 hx
      have ck:(0:Int)<(x.length:Int):=by omega
      have bO:=Nr gw 832 W (by omega);have Mw:Hid (x≠[]/\W+x.length<=832/\D.length<=832/\0<x.length):=⟨hx,by omega,aL,bu⟩;clear hx hb aL bu
      go_upto_region 15 with fail
      refine fw (l:=[_,_,_,_,_,_,_,_,_,_,_,_]) (o:=_) (tl:=[]) (S:=λz=>az [] wc z) (by kernel_rfl) rfl (by kernel_rfl) (λd _ _ _ _ h=>by cases d<;>exact h) ((az.refl _ _).drew) (by kernel_rfl) (by kernel_rfl) ?_;repeat (first
       |(refine aK.cons (.int .i64 (W:Int)) (bc.val rfl ?h) ?_;(case h=>(intro z G;have c3:=(X6.out z (Re.out.trans' G)).1;clear G;go_simp;done));simp only[Act.put,ag,ah,ai])
       |(refine aK.cons (.slice ad x.length cd) (bc.val rfl ?h) ?_;(case h=>(intro z G;have c5:=(X6.out z (Re.out.trans' G)).2.1;clear G;go_simp;done));simp only[Act.put,ag,ah,ai])
       |(refine aK.cons ?_ (bc.val rfl ?h) ?_;(case h=>(intro z G;clear G;go_simp;rfl));simp only[Act.put,ag,ah,ai]))
      refine aK.done λz G=> ?_
      obtain⟨-,-,gd,wP⟩:=X6.out z (Re.out.trans' G);have bg:=Y6.out.keep0 G;obtain⟨bI,bS,bK,cg⟩:=Mw.out;obtain⟨rr,w5,yO,rI,j6⟩:=KC (o:=W) (n:=832-W) (cap:=832-W) bg.wt wP (by rw[oW];omega);have bp:(nI D 832).take W++x.take (832-W)++(nI D 832).drop (W+min x.length (832-W))=nI (KJ D (W:Int) x) 832:=by
       rw[abY bK bI bS,aV (l:=x) (by omega),cC (by omega),ba]
      rw[bp] at rI;have aX:Hid (DZ w1 f b gn gl gf V gw (KJ D (W:Int) x) (nI (KJ D (W:Int) x) 832) (6520+12000*(k:Int)+3000) w5):=by
       obtain⟨z1,z2,z3,z4,z5,z6,z7⟩:=bg;exact⟨z1.keep j6 (λy hy=>by rw[ay] at hy;rw[hy];exact⟨z4.2,z6⟩),z2.keep j6 (by rw[ay];exact z7),rI,z4,z5,z6,z7⟩
      have JV:=yO 3;clear yO rI j6 bg bp wP G Y6;have aT:=au aX.out.keeps
      go_upto_region 16 with fail
      refine fw (l:=[_,_,_,_,_,_,_,_,_,_,_,_,_]) (o:=_) (tl:=[_]) (S:=λz=>az [] w5 z) (by kernel_rfl) rfl (by kernel_rfl) (λd _ _ _ _ h=>by cases d<;>exact h) ((az.refl _ _).drew) (by kernel_rfl) (by kernel_rfl) ?_;repeat (first
       |(refine aK.cons (.int .i64 (W:Int)) (bc.val rfl ?h) ?_;(case h=>(intro z G;have c3:=(X6.out z (aT.out.trans' G)).1;clear G;go_simp;done));simp only[Act.put,ag,ah,ai])
       |(refine aK.cons (.slice ad x.length cd) (bc.val rfl ?h) ?_;(case h=>(intro z G;have c5:=(X6.out z (aT.out.trans' G)).2.1;clear G;go_simp;done));simp only[Act.put,ag,ah,ai])
       |(refine aK.cons ?_ (bc.val rfl ?h) ?_;(case h=>(intro z G;clear G;go_simp;rfl));simp only[Act.put,ag,ah,ai]))
      refine aK.done λz G=> ?_
      have ZJ:=au (aX.out.keep0 G);clear G aX aT
      go_upto_region 17 with fail
      have AO:Hid ((Value.int .i64 (max (D.length:Int) ((W:Int)+(x.length:Int))))= .int .i64 ((KJ D (W:Int) x).length:Int)):=by
       show _=_;unfold KJ;rw[aB Mw.out.1,aH,ya]
       congr 1
       omega
      have HT:=au ZJ.out;cases ak
      ·clear Bq PG X6
       go_wp2_with fail;go_roundg gg;case measure=>omega
       case rel=>exact⟨k+1,KJ D (W:Int) x,by omega,AO.out,by go_num,ZJ.out.le (by omega)⟩
      ·have Vy:=au (λm=>ZJ.out.turn (m:=m) (Bq.out.keep U.out) (by omega) (.inl rfl))
       go_wp2_with fail;refine(Vy.out _).mono ?_;rintro e w6 ⟨Z6,rfl,ae⟩;have Ut:=au (ae.out.turn (Bq.out.keep U.out) (by omega) (.inr ⟨rfl,rfl⟩));clear Vy;go_wp2_with fail;refine Ut.out.mono ?_;rintro e w7 ⟨Z7,rfl,aa⟩;have Zz:=au (aa.out.turn (Bq.out.keep U.out) (by omega) (.inr ⟨rfl,rfl⟩));clear Ut;go_wp2_with fail;refine Zz.out.mono ?_;rintro e w8 ⟨Z8,rfl,aA⟩;clear Zz Bq PG ae aa;go_wp2_with fail;go_roundg gg;case measure=>omega
       case rel=>exact⟨k+1,KJ D (W:Int) x,by omega,AO.out,by go_num,aA.out.le (by omega)⟩
end Go.Proofs.YtepbpdipenedhaaGreatDoor
namespace Go.Proofs.YtepbpdipenedhaaGreatDoor
open Go.Proofs.Tryz
open Go.ChangeShapes Go.WideShapes Go.ChangeAt Go.RowKit
section
variable {H:Type} {enc:TypeId×Value->H} {W:World} {base:Nat} {spare:Nat->Bool} {held:Bool}
end
section
variable {H:Type} {enc:TypeId×Value->H} {W:World} {base:Nat} {spare:Nat->Bool} {held:Bool}
end
section
variable {P:Program} {H:Type} {enc:TypeId×Value->H} {W:World} {base:Nat} {spare:Nat->Bool} {held:Bool}
theorem N1 {t e:TypeId}{k:IntKind}{fuel:Nat}{cs:List Value}{x:DataW H×List MemPlace}(ht:P.underlying t=some (.slice e))(he:P.underlying e=some (.int k))(hc:P.cellsOf e=1)
  (h:DataW.trod enc P W base spare held fuel t cs=some x):∃(v:Value) (g:Nat) (zs:List Int),cs=[v]/\Reads W v g (zs.map (Value.int k))/\∀n∈zs,(Lit.int k n).wf=true:=by
 rcases open_ints ht he hc h with ⟨rfl,-⟩|⟨a,len,cap,zs,rfl,-,hl,hm,hz,-,z,J⟩
 ·exact⟨_,0,[],rfl,⟨none,0,rfl,by simp,by simp[maxLen],λh=>absurd rfl h⟩,by simp⟩
 ·have aa:len<=zs.length:=by rw[hz];split<;>omega
  have U:((zs.take len).map (Value.int k)).length=len:=by simp;omega
  by_cases h0:len=0
  ·subst h0
   exact⟨_,0,[],rfl,⟨some a,cap,rfl,by simp,hm,λh=>absurd rfl h⟩,by simp⟩
  ·have G:=z 0 (by omega)
   obtain⟨g,off,rfl⟩:=Ep G rfl;refine⟨_,g,zs.take len,rfl,⟨some ⟨g,off,none⟩,cap,by rw[U],by rw[U];exact hl,hm,λ_=>⟨by simpa[add_plain] using za G,off,rfl,λj V=> ?_⟩⟩,λn hn=>J n (bM hn)⟩;rw[U] at V;have :=z j (by omega);rw[add_plain] at this;rw[this];simp[V,show j<zs.length by omega]
theorem open_strs{fuel:Nat}{cs:List Value}{x:DataW H×List MemPlace}(h:DataW.trod enc prog W base spare held fuel 29 cs=some x):∃v g P,cs=[v]/\jg W v g P:=by
 obtain⟨a,len,cap,rfl,h1,h2,h3⟩:=H5 (sz:=1) underlying29 (by kernel_rfl) (by omega) h;by_cases V:len=0
 ·subst V
  exact⟨_,0,[],rfl,⟨a,cap,rfl,by simp,h2,λh=>absurd rfl h⟩⟩
 ·obtain⟨g,off,rfl,hg,hx⟩:=h3 V
  have G:∀i,i<len->∃s:ByteArray,W.cell? ⟨g,off+i,none⟩=some (.string s):=λi J=>by
   obtain⟨U,y,n,hl,hc,ht⟩:=hx i J
   match U,hl with
   | [c0],_=>
    obtain⟨s,e0,-⟩:=DataW.trod_string underlying9 ht;simp only[List.cons.injEq,and_true] at e0;subst e0;have :=hc 0 (by omega);rw[iq,dR] at this;exact⟨s,this⟩
  obtain⟨f,hf⟩:∃f:Nat->ByteArray,∀i,i<len->W.cell? ⟨g,off+i,none⟩=some (.string (f i)):=
   ⟨λi=>if h:i<len then Classical.choose (G i h) else ByteArray.empty,λi J=>by simp only[dif_pos J];exact Classical.choose_spec (G i J)⟩
  refine⟨_,g,(List.range len).map f,rfl,⟨some ⟨g,off,none⟩,cap,by simp,by simpa using h1,h2,λ_=>⟨hg,off,rfl,λj hj=> ?_⟩⟩⟩;have z:j<len:=by simpa using hj
  rw[hf j z];simp[z]
theorem Y9 {fuel:Nat}{cs:List Value}{x:DataW H×List MemPlace}(h:DataW.trod enc prog W base spare held fuel 37 cs=some x):∃(o:kM) (Z:Array Value),cs=Z.toList/\Gy W o Z:=by
 obtain⟨xs,n,-,-,hl,G,z⟩:=DataW.trod_struct underlying37 h;rw[show prog.cellsOf 37 =6 by kernel_rfl] at hl
 match cs,hl with
 | [c0,c1,c2,c3,c4,c5],_=>
  have f0:DataW.trod enc prog W base spare held n 3 (([c0,c1,c2,c3,c4,c5].drop 0).take (prog.cellsOf 3))=xs[0]? :=z 0 _ rfl;have f1:DataW.trod enc prog W base spare held n 29 (([c0,c1,c2,c3,c4,c5].drop 1).take (prog.cellsOf 29))=xs[1]? :=z 1 _ rfl;have f2:DataW.trod enc prog W base spare held n 29 (([c0,c1,c2,c3,c4,c5].drop 2).take (prog.cellsOf 29))=xs[2]? :=z 2 _ rfl;have f3:DataW.trod enc prog W base spare held n 3 (([c0,c1,c2,c3,c4,c5].drop 3).take (prog.cellsOf 3))=xs[3]? :=z 3 _ rfl;have f4:DataW.trod enc prog W base spare held n 3 (([c0,c1,c2,c3,c4,c5].drop 4).take (prog.cellsOf 3))=xs[4]? :=z 4 _ rfl;have f5:DataW.trod enc prog W base spare held n 31 (([c0,c1,c2,c3,c4,c5].drop 5).take (prog.cellsOf 31))=xs[5]? :=z 5 _ rfl;simp only[show prog.cellsOf 3 =1 by kernel_rfl,show prog.cellsOf 29 =1 by kernel_rfl,show prog.cellsOf 31 =1 by kernel_rfl,List.drop_zero,List.drop_succ_cons,List.take_succ_cons,eV] at f0 f1 f2 f3 f4 f5
  match xs,G with
  | [y0,y1,y2,y3,y4,y5],_=>
   simp only[List.getElem?_cons_zero,cX] at f0 f1 f2 f3 f4 f5;obtain⟨V,e0,-,w0⟩:=DataW.trod_int underlying3 f0;obtain⟨vp,gp,P,e1,hP⟩:=open_strs f1;obtain⟨vq,gq,Q,U,hQ⟩:=open_strs f2;obtain⟨n3,e3,-,w3⟩:=DataW.trod_int underlying3 f3;obtain⟨n4,J,-,w4⟩:=DataW.trod_int underlying3 f4;obtain⟨vd,gd,D,e5,hD,hw⟩:=N1 (P:= prog) underlying31 underlying5 (by kernel_rfl) f5;simp only[List.cons.injEq,and_true] at e0 e1 U e3 J e5;subst e0 e1 U e3 J e5;refine⟨⟨V,P,Q,n3,n4,D⟩,Gs ⟨V,P,Q,n3,n4,D⟩ c1 c2 c5,rfl,⟨⟨c1,c2,c5,rfl,⟨gp,hP⟩,⟨gq,hQ⟩,gd,hD⟩,⟨bounds_i64 w0,bounds_i64 w3,bounds_i64 w4⟩,λy hy=> ?_⟩⟩;have :=bounds_u8 (hw y hy);omega
theorem Vv {fuel:Nat}{cs:List Value}{x:DataW H×List MemPlace}(h:DataW.trod enc prog W base spare held fuel 22 cs=some x):∃v g l,cs=[v]/\zU W v g l:=by
 obtain⟨a,len,cap,rfl,h1,h2,h3⟩:=H5 (sz:=6) underlying22 (by kernel_rfl) (by omega) h;by_cases h0:len=0
 ·subst h0
  exact⟨_,0,[],rfl,a,cap,rfl,by simp,h2,λj U=>by simp at U⟩
 ·obtain⟨g,off,rfl,hg,hx⟩:=h3 h0
  have G:∀i,i<len->∃p:kM×Array Value,Gy W p.1 p.2/\∀c,c<6->W.cell? ⟨g,off+(i*6+c),none⟩=p.2[c]? :=λi J=>by
   obtain⟨aa,y,n,hl,hc,V⟩:=hx i J;obtain⟨o,Z,rfl,ho⟩:=Y9 V;exact⟨(o,Z),ho,λc h=>by rw[hc c h,dw]⟩
  obtain⟨f,hf⟩:∃f:Nat->kM×Array Value,∀i,i<len->Gy W (f i).1 (f i).2/\∀c,c<6->W.cell? ⟨g,off+(i*6+c),none⟩=(f i).2[c]? :=
   ⟨λi=>if h:i<len then Classical.choose (G i h) else (⟨0,[],[],0,0,[]⟩,#[]),λi J=>by simp only[dif_pos J];exact Classical.choose_spec (G i J)⟩
  refine⟨_,g,(List.range len).map λi=>(f i).1,rfl,_,cap,by simp,by simpa using h1,h2,λj U=>⟨hg,off,rfl,(f j).2,?_,λt V=> ?_⟩⟩
  ·have z:j<len:=by simpa using U
   have e1:oT ((List.range len).map λi=>(f i).1) j=(f j).1:=by simp[oT,z]
   rw[e1];exact(hf j z).1
  ·have z:j<len:=by simpa using U
   rw[Nat.add_assoc];exact(hf j z).2 t V
end
end Go.Proofs.YtepbpdipenedhaaGreatDoor
namespace Go.Proofs.YtepbpdipenedhaaGreatDoor
open Go.Proofs.Tryz
open Go.ChangeShapes Go.WideShapes Go.ChangeAt Go.WideMaps Go.WideElems Go.RowKit
theorem Tryz.gTab: prog.globalNamed "math/bits.deBruijn64tab" =some 0 :=by kernel_rfl
theorem Tryz.tTab:(prog.globals[0]?).map (·.type)=some 267 :=by kernel_rfl
theorem Tryz.cells_u8: prog.cellsOf 5 =1:=by kernel_rfl
theorem ab2 {H:Type}:Rows.laid_math_bits_deBruijn64tab (H:=H)= .agg (Lib.deBruijn64tab.map λn:Nat=> .lit (.int .u8 (n:Int))):=rfl
theorem N2 {W:World}(h:laidMetH prog [("math/bits.deBruijn64tab",Rows.laid_math_bits_deBruijn64tab)] W):kg W:=by
 rw[MakeChecks.laidMetH_plain _ _ _ (by kernel_rfl)] at h;obtain⟨ps,⟨g0,t0,z,f0,p0,q0,V,ag,ah,ae,_,_⟩,_,_⟩:=h;obtain rfl:=Option.some.inj (Tryz.gTab.symm.trans V);obtain rfl:=Option.some.inj (Tryz.tTab.symm.trans ag);obtain⟨xs,m,rfl,hx,aa,hn,af⟩:=DataW.trod_array underlying267 ae;rw[ab2] at hx;simp only[Prod.mk.injEq,DataW.agg.injEq] at hx;intro j hj;have G:=af j hj;rw[Tryz.cells_u8,iq] at G;cases hxj:xs[j]? with
 |none=>rw[List.getElem?_eq_none_iff] at hxj;omega
 |some y=>
  rw[hxj] at G;have U:((z.toList.drop j).take 1).length=1:=by
   rw[aJ,bE];have ai: prog.cellsOf 267 =64:=by kernel_rfl
   rw[ai] at aa;omega
  obtain⟨c,hc⟩:∃c,(z.toList.drop j).take 1=[c]:=by
   match (z.toList.drop j).take 1,U with
   | [c],_=>exact⟨c,rfl⟩
  rw[hc] at G;obtain⟨k,e1,e2,_⟩:=DataW.trod_int underlying5 G;have hk:(xs.map (·.1))[j]? =some (.lit (.int .u8 k)):=by rw[bF,hxj,e2];rfl
  rw[<-hx.1,bF] at hk;have ac:j<Lib.deBruijn64tab.length:=hj;rw[aG ac] at hk;have ak:k=((Lib.deBruijn64tab.getD j 0:Nat):Int):=by
   have :((Lib.deBruijn64tab[j]:Nat):Int)=k:=by simpa using hk
   rw[<-this,aj,aG ac];rfl
  have J:=World.var?_cell V ah j;rw[J,<-ak];have h3:((z.toList.drop j).take 1)[0]? =some c:=by rw[hc];rfl
  rw[bO,aC (by omega),bT,dR,dw] at h3;rw[h3];simp only[List.cons.injEq,and_true] at e1;rw[e1]
theorem Za (os:Os)(args:Array Value):laidMetH prog [("math/bits.deBruijn64tab",Rows.laid_math_bits_deBruijn64tab)] ((World.doorLaid prog 400 os).forCall (λ_ _=>0) ⟨#[],args,[]⟩).memory:=
 laidMetH_of_parts3 (fuel:=8) (laidMet_of_run' 8 (by kernel_rfl) (by kernel_rfl)) (by kernel_rfl) (by kernel_rfl)
end Go.Proofs.YtepbpdipenedhaaGreatDoor
