/- Lemmas. -/
import Derived.Test.YtepbpdipenedhaaGreatDoorM33
set_option maxHeartbeats 4000000
set_option maxRecDepth 100000
namespace Go.Proofs.YtepbpdipenedhaaGreatDoor
open Go.Proofs.Tryz
open Go.RowKit
variable{W w:World}{G T U b g gp k t:Nat}{B c:List Int}{ps:List (Int×Int)}{n:bT}{v z:Value}
theorem Ma (b m:Nat)(J:m+8<=832)(w:World):(Instr.sliceAt 157 (.pointer (some ⟨b,0,none⟩)) (some (.int .i64 (m:Int))) (some (.int .i64 ((m:Int)+8))) none).run prog w= .ok (.slice (some ⟨b,m,none⟩) 8 (832-m)) w:=by
 have G:∀w,(sizeOf (prog.elem 157)).run prog w= .ok 1 w:=λw=>by show Sem.run _ _ _=_;kernel_rfl
 have h: prog.arrayLen 157 =832:=by kernel_rfl
 have z:=run_sliceAt_array_lh (P:= prog) w 157 ⟨b,0,none⟩ (by kernel_rfl) .i64 .i64 (m:Int) ((m:Int)+8) (by omega) (by omega) (by rw[h];omega);rw[G,h,aG,show((m:Int)+8).toNat=m+8 by omega] at z;rw[z];show _=Result.ok (Value.slice (some ⟨b,m,none⟩) 8 (832-m)) w;simp only[Result.andThen,slicedAt,aA (show ¬832=m by omega),iK,add_plain,bc,dD]
theorem RY (b m cap:Nat)(w:World):(Instr.arrayAt 203 (.slice (some ⟨b,m,none⟩) 8 cap)).run prog w= .ok (.pointer (some ⟨b,m,none⟩)) w:=by
 show Sem.run _ _ _=_;kernel_rfl
theorem Wy{m:Nat}{l:List Int}(G:bh w g (kT l).toArray T)(J:m+8<=l.length):(loadVar 203 ⟨g,m,none⟩).run prog w= .ok (.agg (kT ((l.drop m).take 8)).toArray) w:=by
 have h:((l.drop m).take 8).length=8:=by rw[aJ,bM];omega
 refine b7 g m (kT ((l.drop m).take 8)) underlying203 rfl (by rw[fG,h];exact Tryz.info_bytes) λj z=> ?_
 rw[fG,h] at z;rw[G.cell,aF];simp only[kT,bJ,bU,b8];rw[aB z]
theorem aau (G:AO c)(m:Nat)(V:m+8<=832)(w:World):
  Calls prog 152 #[(kT ((c.drop m).take 8)).toArray] w λe w'=>e= .returned (.int .u64 (rQ c m))/\ay [] w w':=by
 have J:((c.drop m).take 8).length=8:=by have :=G.1;rw[aJ,bM];omega
 have h:∀x∈(c.drop m).take 8,0<=x/\x<256:=λx z=>G.2 x (gA (bO z))
 have :=Sn (((c.drop m).take 8).map Int.toNat) (by rw[bZ,J]) (λx z=>by
  obtain⟨y,U,rfl⟩:=bF.1 z;have :=h y U;omega) w
 have e:pk (((c.drop m).take 8).map Int.toNat)=kT ((c.drop m).take 8):=by
  simp only[pk,kT,List.map_map];refine dM λx z=> ?_
  have :=h x z;show Value.int .u8 ((x.toNat:Nat):Int)=Value.int .u8 x;rw[show((x.toNat:Nat):Int)=x by omega]
 rw[e] at this;exact this
def qG (c:List Int) (h:Int) (k i:Nat):List (Int×Int):=(List.range i).map λw:Nat=>(iO h+(w:Int),rQ c (64*k+8*w))
theorem Pk (c:List Int)(h:Int)(k i:Nat):qG c h k (i+1)=qG c h k i++[(iO h+(i:Int),rQ c (64*k+8*i))]:=by
 unfold qG;rw[dU,eu];rfl
theorem RZ (c:List Int)(h:Int)(k i:Nat):(qG c h k i).length=i:=by simp[qG]
theorem Pm (h:B.getD k 0=0):ft B c (k+1)=ft B c k:=by
 show ft B c k++_=_;rw[aB h,br]
theorem R3 (h:B.getD k 0≠0):ft B c (k+1)=ft B c k++qG c (B.getD k 0) k 8:=by
 show ft B c k++_=_;rw[aA h];rfl
def vY (W z:World) (b G:Nat) (B:List Int) (ps:List (Int×Int)):Prop:=∃h,(h=G\/(W.heap.size<=h/\h<z.heap.size))/\eK z b h B ps/\ay [b,G] W z
theorem vY.put{wr wx:World}(h:vY W wr b U B ps)(ac:b<W.heap.size/\U<W.heap.size)(hn:ps.length<=1000000)(G:ay [] wr wx){i:Int}(h0:0<=i)(h1:i<3128)(x:Int):
  Calls prog 48 #[b,i,.int .u64 x] wx λe w'=>e= .returned (.tuple #[])/\vY W w' b U B (ps++[(i,x)]):=by
 obtain⟨gI,hg,hs,uN⟩:=h;have aa:=uN.size;have :=pA (hs.keep G (by simp) (by simp)) hn i x;rw[show Ai ps i x=ps++[(i,x)] by rw[Ai,aB (by rw[uh];omega)]] at this;refine Rr this ?_;rintro w' ⟨lS,V,J,z⟩;have h2:=G.size;have h3:=z.size;refine⟨rfl,lS,?_,J,(uN.trans G (by simp)).trans z λy hy=> ?_⟩
 ·rcases hg with h|h<;>rcases V with h'|h'<;>omega
 ·simp only[aL,aK,bC] at hy ⊢
  rcases hg with h|h<;>omega
theorem Aa (h:eK w b U B ps)(aA:b<w.heap.size/\U<w.heap.size)(aI:ps.length<=900000){n:bT}(hB:n.B.length=13)(hN:lF n.B){c:List Int}(hc:AO c)(o:jB)(vp vq vd v:Value):
  Calls prog 108 #[cA b o vp vq vd,aM n v,(kT c).toArray] w λe w'=>e= .returned (.tuple #[])/\vY w w' b U B (ps++ft n.B c 13):=by
 obtain⟨Z,hZ⟩:∃Z,(kT c).toArray=Z:=⟨_,rfl⟩;obtain⟨W,hW⟩:∃W,((w.alloc (.cells (cA b o vp vq vd) 79)).alloc (.cells (aM n v) 111)).alloc (.cells Z 157)=W:=⟨_,rfl⟩;have cJ:ay [] w W:=by rw[<-hW];exact(((ay.refl [] w).alloc _).alloc _).alloc _
 have jR:bh W w.heap.size (cA b o vp vq vd) 79 :=by rw[<-hW];exact((bh.new w _ _).alloc _).alloc _
 have IC:bh W (w.heap.size+1) (aM n v) 111 :=by rw[<-hW];exact(bh.new2 w _ _ _ _).alloc _
 have Mk:bh W (w.heap.size+1+1) (kT c).toArray 157 :=by
  have :=bh.new2 (w.alloc (.cells (cA b o vp vq vd) 79)) (aM n v) 111 Z 157;rw[aX,hW] at this;rw[hZ];exact this
 have ba:W.heap.size=w.heap.size+1+1+1:=by rw[<-hW];simp only[aX]
 have sf:Hid ((loadVar 109 ⟨w.heap.size+1,4,none⟩).run prog W= .ok (.agg (zs n.B).toArray) W):=fA IC hB λk G=>(gG v hB).f4 k G
 have aD:b<W.heap.size/\U<W.heap.size:=⟨by omega,by omega⟩;have aB:Hid (vY W W b U B (ps++ft n.B c 0)):=⟨U,.inl rfl,by rw[show ft n.B c 0=[] from rfl,br];exact h.keep cJ (by simp) (by simp),ay.refl _ _⟩;have EN:Hid (∀z qs,vY W z b U B qs->vY w z b U B qs):=λz qs hp=>by
  obtain⟨g,h1,h2,h3⟩:=hp;refine⟨g,by rcases h1 with h1|h1<;>omega,h2,(cJ.mono (l':=[b,U]) (by simp)).trans' h3⟩
 have qd:Hid (∀z qs,vY W z b U B qs->z.cell? w.heap.size=some (.pointer (some ⟨b,0,none⟩))):=λz qs hp=>by
  obtain⟨g,h1,h2,h3⟩:=hp;rw[(jR.keep h3 (by simp only[aL,aK,bC];omega)).cell];rfl
 have aW:Hid (∀wr qs z m,vY W wr b U B qs->ay [] wr z->m+8<=832->(loadVar 203 ⟨w.heap.size+1+1,m,none⟩).run prog z= .ok (.agg (kT ((c.drop m).take 8)).toArray) z):=λwr qs z m hp G hm=>by
  obtain⟨g,h1,h2,h3⟩:=hp;exact Wy ((Mk.keep h3 (by simp only[aL,aK,bC];omega)).keep G (by simp)) (by rw[hc.1];exact hm)
 have aJ:Hid (∀k:Nat,k<13->(zs n.B).toArray[k]? =some (.int .i64 (n.B.getD k 0))):=λk G=>by rw[aF,gK (by omega)]
 have NW:Hid (∀k:Nat,k<13->0<=n.B.getD k 0/\n.B.getD k 0<256):=λk G=>mQ hN G
 have aZ:Hid (∀m,m+8<=832->∀z,Calls prog 152 #[(kT ((c.drop m).take 8)).toArray] z λe w'=>e= .returned (.int .u64 (rQ c m))/\ay [] z w'):=λm hm z=>aau hc m hm z
 have aO:Hid (∀k,n.B.getD k 0=0->ft n.B c (k+1)=ft n.B c k):=λk G=>Pm G
 have aH:Hid (∀k,n.B.getD k 0≠0->ft n.B c (k+1)=ft n.B c k++qG c (n.B.getD k 0) k 8):=λk G=>R3 G
 have Mo:Hid (∀k,(ft n.B c k).length<=8*k):=λk=>tP _ _ k
 obtain⟨aY,zM⟩:=hh2 aD aI;rw[hZ];clear cJ jR IC Mk ba h aA hB hN aD aI hZ;generalize cA b o vp vq vd=J,aM n v=N,ft n.B c=CP,zs n.B=NB,n.B.getD=bn at *;go_in;go_wp2_with(with_reducible refine gL 109 sf.out ?_);clear hW sf;go_loopg [6,7,8,9,12] 13 (λgh s6 s7 s8 s9 s12 z=>∃k:Nat,k+gh=13/\s12= .int .i64 (k:Int)/\Hid (vY W z b U B (ps++CP k)))
 case atStart=>exact⟨0,by omega,rfl,aB⟩
 case round=>
  clear aB;obtain⟨k,G,rfl,V⟩:=hrel;cases gk with
  |zero=>
   obtain rfl:k=13:=by omega
   have HE:=ar (EN.out _ _ V.out);clear V EN G;go_wp2_with fail;go_end0;exact⟨rfl,HE.out⟩
  |succ gg=>
   have mn:k<13:=by omega
   have aA:(k:Int)<13:=by omega
   have cJ:(0:Int)<=(k:Int):=by omega
   have Iv:=yR mn (aJ.out k mn);have DN:=NW.out k mn;have ak:=aO.out k;have af:=aH.out k;have az:=Mo.out k;clear aO aH aJ NW Mo;generalize bn k 0=bb at *;by_cases aj:bb=0
   ·subst aj
    have mZ:=V;rw[<-ak rfl] at mZ;clear V DN ak af;go_wp2_with fail;go_roundg gg;case measure=>omega
    case rel=>exact⟨k+1,by omega,by go_num,mZ⟩
   ·have bj:(bb==0)=false:=by simpa using aj
    have aQ:=af aj;obtain⟨pb,ac⟩:∃pb,1080+8*bb=pb:=⟨_,rfl⟩;have au:=KF DN.1 DN.2;have ou:Hid (∀z,Calls prog 149 #[bb] z λe w'=>e=(pb:Int)/\z=w'):=λz=>by
     have :=ky bb z;rwa[au,ac] at this
    have aR:Hid (∀i,qG c bb k (i+1)=qG c bb k i++[(pb+(i:Int),rQ c (64*k+8*i))]):=λi=>by rw[Pk,au,ac]
    have bc:Hid (∀i,(qG c bb k i).length=i):=λi=>RZ _ _ _ _
    have bl:1080<=pb/\pb<3121:=by omega
    obtain⟨aS,aT⟩:=hh2 aQ az;have XM:Hid (vY W wr b U B (ps++(CP k++qG c bb k 0))):=by rw[show qG c bb k 0=[] from rfl,br];exact V.out
    clear ak af aQ ac DN au V az;generalize qG c bb k=WP at *;go_wp2_with fail;go_loopg [8,9,18] 8 (λgh s8 s9 s18 z=>∃i:Nat,i+gh=8/\s18= .int .i64 (i:Int)/\Hid (vY W z b U B (ps++(CP k++WP i))))
    case atStart=>exact⟨0,by omega,rfl,XM⟩
    case round=>
     clear XM;obtain⟨i,hi,rfl,V⟩:=hrel;cases gk with
     |zero=>
      obtain rfl:i=8:=by omega
      have mZ:Hid (vY W wr b U B (ps++CP (k+1))):=by rw[aS.out];exact V.out
      clear V hi;go_wp2_with fail;go_roundg gg;case measure=>omega
      case rel=>exact⟨k+1,by omega,by go_num,mZ⟩
     |succ g2=>
      have Mr:i<8:=by omega
      have su:(i:Int)<8:=by omega
      have bv:(0:Int)<=(i:Int):=by omega
      obtain⟨m,hm⟩:∃m,64*k+8*i=m:=⟨_,rfl⟩;have bf:(k:Int)*64+(i:Int)*8=(m:Int):=by omega
      have ae:m+8<=832:=by omega
      have bw:(m:Int)<832:=by omega
      have aa:=aR.out i;rw[hm] at aa;have HJ:=ar (aZ.out m ae);have mY:Hid (∀z,ay [] wr z->(loadVar 203 ⟨w.heap.size+1+1,m,none⟩).run prog z= .ok (.agg (kT ((c.drop m).take 8)).toArray) z):=λz G=>aW.out _ _ z m V.out G ae
      have aN:Hid (∀z,ay [] wr z->Calls prog 48 #[b,.int .i64 (pb+(i:Int)),.int .u64 (rQ c m)] z λe w'=>e= .returned (.tuple #[])/\vY W w' b U B (ps++(CP k++WP (i+1)))):=λz G=>by
       have :=V.out.put aY.out (by
        have :=zM.out;have :=aT.out;have :=bc.out i;rw[aC,aC];omega) G (i:=pb+(i:Int)) (by omega) (by omega) (rQ c m)
       rwa[aV,aV,<-aa] at this
      have QK:∀z,ay [] wr z->z.cell? w.heap.size=some (.pointer (some ⟨b,0,none⟩)):=λz G=>by
       obtain⟨g,h1,h2,h3⟩:=V.out;exact qd.out z (ps++(CP k++WP i)) ⟨g,by have :=G.size;omega,h2.keep G (by simp) (by simp),h3.trans G (by simp)⟩
      have aG:=ar QK;have bp:IntKind.i64.wrap (pb+(i:Int))=pb+(i:Int):=by rw[cz];omega
      have bu:IntKind.i64.wrap ((k:Int)*64)=(k:Int)*64:=by rw[cz];omega
      have bg:IntKind.i64.wrap ((i:Int)*8)=(i:Int)*8:=by rw[cz];omega
      have bk:IntKind.i64.wrap ((m:Int)+8)=(m:Int)+8:=by rw[cz];omega
      have bq:IntKind.i64.wrap (m:Int)=(m:Int):=by rw[cz];omega
      obtain⟨aP,av⟩:=hh2 (Ma (w.heap.size+1+1) m ae) (RY (w.heap.size+1+1) m (832-m));clear QK aa aR hm;generalize rQ c m=jx,(kT ((c.drop m).take 8)).toArray=DB at *;go_wp2_with fail;refine j4 (l:=[_,_,_,_,_,_,_,_,_,_,_,_,_]) (S:=λz=>ay [] wr z) rfl ((ay.refl _ _).drew) ?_;repeat (
       (first
       |(refine aU.cons (.agg DB) (bR.load rfl 203 (.tmp 36) rfl _ rfl λz hx=>mY.out z hx) ?_)
       |(refine aU.cons (.int .i64 pb) (bR.call rfl 149 #[bb] ?he ?h) ?_;(case he=>(intro wz;go_simp));(case h=>exact λz hx=>(ou.out z).mono λe w' he=>⟨he.1,he.2▸hx⟩))
       |(refine aU.cons (.int .u64 jx) (bR.call rfl 152 #[DB] ?he ?h) ?_;(case he=>(intro wz;go_simp));(case h=>exact λz hx=>(HJ.out z).mono λe w' he=>⟨he.1,hx.trans' he.2⟩))
       |(refine aU.cons ?_ (bR.val rfl ?h) ?_;(case h=>(intro z hx;(have bo:=aG.out z hx);(have bt:=aP.out z);(have SK:=av.out z);clear hx;go_simp;rfl))));simp only[Act.put,ag,ah,ai])
      refine aU.done λz hx=> ?_
      have um:=ar hx;clear hx;go_wp2_with fail;refine Rr (aN.out _ um.out) λw2 ax=> ?_;have mZ:=ar ax;clear ax aN um V HJ mY aG aP av ou;go_wp2_with fail;go_roundg g2;case measure=>omega
      case rel=>exact⟨i+1,by omega,by go_num,mZ⟩
theorem Es (s:Nat)(J:s<=100000)(w:World):Calls prog 150 #[(s:Int)] w λe w'=>e=((bL s:Nat):Int)/\w=w':=by
 have U:IntKind.i64.wrap ((s:Int)+64)=(s:Int)+64:=by rw[cz];omega
 have G:IntKind.i64.wrap ((s:Int)+64-1)=(s:Int)+64-1:=by rw[cz];omega
 have h:((s:Int)+64-1).tdiv 64=((bL s:Nat):Int):=by
  rw[Int.tdiv_eq_ediv_of_nonneg (by omega)];unfold bL;omega
 have z:IntKind.i64.wrap ((bL s:Nat):Int)=((bL s:Nat):Int):=by rw[cz];unfold bL;omega
 go_in;go_wp2_with fail;go_ret;exact⟨rfl,rfl⟩
theorem Wz (h:n.B.length=13){k:Nat}(J:k<13)(x:Int):(aM n v).setIfInBounds (4+k) (.int .i64 x)=aM { n with B:=n.B.set k x } v:=by
 have z:na n v=[.int .i64 n.F,.int .i64 n.K,.int .i64 n.L,.int .i64 n.S]++(zs n.B++[v]):=rfl;have G:na { n with B:=n.B.set k x } v=[.int .i64 n.F,.int .i64 n.K,.int .i64 n.L,.int .i64 n.S]++(zs (n.B.set k x)++[v]):=rfl;unfold aM;rw[ag,z,G,dH _ _ (by simp),List.set_append_left _ _ (by rw[eO,h];simp;omega)];simp[zs,List.map_set]
def Pn (w:World) (b z:Nat) (B:List Int) (ps:List (Int×Int)) (n:bT) (v:Value) (h:List Nat) (e:Ending) (w':World):Prop:=
 ((aZ (az B ps)).length<h.length/\e= .returned (.tuple #[aM cg (.slice none 0 0),(7:Int)])/\ay [] w w')\/
 (h.length<=(aZ (az B ps)).length/\e= .returned (.tuple #[.agg (aM { n with B:=jI n.B h ((aZ (az B ps)).take h.length) h.length } v),(0:Int)])/\vY w w' b z B (ps++dh (az B ps) ((aZ (az B ps)).take h.length)))
theorem Mb (z:n.B.length=13){w:World}{g T:Nat}(G:bh w g (aM n v) T){k:Nat}(h:k<13):w.cell? ⟨g,4+k,none⟩=some (.int .i64 (n.B.getD k 0)):=by
 rw[G.cell];exact(gG v z).f4 k h
theorem WA (h:eK w b gp B ps)(ba:In64 (az B ps))(hT:∀G,ay [b,gp] w G->lD G)(ag:b<w.heap.size/\gp<w.heap.size)(aW:ps.length<=600000){n:bT}(hB:n.B.length=13)(o:jB)(vp vq vd:Value){v:Value}(hv:v.oneCell'=true)(f t:Nat)(bp:f<=t)(ht:t<=832):
  Calls prog 107 #[cA b o vp vq vd,aM n v,(f:Int),(t:Int)] w (Pn w b gp B ps n v (fJ n.B (f/64) (bL t))):=by
 obtain⟨i0,hi,bE,bN,bB⟩:=dc Tryz.info_int;obtain⟨R0,aF⟩:∃R0,aM cg (.slice none 0 0)=R0:=⟨_,rfl⟩;obtain⟨W,hW⟩:∃W,((w.alloc (.cells (cA b o vp vq vd) 79)).alloc (.cells (aM n v) 111)).alloc (.cells R0 111)=W:=⟨_,rfl⟩;have cJ:ay [] w W:=by rw[<-hW];exact(((ay.refl [] w).alloc _).alloc _).alloc _
 have jR:bh W w.heap.size (cA b o vp vq vd) 79 :=by rw[<-hW];exact((bh.new w _ _).alloc _).alloc _
 have IC:bh W (w.heap.size+1) (aM n v) 111 :=by rw[<-hW];exact(bh.new2 w _ _ _ _).alloc _
 have jP:bh W (w.heap.size+1+1) R0 111 :=by
  have :=bh.new2 (w.alloc (.cells (cA b o vp vq vd) 79)) (aM n v) 111 R0 111;rw[aX,hW] at this;exact this
 have bb:W.heap.size=w.heap.size+1+1+1:=by rw[<-hW];simp only[aX]
 have rG:=dz;rw[aF] at rG;obtain⟨a,ha⟩:∃a,f/64=a:=⟨_,rfl⟩;obtain⟨e,he⟩:∃e,bL t=e:=⟨_,rfl⟩;have bV:a<=e/\e<=13:=by rw[<-ha,<-he];unfold bL;omega
 have hq:((f:Int)).tdiv 64=(a:Int):=by
  rw[Int.tdiv_eq_ediv_of_nonneg (by omega)];omega
 have bl:IntKind.i64.wrap (a:Int)=(a:Int):=by rw[cz];omega
 have Nl:Hid (∀G,Calls prog 150 #[(t:Int)] G λx w'=>x=(e:Int)/\G=w'):=λG=>by
  have :=Es t (by omega) G;rwa[he] at this
 rw[ha,he];have UW:Hid (∀G,ay [] W G->∀k,k<13->G.cell? ⟨w.heap.size+1,4+k,none⟩=some (.int .i64 (n.B.getD k 0))):=λG hk k mn=>Mb hB (IC.keep hk (by simp)) mn
 have qd:Hid (∀G,ay [] W G->G.cell? w.heap.size=some (.pointer (some ⟨b,0,none⟩))):=λG hk=>by
  rw[(jR.keep hk (by simp)).cell];rfl
 have bA:Hid (∀k,fJ n.B a (k+1)=fJ n.B a k++(if a<=k/\n.B.getD k 0=0 then [k] else [])):=λk=>Rp _ _ _
 have M7:Hid (∀k,(fJ n.B a k).length<=k):=λk=>vR _ _ _
 have aU:Hid (fJ n.B a a=[]):=by
  refine List.eq_nil_iff_forall_not_mem.2 λx hx=> ?_
  have :=zk.1 hx;omega
 obtain⟨HB,vZ,uV,HT,EX,zM,bv⟩:=hh7 hB h ba hT ag aW IC;obtain⟨EH,lU,fI,Rw,HV⟩:=hh5 jP bb cJ aF hv;have bQ:=hW;clear h ba hT ag aW hB jR IC jP bb cJ ha he bp ht aF hv;generalize hJ:cA b o vp vq vd=J,hN:aM n v=N at *;have HN:=ar hN;clear hJ hN bQ;go_in;go_wp2_with fail;clear hW hq bl;go_loopg [10,11] (e-a) (λgh Xt M8 G=>∃k:Nat,a<=k/\k+gh=e/\M8= .int .i64 (k:Int)/\Hid (G.ownsRow W.heap.size 3 1 Xt (fJ n.B a k).length (dK (fJ n.B a k))/\ay [] W G))
 case atStart=>exact⟨a,aH _,by omega,rfl,by rw[aU.out];exact⟨⟨rfl,.inl ⟨rfl,rfl⟩⟩,ay.refl _ _⟩⟩
 case round=>
  clear aU;obtain⟨k,bF,hk,rfl,V⟩:=hrel;cases gk with
  |zero=>
   obtain rfl:k=e:=by omega
   have kp:=V.out.2;obtain⟨g,af,hg⟩:=l9.of_row V.out.1;have EK:=af.reads;have ah:=vZ.out.keep (fI.out.trans' kp) (by simp) (by simp);have QK:=qd.out wr kp;have av:=M7.out k;have bt:=kp.size;have bq:=lU.out;have bJ:Hid (∀q∈fJ n.B a k,q<13):=λq hq=>by have :=zk.1 hq;omega
   generalize fJ n.B a k=z at *;obtain⟨ad,cap,rfl,bO,bW,U⟩:=EK;rw[fk] at bO U;rw[fk] at *;have ag:¬(k:Int)<(k:Int):=by omega
   by_cases pq:(aZ (az B ps)).length<z.length
   ·have JW:=ar (yg ah uV.out z.length pq)
    obtain⟨w2,q1,q2,q3⟩:=cu (n:=cg) (v:= .slice none 0 0) (EH.out.keep kp (by simp)) (by rw[<-Rw.out];rfl) rfl rfl;have HL:=ar (b9 q2 rfl);rw[Rw.out] at q1 HL;have HS:=ar q1;have HF:Hid (Pn w b gp B ps n v z (.returned (.tuple #[.agg R0,(7:Int)])) w2):= .inl ⟨pq,by rw[Rw.out],((fI.out.trans' kp).trans q3 (by intro x hx;rw[au] at hx;omega))⟩;clear q1 q2 q3 ah af U V kp;generalize z.length=q at *;go_wp2_with(first|(with_reducible refine gS 111 HS.out ?_)|(go_at_call 150;refine C' (Nl.out _) ?_)|(go_at_call 151;refine C' JW.out ?_));exact aI (eG results107 rfl HL.out rfl) rfl HF.out
   ·have aG:z.length<=(aZ (az B ps)).length:=by omega
    have aV:((aZ (az B ps)).take z.length).length=z.length:=by rw[aJ];omega
    have JW:=ar (CM ah uV.out (HT.out wr ((fI.out.trans' kp).mono (by simp))) (by have :=EX.out;omega) (by have :=zM.out;omega) z.length aG);have qT:Hid (∀G w2:World,∀gI:Nat,(gI=gp\/(wr.heap.size<=gI/\gI<G.heap.size))->eK G b gI B (ps++dh (az B ps) ((aZ (az B ps)).take z.length))->ay [b,gp] wr G->ay [w.heap.size+1,w.heap.size+1+1] G w2->Pn w b gp B ps n v z (.returned (.tuple #[.agg (aM { n with B:=jI n.B z ((aZ (az B ps)).take z.length) z.length } v),(0:Int)])) w2):=λG w2 gI h1 h2 h3 h4=>by
     have :=h3.size;have :=h4.size;have :=EX.out;refine .inr ⟨aG,rfl,gI,by omega,h2.keep h4 (by simp only[aL,aK,bC];omega) (by simp only[aL,aK,bC];omega),((((fI.out.trans' kp).mono (l':=[b,gp]) (by simp)).trans' h3).trans h4 λx hx=> ?_)⟩;simp only[aL,aK,bC] at hx;omega
    generalize (aZ (az B ps)).take z.length=l at *;clear ah af V pq aG;obtain⟨I3,bf,CE,UO,nL⟩:=hh5 U av aV hg kp;clear U av aV hg kp;generalize ak:z.length=q at *;go_wp2_with(first|(go_at_call 150;refine C' (Nl.out _) ?_));refine JW.out.mono ?_;rintro e w2 ⟨v2,g2,rfl,r1,r2,r3,lS,r4,r5,r6,r7⟩;obtain⟨bw,bS,rfl,aP,ck,R4⟩:=r1;rw[fk,CE.out] at aP R4;rw[fk,CE.out];have bn:=r7.size;have bc:Hid (bh w2 (w.heap.size+1) (aM { n with B:=jI n.B z l 0 } v) 111):=by
     have :=(bv.out.keep nL.out (by simp)).keep r7 (by simp only[aL,aK,bC];have :=EX.out;omega);rw[<-HN.out] at this;exact this
    have bM:Hid (bh w2 (w.heap.size+1+1) R0 111):=(EH.out.keep nL.out (by simp)).keep r7 (by simp only[aL,aK,bC];have :=EX.out;omega);have Zd:Hid (∀w4,ay [w.heap.size+1,w.heap.size+1+1] w2 w4->Pn w b gp B ps n v z (.returned (.tuple #[.agg (aM { n with B:=jI n.B z l q } v),(0:Int)])) w4):=λw4 bk=>by
     exact qT.out w2 w4 lS r4 r6 r7 bk
    have bK:w.heap.size+1<g:=by have :=UO.out;omega
    have bj:w.heap.size+1<g2:=by omega
    have aY:∀j,j<q->g<w2.heap.size/\∃off,ad=some ⟨g,off,none⟩/\∀G,ay [w.heap.size+1] w2 G->G.cell? ⟨g,off+j,none⟩=some (.int .i64 ((z.getD j 0:Nat):Int)):=λj hj=>by
     obtain⟨p1,off,p2,p3⟩:=I3.out (λe=>by have :=cN List.length e;rw[fk,cC,ak] at this;omega);have bo:ay [b,gp] wr w2:=r7;refine⟨by omega,off,p2,λG hk=> ?_⟩;rw[aO (w:=wr) (a:=⟨g,off+j,none⟩) ((hk.block g (by omega) (by rw[au];omega)).trans (bo.block g p1 (by simp only[aL,aK,bC];have :=EX.out;omega))),p3 j (by omega),nB (by omega)]
    have aN:∀j,j<q->∃off,bw=some ⟨g2,off,none⟩/\∀G,ay [w.heap.size+1] w2 G->G.cell? ⟨g2,off+j,none⟩=some (.int .i64 ((l.getD j 0:Nat):Int)):=λj hj=>by
     obtain⟨p1,off,p2,p3⟩:=R4 (λe=>by have :=cN List.length e;rw[fk,cC] at this;have :=CE.out;omega);refine⟨off,p2,λG hk=> ?_⟩;rw[aO (w:=w2) (a:=⟨g2,off+j,none⟩) (hk.block g2 (by omega) (by rw[au];omega)),p3 j hj,nB (by rw[CE.out];exact hj)]
    obtain⟨bz,bg⟩:=hh2 aY aN;have bP:Hid (∀j,j<q->z.getD j 0<13):=λj hj=>by
     rw[aj,aD (by omega)];exact bJ.out _ (bG _)
    have BH:=ar ak;have b8:q<=13:=by have :=bf.out;omega
    clear aY aN R4 ak r2 r3 r4 r5 r6 r7 qT QK JW bn I3 bt bq aP bK bj;go_wp2_with fail;go_loopg [14,15,47] q (λgh s14 s15 s47 G=>∃j:Nat,j+gh=q/\s47= .int .i64 (j:Int)/\Hid (bh G (w.heap.size+1) (aM { n with B:=jI n.B z l j } v) 111/\ay [w.heap.size+1] w2 G))
    case atStart=>exact⟨0,by omega,rfl,bc.out,ay.refl _ _⟩
    case round=>
     clear bc;obtain⟨j,hj,rfl,V⟩:=hrel;cases gk with
     |zero=>
      obtain rfl:j=q:=by omega
      have aS:=b9 V.out.1 (by show(jI n.B z l j).length=13;rw[oF];exact HB.out);obtain⟨w4,q1,q2,q3⟩:=cu (n:={ n with B:=jI n.B z l j }) (v:=v) (bM.out.keep V.out.2 (by simp)) (by rw[<-Rw.out];rfl) (by show(jI n.B z l j).length=13;rw[oF];exact HB.out) HV.out;obtain⟨HL,HS,rN,HF⟩:=hh4 aS q1 (b9 q2 (by show(jI n.B z l j).length=13;rw[oF];exact HB.out)) (Zd.out w4 ((V.out.2.mono (by simp)).trans q3 (by simp)));clear q1 q2 q3 aS Zd V;generalize aM { n with B:=jI n.B z l j } v=NN at *;go_wp2_with(with_reducible first|refine gS 111 HS.out ?_|refine gL 111 HL.out ?_);exact aI (eG results107 rfl rN.out rfl) rfl HF.out
     |succ gg=>
      have ax:j<q:=by omega
      have cf:(j:Int)<(q:Int):=by omega
      have Cf:(0:Int)<=(j:Int):=by omega
      obtain⟨-,off,rfl,bu⟩:=bz.out j ax;obtain⟨b7,rfl,bH⟩:=bg.out j ax;have cj:=bu _ V.out.2;have bY:=bH _ V.out.2;have aQ:=bP.out j ax;have bR:Hid (jI n.B z l (j+1)=(jI n.B z l j).set (z.getD j 0) ((l.getD j 0:Nat):Int)):=rfl;have ai:(jI n.B z l j).length=13:=by rw[oF];exact HB.out
      have bX:=Mb (n:={ n with B:=jI n.B z l j }) (v:=v) ai V.out.1 aQ;have cd:=V.out.1.frozen (4+z.getD j 0);have sw:=V.out.1.set (4+z.getD j 0) (.int .i64 ((l.getD j 0:Nat):Int));rw[Wz (n:={ n with B:=jI n.B z l j }) ai aQ] at sw;have mZ:Hid (bh (wr.setCell ⟨w.heap.size+1,4+z.getD j 0,none⟩ (.int .i64 ((l.getD j 0:Nat):Int))) (w.heap.size+1) (aM { n with B:=jI n.B z l (j+1) } v) 111/\ay [w.heap.size+1] w2 (wr.setCell ⟨w.heap.size+1,4+z.getD j 0,none⟩ (.int .i64 ((l.getD j 0:Nat):Int)))):=⟨sw,V.out.2.setCell (by simp) _⟩;have bU:(0:Int)<=((z.getD j 0:Nat):Int):=by omega
      have bZ:((z.getD j 0:Nat):Int)<13:=by omega
      clear sw ai V bR;generalize z.getD j 0=xx,((l.getD j 0:Nat):Int)=yy at *;go_wp2_with fail;go_roundg gg;case measure=>omega
      case rel=>exact⟨j+1,by omega,by go_num,mZ.out⟩
  |succ gg=>
   have mn:k<13:=by omega
   have ag:(k:Int)<(e:Int):=by omega
   have Qn:(k:Int)<13:=by omega
   have cJ:(0:Int)<=(k:Int):=by omega
   have uN:IntKind.i64.wrap ((k:Int)+1)=(k:Int)+1:=by rw[cz];omega
   have bI:=UW.out wr V.out.2 k mn;have Rs:=bA.out k;have av:=M7.out k;generalize n.B.getD k 0=x at *;by_cases hx:x=0
   ·have e0:(x==0)=true:=by rw[hx];rfl
    obtain⟨aa,jA⟩:=hh2 V.out.1 V.out.2;rw[aB ⟨bF,hx⟩] at Rs;have aT:=ar Rs;have b6:=V.out.2.size;clear V Rs hx;generalize bD:fJ n.B a k=L at *;generalize hq:L.length=q at *;have HQ:=ar hq;clear bD hq;go_wp2_with(first|(go_at_call 150;refine C' (Nl.out _) ?_)|(at_builtin;refine eU _ rfl _ _ 141 rfl W.heap.size 3 i0 (.int .i64 0) 1 8 underlying141 hi bE bN bB rfl (by decide) u10 q _ rfl (aa.out.alloc _) ⟨wr.heap.size,0,none⟩ 1 1 [.int .i64 (k:Int)] rfl rfl ?c1 ?c2 (by unfold maxLen;omega) (by omega) (by simp;omega) ?_));case c1=>exact lI _ [_] _ _ rfl
    case c2=>simp[Value.oneCell']
    intro v' w1 ac ae aR;have Qs:Hid (w1.ownsRow W.heap.size 3 1 v' (fJ n.B a (k+1)).length (dK (fJ n.B a (k+1)))/\ay [] W w1):=by
     show _/\_;rw[aT.out,aC,HQ.out,uk];exact⟨ac,(jA.out.alloc _).grown ae (dP aa.out)⟩
    clear ac ae aR aa jA aT HQ;go_wp2_with fail;go_roundg gg;case measure=>omega
    case rel=>exact⟨k+1,by omega,by omega,by go_num,Qs⟩
   ·have e0:(x==0)=false:=by simpa using hx
    have Qs:Hid (wr.ownsRow W.heap.size 3 1 u10 (fJ n.B a (k+1)).length (dK (fJ n.B a (k+1)))/\ay [] W wr):=by
     show _/\_;rw[Rs,aA (λh=>hx h.2),br];exact V.out
    clear V Rs hx;go_wp2_with(go_at_call 150;refine C' (Nl.out _) ?_);go_roundg gg;case measure=>omega
    case rel=>exact⟨k+1,by omega,by omega,by go_num,Qs⟩
theorem Jp (h:z.cells= #[z])(n:Nat):(Builtin.zeroCells z.cells n).toList=List.replicate n z:=by
 rw[h];apply cU
 ·simp[Builtin.zeroCells]
 ·intro j J G
  simp[Builtin.zeroCells,Nat.mod_one]
theorem KG{off n cap:Nat}{h:Array Value}(hu: prog.underlying t=some (.slice G))(hz:(zeroValue G).run prog w= .ok z w)(Yx:z.cells= #[z])(J:z.oneCell'=true)(U:bh w b h T)(W:off+n<=h.size):
  ∃w',(∀ty,(Builtin.clear_ #[t] ty #[.slice (some ⟨b,off,none⟩) n cap]).run prog w= .ok (.tuple #[]) w')/\bh w' b (h.toList.take off++List.replicate n z++h.toList.drop (off+n)).toArray T/\ay [b] w w':=by
 cases n with
 |zero=>
  refine⟨w,λty=> ?_,?_,ay.refl _ _⟩
  ·unfold Builtin.clear_
   simp[dA hu]
  ·rw[List.replicate_zero,br,dB,dn]
   exact U
 |succ m=>
  have V:=run_storeCells_at prog b off T (List.replicate (m+1) z) 0 h w U (by rw[bE];omega) (λv hv=>by rw[il hv];exact J);refine⟨_,λty=> ?_,?_,(ay.refl _ _).setRow (g:=b) (by simp) (h.toList.take off++List.replicate (m+1) z++h.toList.drop (off+(List.replicate (m+1) z).length)).toArray⟩
  ·unfold Builtin.clear_
   simp only[ck,dA hu,cL,aF,fU,hz,Jp Yx];simp only[dB] at V;rw[V];simp
  ·rw[bE]
   exact kv U
theorem Po (b c:Nat)(V:c<=13)(w:World):∃off,(Instr.sliceAt 109 (.pointer (some ⟨b,4,none⟩)) (some (.int .i64 (c:Int))) none none).run prog w= .ok (.slice (some ⟨b,off,none⟩) (13-c) (13-c)) w/\(c<13->off=4+c)/\off<=17:=by
 have J:∀w,(sizeOf (prog.elem 109)).run prog w= .ok 1 w:=λw=>by show Sem.run _ _ _=_;kernel_rfl
 have z: prog.arrayLen 109 =13:=by kernel_rfl
 have G:=run_sliceAt_array_l (P:= prog) w 109 ⟨b,4,none⟩ (by kernel_rfl) .i64 (c:Int) (by omega) (by rw[z];omega);rw[J,z,aG] at G;rw[G];by_cases U:c<13
 ·refine⟨4+c,?_,λ_=>rfl,by omega⟩
  simp only[Result.andThen,slicedAt,aA (show ¬13=c by omega),iK,add_plain]
 ·obtain rfl:c=13:=by omega
  exact⟨4,rfl,λh=>absurd h U,by omega⟩
theorem aav (U:n.B.length=13){c off:Nat}(hc:c<=13)(ho:c<13->off=4+c):((aM n v).toList.take off++List.replicate (13-c) (Value.int .i64 0)++(aM n v).toList.drop (off+(13-c))).toArray=aM (qF n c) v:=by
 by_cases h:c<13
 ·obtain rfl:=ho h
  have V:(aM n v).toList=([.int .i64 n.F,.int .i64 n.K,.int .i64 n.L,.int .i64 n.S]:List Value)++(zs n.B++[v]):=rfl;have z:aM (qF n c) v=(([.int .i64 n.F,.int .i64 n.K,.int .i64 n.L,.int .i64 n.S]:List Value)++(zs (jm n.B c)++[v])).toArray:=rfl;rw[V,z]
  congr 1
  have J:∀(a:List Value) (r:List Value) (j:Nat),a.length=4->(a++r).take (4+j)=a++r.take j:=λa r j G=>by rw[<-G,List.take_length_add_append]
  have W:∀(a:List Value) (r:List Value) (j:Nat),a.length=4->(a++r).drop (4+j)=r.drop j:=λa r j G=>by rw[<-G,List.drop_length_add_append]
  rw[J _ _ _ rfl,show 4+c+(13-c)=4+13 by omega,W _ _ _ rfl,fH (by rw[eO];omega),List.drop_left' (by rw[eO,U]),aV,aV]
  congr 1
  unfold jm;rw[yQ,aV];simp[zs]
 ·obtain rfl:c=13:=by omega
  have hu:jm n.B 13=n.B:=by unfold jm;rw[aW (by omega)];simp
  have z:aM (qF n 13) v=aM n v:=by unfold qF;rw[hu]
  rw[z,jg,List.replicate_zero,br,dB,dn]
theorem aaw (U:c.length=832){s off:Nat}(J:s<=832)(z:s<832->off=s):((kT c).toArray.toList.take off++List.replicate (832-s) (Value.int .u8 0)++(kT c).toArray.toList.drop (off+(832-s))).toArray=(kT (OY c s)).toArray:=by
 by_cases h:s<832
 ·obtain rfl:=z h
  congr 1
  rw[dx (by show(kT c).length<=_;rw[fG];omega),br];unfold OY kT;rw[eu,jY,jv]
 ·obtain rfl:s=832:=by omega
  have G:OY c 832=c:=by unfold OY;rw[aW (by omega)];simp
  rw[G,jg,List.replicate_zero,br,dB,dn]
theorem Pp (b m:Nat)(h:m<=832)(w:World):∃off cap,(Instr.sliceAt 157 (.pointer (some ⟨b,0,none⟩)) (some (.int .i64 (m:Int))) none none).run prog w= .ok (.slice (some ⟨b,off,none⟩) (832-m) cap) w/\(m<832->off=m)/\off+(832-m)<=832:=by
 by_cases J:m<832
 ·exact⟨m,832-m,uM b m J w,λ_=>rfl,by omega⟩
 ·obtain rfl:m=832:=by omega
  have U:∀w,(sizeOf (prog.elem 157)).run prog w= .ok 1 w:=λw=>by show Sem.run _ _ _=_;kernel_rfl
  have z: prog.arrayLen 157 =832:=by kernel_rfl
  have G:=run_sliceAt_array_l (P:= prog) w 157 ⟨b,0,none⟩ (by kernel_rfl) .i64 (832:Nat) (by omega) (by rw[z];omega);rw[U,z,aG] at G;refine⟨0,0,?_,λh=>absurd h J,by omega⟩;rw[G];rfl
def rp (n:bT) (c:Nat):List Nat:=(n.B.drop c).map Int.toNat
theorem Pq (G:n.B.length=13)(V:∀k,0<=n.B.getD k 0)(J:bh w g (aM n v) T){c off:Nat}(hc:c<=13)(W:c<13->off=4+c):Reads w (.slice (some ⟨g,off,none⟩) (13-c) (13-c)) g (dK (rp n c)):=by
 have h:(dK (rp n c)).length=13-c:=by rw[fk];unfold rp;simp[G]
 refine⟨_,13-c,by rw[h],by omega,by unfold maxLen;omega,λaa=>⟨J.lt,off,rfl,λj U=> ?_⟩⟩;rw[h] at U;obtain rfl:=W (by omega);rw[show 4+c+j=4+(c+j) by omega,Mb G J (by omega),nB (by rw[<-fk,h];exact U)]
 congr 2
 have z:=V (c+j);unfold rp;simp only[aj,bJ,b8] at z ⊢;have WO:c+j<n.B.length:=by omega
 rw[aD WO] at z ⊢;simp only[eZ,fT] at z ⊢;omega
theorem aeY (h:eK w b gp B ps)(aO:In64 (az B ps))(aU:b<w.heap.size/\gp<w.heap.size)(b7:ps.length<=600000){n:bT}(hB:n.B.length=13)(hN:lF n.B)(o:jB)(vp vq vd:Value){v:Value}(hv:v.oneCell'=true)(s:Nat)(hs:s<=832):
  Calls prog 110 #[cA b o vp vq vd,aM n v,(s:Int)] w λe w'=>e=aM (qF n (bL s)) v/\
   vY w w' b gp B (ps++(cj (az B ps) (rp n (bL s))++ft (qF n (bL s)).B (OY (iT (az (az B ps) (cj (az B ps) (rp n (bL s)))) (qF n (bL s))) s) 13)):=by
 obtain⟨R0,aG⟩:∃R0,aM cg (.slice none 0 0)=R0:=⟨_,rfl⟩;obtain⟨W,hW⟩:∃W,((w.alloc (.cells (cA b o vp vq vd) 79)).alloc (.cells (aM n v) 111)).alloc (.cells R0 111)=W:=⟨_,rfl⟩;have cJ:ay [] w W:=by rw[<-hW];exact(((ay.refl [] w).alloc _).alloc _).alloc _
 have jR:bh W w.heap.size (cA b o vp vq vd) 79 :=by rw[<-hW];exact((bh.new w _ _).alloc _).alloc _
 have IC:bh W (w.heap.size+1) (aM n v) 111 :=by rw[<-hW];exact(bh.new2 w _ _ _ _).alloc _
 have jP:bh W (w.heap.size+1+1) R0 111 :=by
  have :=bh.new2 (w.alloc (.cells (cA b o vp vq vd) 79)) (aM n v) 111 R0 111;rw[aX,hW] at this;exact this
 have bp:W.heap.size=w.heap.size+1+1+1:=by rw[<-hW];simp only[aX]
 have rG:=dz;rw[aG] at rG;have hX:(az B ps).length=3128:=h.raw.lx;obtain⟨c,hc⟩:∃c,bL s=c:=⟨_,rfl⟩;have GC:c<=13:=by rw[<-hc];unfold bL;omega
 rw[hc];have Nl:Hid (∀wx,Calls prog 150 #[(s:Int)] wx λx w'=>x=(c:Int)/\wx=w'):=λwx=>by
  have :=Es s (by omega) wx;rwa[hc] at this
 obtain⟨off,bM,aa,aZ⟩:=Po (w.heap.size+1) c GC W;have QK:W.cell? w.heap.size=some (.pointer (some ⟨b,0,none⟩)):=by rw[jR.cell];rfl
 have bc:∀k,0<=n.B.getD k 0:=λk=>by
  by_cases mn:k<13
  ·exact(mQ hN mn).1
  ·rw[aj,aP (by omega)];decide
 have aN:=ar (Lz (h.keep cJ (by simp) (by simp)) aO (by omega) (by omega) (Pq hB bc IC GC aa) (by unfold rp;simp;omega) (λ_=>⟨by omega,by omega⟩));have LD:=(iD (rp n c) (az B ps) aO hX).1;have br:(cj (az B ps) (rp n c)).length<=13:=by
  refine cE (qA _ _) ?_;unfold rp;simp;omega
 obtain⟨G,bw⟩:∃G,cj (az B ps) (rp n c)=G:=⟨_,rfl⟩;rw[bw] at aN LD br ⊢;rw[<-bz] at LD ⊢;have ax:lF (jm n.B c):=λk mn=>by
  have Cb:=qo hB GC;rw[Cb];split
  ·next hkc=>
   refine⟨mQ hN mn,λbS j hj=> ?_⟩;rw[Cb,aB];exact(hN k mn).2 bS j hj
  ·exact⟨by omega,λh=>absurd rfl h⟩
 have af:(qF n c).B.length=13:=nR hB GC;have bb:=zu (kP (az B (ps++G)) (qF n c)) hs;have bj:=(kP (az B (ps++G)) (qF n c)).1;have ba:=(kP (az B (ps++G)) (qF n c)).2;have bO:Hid (∀z U,eK U b z B (ps++G)->b<U.heap.size/\z<U.heap.size->∀vv,Calls prog 106 #[cA b o vp vq vd,aM (qF n c) vv] U λe w'=>e=(kT (iT (az B (ps++G)) (qF n c))).toArray/\ay [] U w'):=λz U h1 h2 vv=>xg h1 h2 LD af ax o vp vq vd vv
 have bV:Hid (∀z U,eK U b z B (ps++G)->b<U.heap.size/\z<U.heap.size->∀vv,Calls prog 108 #[cA b o vp vq vd,aM (qF n c) vv,(kT (OY (iT (az B (ps++G)) (qF n c)) s)).toArray] U λe w'=>e= .returned (.tuple #[])/\vY U w' b z B ((ps++G)++ft (qF n c).B (OY (iT (az B (ps++G)) (qF n c)) s) 13)):=λz U h1 h2 vv=>Aa h1 h2 (by rw[aC];omega) af ax bb o vp vq vd vv
 have bW:=ar (λvv=>aav (n:=n) (v:=vv) hB GC aa);rw[<-aV];generalize ft (qF n c).B (OY (iT (az B (ps++G)) (qF n c)) s) 13=aR at *;generalize iT (az B (ps++G)) (qF n c)=CL at *;obtain⟨bX,bG,EH,lU,fI,Rw,HV⟩:=hh7 IC jR jP bp cJ aG hv;obtain⟨EX,HB,ae,Im,b6,bI,bQ⟩:=hh7 aU hB af bj ba aa aZ;have bq:Hid (∀wx,bh wx w.heap.size (cA b o vp vq vd) 79->(loadVar 79 w.heap.size).run prog wx= .ok (.agg (cA b o vp vq vd)) wx):=λwx hb=>jJ hb
 obtain⟨Z8,aJ⟩:∃Z8,(kT (List.replicate 832 0)).toArray=Z8:=⟨_,rfl⟩;have bR:=zw;rw[aJ] at bR;have xJ:Hid (Z8.size=832):=by rw[<-aJ];unfold Hid;rw[bN,fG,bE]
 clear aJ;have aD:=ar hs;clear h aO aU b7 hB hN jR IC jP bp cJ aG hv hX hc br LD ax bb bw bc af bj ba aa aZ hs;generalize hJ:cA b o vp vq vd=J,bl:aM n v=N at *;have NW:=ar bl;clear hJ bl;go_in;go_wp2_with(first|(go_at_call 150;refine C' (Nl.out _) ?_));refine Rr aN.out ?_;rintro U ⟨z,r1,r2,r3⟩;have av:=EX.out;have aY:=lU.out;have bU:=r3.size;have ai:∀x,w.heap.size<=x->x∉[b,gp]:=λx hx=>by simp only[aL,aK,bC];omega
 have aW:(zeroValue 3).run prog U= .ok (.int .i64 0) U:=by kernel_rfl
 obtain⟨w3,aT,ah,ac⟩:=KG (off:=off) (n:=13-c) (cap:=13-c) underlying141 aW rfl rfl (bX.out.keep r3 (ai _ (by omega))) (by rw[<-NW.out];show off+(13-c)<=(na n v).length;rw[gM,HB.out];have :=bI.out;have :=bQ.out;omega);rw[<-NW.out,bW.out] at ah;have cn:=aT 0;have aA:=r2.keep ac (by simp;omega) (by simp;omega);have bF:=ac.size;have aF:=(bG.out.keep r3 (ai _ (by omega))).keep ac (by simp);have aQ:=(EH.out.keep r3 (ai _ (by omega))).keep ac (by simp);obtain⟨lY,uY,Lg⟩:=hh3 (bq.out _ aF) (b9 ah ae.out) (bO.out z w3 aA (by omega) v);have bg:Hid (eK w3 b z B (ps++G)/\bh w3 w.heap.size J 79/\bh w3 (w.heap.size+1) (aM (qF n c) v) 111/\bh w3 (w.heap.size+1+1) R0 111/\(b<w3.heap.size/\z<w3.heap.size)/\(z=gp\/(W.heap.size<=z/\z<w3.heap.size))/\ay [b,gp] w w3/\w.heap.size+1+1<w3.heap.size):=⟨aA,aF,ah,aQ,by omega,by omega,((fI.out.mono (l':=[b,gp]) (by simp)).trans' r3).trans ac (by intro x hx;rw[au] at hx;omega),by omega⟩;clear aT r1 r2 r3 ac ah aF aQ aA bF bU aY aW av ai aN bM QK;go_wp2_with(with_reducible first|refine gL 79 lY.out ?_|refine gL 111 uY.out ?_);refine Rr Lg.out λw4 ag=> ?_;obtain⟨w5,q1,q2,q3⟩:=bH (P:= prog) (ty:= 157) (cs:=kT CL) (by rw[fG,Im.out];exact vW) (bh.new w4 Z8 157) (by rw[fG,Im.out,xJ.out]) (xe _);obtain⟨bK,cf,cp,bn,bu⟩:=Pp w4.heap.size s aD.out w5;have wC:(zeroValue 5).run prog w5= .ok (.int .u8 0) w5:=by kernel_rfl
 obtain⟨w6,bo,tY,jW⟩:=KG (off:=bK) (n:=832-s) (cap:=cf) underlying31 wC rfl rfl q2 (by rw[bN,fG,Im.out];exact bu);rw[aaw Im.out aD.out bn] at tY;obtain⟨p1,p2,p3,p4,p5,p6,p7,p8⟩:=bg.out;have bY:=ag.size;have V:∀x,x<w3.heap.size->x∉[w4.heap.size]:=λx hx=>by rw[au];omega
 have bP:w4.heap.size+1<=w5.heap.size:=by have :=q3.size;rwa[aX] at this
 have bJ:=jW.size;have ak:∀{g T:Nat} {C:Array Value},bh w3 g C T->bh w6 g C T:=λ{g T C} hb=>(((hb.keep ag (by simp)).alloc _).keep q3 (V _ hb.lt)).keep jW (V _ hb.lt)
 have bD:=ak p2;have aH:=ak p3;have aS:=ak p4;have Dw:ay [b,gp] w w6:=(((p7.trans ag (by simp)).alloc (.cells Z8 157)).trans q3 (by intro x hx;rw[au] at hx;omega)).trans jW (by intro x hx;rw[au] at hx;omega);have bf:eK w6 b z B (ps++G):=by
  have :=((p1.keep ag (by simp) (by simp)).keep ((ay.refl [] _).alloc (.cells Z8 157)) (by simp) (by simp)).keep q3 (V _ p5.1) (V _ p5.2);exact this.keep jW (V _ p5.1) (V _ p5.2)
 have rz:=ar q1;have cr:=bo 0;obtain⟨Dv,WB,bk,bv⟩:=hh4 (bq.out _ bD) (b9 aH ae.out) (zx tY (zu ⟨Im.out,λx hx=>b6.out x hx⟩ aD.out).1) (bV.out z w6 bf (by omega) v);have ml:Hid (∀w7,vY w6 w7 b z B (ps++G++aR)->bh w7 (w.heap.size+1) (aM (qF n c) v) 111/\bh w7 (w.heap.size+1+1) R0 111/\∀w8,ay [w.heap.size+1+1] w7 w8->vY w w8 b gp B (ps++G++aR)):=λw7 hp=>by
  obtain⟨g3,e1,e2,e3⟩:=hp;have ck:=e3.size;have av:=EX.out;have aY:=lU.out;have bB:∀x,w.heap.size<=x->x<W.heap.size->x∉[b,z]:=λx hx cm=>by simp only[aL,aK,bC];omega
  refine⟨aH.keep e3 (bB _ (by omega) (by omega)),aS.keep e3 (bB _ (by omega) (by omega)),λw8 uR=> ?_⟩;have Mj:=uR.size;refine⟨g3,by omega,e2.keep uR (by rw[au];omega) (by rw[au];omega),(Dw.trans e3 λx hx=> ?_).trans uR λx hx=> ?_⟩
  ·simp only[aL,aK,bC] at hx ⊢
   omega
  ·rw[au] at hx
   omega
 clear p1 p2 p3 p4 p5 p6 p7 p8 q1 q2 q3 bo tY jW Dw bf bD aH aS ak V bY bP bJ bn bu wC bg lY uY Lg;go_wp2_with(with_reducible first|refine gL 79 Dv.out ?_|refine gL 111 WB.out ?_|refine gL 157 bk.out ?_|refine gS 157 rz.out ?_);refine Rr bv.out λw7 bt=> ?_;obtain⟨g1,g2,g3⟩:=ml.out w7 bt;obtain⟨w8,q1,q2,q3⟩:=cu (n:=qF n c) (v:=v) g2 (by rw[<-Rw.out];rfl) ae.out HV.out;obtain⟨cd,b8,I0,bZ⟩:=hh4 (b9 g1 ae.out) q1 (b9 q2 ae.out) (g3 w8 q3);clear g1 g2 g3 q1 q2 q3 bt ml bv Dv WB bk rz;go_wp2_with(with_reducible first|refine gL 111 cd.out ?_|refine gS 111 b8.out ?_);exact aI (bA results110 rfl I0.out) rfl ⟨rfl,bZ.out⟩
theorem Io (h:bh w g (aM n v) T)(x:Int):bh (w.setCell ⟨g,3,none⟩ (.int .i64 x)) g (aM { n with S:=x } v) T:=h.set 3 (.int .i64 x)
theorem Ip{w':World}{z:Nat}(V:∀h,ay [b,G] w h->lD h)(J:ay [b,G] w w')(hg:z=G\/w.heap.size<=z):∀h,ay [b,z] w' h->lD h:=λh W=>V h (J.trans W λy U=>by
 simp only[aL,aK,bC] at U ⊢;omega)
section
variable {w W:World} {b gp:Nat} {B:List Int} {T:List (bT×Value)} {own:Nat->List Nat} {M:Nat->Nd} {o:jB} {cur:Array Value}
theorem Pr (h:rB w b gp B [] T own [] M)(cJ:ay [] w W)(jP:bh W (w.heap.size+1) cur 34)(hc:cur.size=7)(ai:W.heap.size=w.heap.size+2){w2 w4:World}{ps:List (Int×Int)}(J:ay [b,gp] W w2){G:Nat}(ar:G=gp\/(W.heap.size<=G/\G<w2.heap.size))(ac:eK w2 b G B ps)(ah:ps.length<=2000)(aa:In64 (az B ps)){y:Nat}(hy:W.heap.size<=y)(ag:y≠G)(z:ay [y] w2 w4){i:Nat}{n:bT}{v:Value}(hB:n.B.length=13)(hE:n.E=[])(hr:bD w4 v 0 n.E)
  (hR:∀r qs,nV (az B ps) (i:Int) n r qs->lu B M o { fy with E:=r } (ps++qs)):
  Calls prog 49 #[b,(i:Int),aM n v] w4 (yM w b gp B (lu B M o)):=by
 have V:=h.lt;have aj:=z.size;have ak:=J.size;have U:ay [b,gp] W w4:=J.trans z λx hx=>by rw[au] at hx;omega
 have ae:=ac.keep z (by rw[au];omega) (by rw[au];omega);have hT:∀wx,ay [b,G] w4 wx->lD wx:=Ip h.tab ((cJ.mono (by simp)).trans' U) (by omega);refine(sG ae aa hT (by omega) (by omega) (i:Int) n v 0 hB hr (λk hk=>by rw[hE] at hk;simp at hk) (λh0=>by rw[hE] at h0;simp at h0)).mono ?_;rintro e w5 ⟨r,qs,af,rfl,e1,e2,e3,e4,e5⟩;have av:=e3.size;have kR:ay [b,gp] W w5:=U.trans e3 λx hx=>by
  simp only[aL,aK,bC] at hx ⊢;omega
 obtain⟨wy,s1,s2,s3,s4⟩:=lO jP hc kR (eD V (by omega)) r;refine⟨r,wy,rfl,s1,s2,fE.some V cJ (by omega) (Rq:=λ_ q=>lu B M o { fy with E:=r } q) (m:=2700) ⟨r,ps++qs,af,rfl,by omega,by rw[bQ];exact e2,kR,by rw[aC];omega,hR r qs e5⟩ (by omega) s4 s3 λ_ hq=>hq⟩
theorem mX (h:rB w b gp B [] T own [] M)(U:dw M)(V:(cZ M o.P).2=0):(M (cZ M o.P).1).K=1/\(nT T (cZ M o.P).1).B.length=13/\lF (nT T (cZ M o.P).1).B/\(nT T (cZ M o.P).1).E=[]/\(cZ M o.P).1=(cM M o.P).1/\0<=(nT T (cZ M o.P).1).S/\(nT T (cZ M o.P).1).S<=832:=by
 obtain⟨h1,h2,h3⟩:=pY V;rw[h3];have J:=(nW U h1).1;have G:(M (cM M o.P).1).K=1:=by
  rcases U.kind (cM M o.P).1 with z|z|z
  ·rw[z] at J;exact absurd rfl J
  ·exact z.1
  ·exact absurd z.1 h2
 obtain⟨f1,f2,f3,-,-,-,f7⟩:=h.nd.fileAt G;exact⟨G,f7,f3.2.2.2,bo f3.2.1,rfl,f3.1.1,f3.1.2⟩
theorem KH (J:o.K=4)(z:(cZ M o.P).2=0){s:Nat}(U:o.N=(s:Int))(hs:s<=832){qs:List (Int×Int)}{m:Nat}(V:m<=400)(G:Goes B qs [] (nv M (cZ M o.P).1 { M (cZ M o.P).1 with D:=yC (M (cZ M o.P).1).D s }) m):lu B M o { fy with E:=0 } qs:=by
 have h:=Dp J z;rw[aA,aA,U,aG] at h;rw[(pY z).2.2] at G;exact .inr (.inr ⟨rfl,by rw[h];rfl,.inl (by rw[h];rfl),by rw[h];exact G.lands V⟩)
theorem size_grow(h:rB w b gp B [] T own [] M)(hT:dw M)(hK:o.K=4)(U:ay [] w W)(jP:bh W (w.heap.size+1) cur 34)(hc:cur.size=7)(G:W.heap.size=w.heap.size+2)(J:(cZ M o.P).2=0){s:Nat}(hN:o.N=(s:Int))(V:s<=832)(z:(nT T (cZ M o.P).1).S<=(s:Int)){w4:World}(hk:ay [] W w4){v:Value}{g:Nat}(hr:bD w4 v g (nT T (cZ M o.P).1).E):
  Calls prog 49 #[b,((cZ M o.P).1:Int),.agg (aM { nT T (cZ M o.P).1 with S:=(s:Int) } v)] w4 (yM w b gp B (lu B M o)):=by
 obtain⟨f1,f2,f3,f4,f5,-⟩:=mX h hT J;have aa:=h.lt;refine Pr h U jP hc G (ay.refl _ W) (.inl rfl) (h.sh.keep U (by simp) (by simp)) (by simp) h.nd.st.w64 (y:=W.heap.size) (aH _) (by omega) (hk.mono (by simp)) (n:={ nT T (cZ M o.P).1 with S:=(s:Int) }) f2 f4 (hr.anyG (by rw[f4];rfl) 0) λr qs hp=> ?_
 obtain⟨rfl,hg⟩:=h.nd.grow f1 V z hp;exact KH hK J hN V (by omega) hg
theorem aaz (h:rB w b gp B [] T own [] M)(hT:dw M)(hK:o.K=4)(vp vq vd:Value)(cJ:ay [] w W)(jP:bh W (w.heap.size+1) cur 34)(hc:cur.size=7)(aa:W.heap.size=w.heap.size+2)(he:(cZ M o.P).2=0){s:Nat}(hN:o.N=(s:Int))(hs:s<=832)(ac:(s:Int)<(nT T (cZ M o.P).1).S){G:World}(hk:ay [] W G){v:Value}(hv:v.oneCell'=true):
  Calls prog 110 #[cA b o vp vq vd,aM (nT T (cZ M o.P).1) v,(s:Int)] G λe J=>∃m:bT,e=aM m v/\m.B.length=13/\ay [b,gp] G J/\∀y w4,W.heap.size<=y->y<G.heap.size->ay [y] J w4->bD w4 v 0 []->
   Calls prog 49 #[b,((cZ M o.P).1:Int),.agg (aM { m with S:=(s:Int) } v)] w4 (yM w b gp B (lu B M o)):=by
 obtain⟨f1,f2,f3,f4,f5,f6,f7⟩:=mX h hT he;have ag:=h.lt;have Um:=hk.size;refine(aeY (h.sh.keep (cJ.trans' hk) (by simp) (by simp)) h.nd.st.w64 (by omega) (by simp) f2 f3 o vp vq vd hv s hs).mono ?_;rintro e J ⟨rfl,Rm,p1,p2,p3⟩;have z:(qF (nT T (cZ M o.P).1) (bL s)).B.length=13:=nR f2 (by unfold bL;omega);have kp:ay [b,gp] W J:=(hk.mono (by simp)).trans' p3;refine⟨_,rfl,z,p3,λy w4 V af ae hr=> ?_⟩;rw[bQ] at p2;have LD:=(iD (rp (nT T (cZ M o.P).1) (bL s)) (az B []) h.nd.st.w64 h.nd.st.len).1;have U:=kP (az (az B []) (cj (az B []) (rp (nT T (cZ M o.P).1) (bL s)))) (qF (nT T (cZ M o.P).1) (bL s));refine Pr h cJ jP hc aa kp (by omega) p2 ?_ ?_ (y:=y) V (by omega) ae (n:={ qF (nT T (cZ M o.P).1) (bL s) with S:=(s:Int) }) z f4 (by show bD w4 v 0 (nT T (cZ M o.P).1).E;rw[f4];exact hr) λr qs hp=> ?_
 ·rw[aC]
  have h1:=qA (rp (nT T (cZ M o.P).1) (bL s)) (az B []);have h2:=tP (qF (nT T (cZ M o.P).1) (bL s)).B (OY (iT (az (az B []) (cj (az B []) (rp (nT T (cZ M o.P).1) (bL s)))) (qF (nT T (cZ M o.P).1) (bL s))) s) 13;have h3:(rp (nT T (cZ M o.P).1) (bL s)).length<=13:=by unfold rp;simp;omega
  omega
 ·rw[bz]
  exact zi (n:=qF (nT T (cZ M o.P).1) (bL s)) LD (zu U hs)
 ·rw[bz] at hp
  obtain⟨rfl,hg⟩:=h.nd.cut f1 ac hp;rw[aV];exact KH hK he hN hs (by omega) hg
end
theorem Ps{T:List (bT×Value)}{own:Nat->List Nat}{M:Nat->Nd}(h:rB w b gp B [] T own [] M)(hT:dw M){o:jB}{vp vq vd:Value}{g:Nat}(hP:gN w vp g o.P)(hs:∀s∈o.P,s.size<=9223372036854775807)(hK:o.K=4):
  Calls prog 57 #[cA b o vp vq vd] w (fE w b gp B (lu B M o)):=by
 obtain⟨W,hW,cJ,jR,jP,ah⟩:=mH w (cA b o vp vq vd) (zI fy (.slice none 0 0) (.slice none 0 0));obtain⟨qT,oh⟩:=hh2 (zt (vq:=vq) (vd:=vd) (h.keep0 cJ) hT (hP.keep cJ (by simp)) hs) (xd h hT cJ jR jP rfl ah);have ai:=h.lt;obtain⟨lU,AV⟩:=hh2 ah ai;have qd:Hid (∀wx,ay [b,gp] W wx->wx.cell? w.heap.size=some (.pointer (some ⟨b,0,none⟩))/\wx.cell? ⟨w.heap.size,5,none⟩=some (.int .i64 o.N)):=λwx hk=>by
  have h1:=jR.keep hk (eD ai (by omega));exact⟨by rw[h1.cell];rfl,by rw[h1.cell];rfl⟩
 have lY:Hid (∀wx,ay [b,gp] W wx->(loadVar 79 w.heap.size).run prog wx= .ok (.agg (cA b o vp vq vd)) wx):=λwx hk=>jJ (jR.keep hk (eD ai (by omega)))
 have ub:Hid ((cZ M o.P).2≠0->(kF M o).2=cV (cZ M o.P).2):=Ic (.inr (.inr hK));have rO:Hid ((cZ M o.P).2=0->o.N<0->(kF M o).2=cV 1):=λhe hn=>by rw[Dp hK he,aB hn]
 have xq:Hid ((cZ M o.P).2=0->¬o.N<0->832<o.N->(kF M o).2=cV 8):=λhe hn aN=>by rw[Dp hK he,aA hn,aB aN]
 have ou:Hid ((cZ M o.P).2=0->(nT T (cZ M o.P).1).B.length=13/\(nT T (cZ M o.P).1).E=[]):=λhe=>by
  obtain⟨f1,f2,f3,f4,-⟩:=mX h hT he;exact⟨f2,f4⟩
 have aj:Hid ((cZ M o.P).2=0->∀s:Nat,o.N=(s:Int)->s<=832->(nT T (cZ M o.P).1).S<=(s:Int)->∀w4,ay [] W w4->∀v g,bD w4 v g (nT T (cZ M o.P).1).E->
   Calls prog 49 #[b,((cZ M o.P).1:Int),.agg (aM { nT T (cZ M o.P).1 with S:=(s:Int) } v)] w4 (yM w b gp B (lu B M o))):=λhe s hN Mj aC w4 hk v g hr=>size_grow h hT hK cJ jP rfl ah he hN Mj aC hk hr
 have ak:Hid ((cZ M o.P).2=0->∀s:Nat,o.N=(s:Int)->s<=832->(s:Int)<(nT T (cZ M o.P).1).S->∀z,ay [] W z->∀v:Value,v.oneCell'=true->
   Calls prog 110 #[cA b o vp vq vd,aM (nT T (cZ M o.P).1) v,(s:Int)] z λe w3=>∃m:bT,e=aM m v/\m.B.length=13/\ay [b,gp] z w3/\∀y w4,W.heap.size<=y->y<z.heap.size->ay [y] w3 w4->bD w4 v 0 []->
   Calls prog 49 #[b,((cZ M o.P).1:Int),.agg (aM { m with S:=(s:Int) } v)] w4 (yM w b gp B (lu B M o))):=λhe s hN Mj aC z hk v hv=>aaz h hT hK vp vq vd cJ jP rfl ah he hN Mj aC hk hv
 have Gj:=l6;have rG:=dz;have jV:=ar oh.out.err;clear h hT hP hs cJ jR jP ah hK ai oh;unfold AR at qT;unfold yM at aj ak;rw[lN] at *;generalize fE w b gp B (lu B M o)=Q,cA b o vp vq vd=J,kF M o=DM,o.N=N,aH:aM cg (.slice none 0 0)=Z0 at *;have jt:=ar aH;clear aH;generalize cZ M o.P=F at *;obtain⟨x,ee⟩:=F
 dsimp only at *
 have ju:=ar (lY.out W (ay.refl _ _));go_in;go_wp2_with(with_reducible refine gL 79 ju.out ?_);refine qT.out.mono ?_;rintro e U ⟨G,⟨he,rfl⟩|⟨rfl,v,g,rfl,hE,hg⟩⟩
 ·obtain⟨z,q1,q2,q3⟩:=cu (n:=cg) (v:= .slice none 0 0) (bh.new U Z0 111) (by rw[<-jt.out];rfl) rfl rfl
  have eV:ay [] U z:=((ay.refl _ _).alloc _).trans q3 (by intro x hx;rw[au] at hx;omega);obtain⟨wy,s1,s2,s3⟩:=jV.out ee he (ub.out he) z (G.trans' eV);obtain⟨-,c2⟩:=qd.out z ((G.trans' eV).mono (by simp));rw[jt.out] at q1;obtain⟨jz,HS,HL,HF⟩:=hh4 q1 s1 s2 s3;have b1:(ee != 0)=true:=by simpa using he
  clear hW q1 q2 q3 G eV s1 s2 s3 he jV ub rO xq ou aj ak qT qd lY ju lU AV jt;go_wp2_with(with_reducible first|refine gS 111 jz.out ?_|refine gS 34 HS.out ?_);exact aI (bA results57 rfl HL.out) rfl HF.out
 ·obtain⟨V,aa⟩:=ou.out rfl
  obtain⟨Ep,PK,af,ag⟩:=hh4 (rO.out rfl) (xq.out rfl) (aj.out rfl) (ak.out rfl);clear ub rO xq aj ak ou;generalize nT T x=n,(x:Int)=xi at *;obtain⟨z,q1,q2,q3⟩:=cu (n:=n) (v:=v) (bh.new U Z0 111) (by rw[<-jt.out];rfl) V hE.one;have eV:ay [] U z:=((ay.refl _ _).alloc _).trans q3 (by intro x hx;rw[au] at hx;omega);have kp:=G.trans' eV;have aJ:w.heap.size+2<=U.heap.size:=by have :=G.size;have :=lU.out;omega
  have az:U.heap.size<z.heap.size:=by have :=q3.size;rw[aX] at this;omega
  obtain⟨jz,vV⟩:=hh2 q1 (lY.out z (kp.mono (by simp)));obtain⟨c1,c2⟩:=qd.out z (kp.mono (by simp));by_cases aL:N<0
  ·obtain⟨wy,s1,s2,s3⟩:=jV.out 1 (by omega) (Ep.out aL) z kp
   obtain⟨HS,HL,HF⟩:=hh3 s1 s2 s3;clear hW q1 q2 q3 G eV kp s1 s2 s3 jV Ep PK af ag qT qd lY ju lU AV jt aJ az hE hg aa V vV;generalize aM n v=Zn at *;go_wp2_with(with_reducible first|refine gS 111 jz.out ?_|refine gS 34 HS.out ?_);exact aI (bA results57 rfl HL.out) rfl HF.out
  ·by_cases aO:832<N
   ·obtain⟨wy,s1,s2,s3⟩:=jV.out 8 (by omega) (PK.out (by omega) (by omega)) z kp
    obtain⟨HS,HL,HF⟩:=hh3 s1 s2 s3;clear hW q1 q2 q3 G eV kp s1 s2 s3 jV Ep PK af ag qT qd lY ju lU AV jt aJ az hE hg aa V vV;generalize aM n v=Zn at *;go_wp2_with(with_reducible first|refine gS 111 jz.out ?_|refine gS 34 HS.out ?_);exact aI (bA results57 rfl HL.out) rfl HF.out
   ·obtain⟨s,rfl⟩:=cy (show 0<=N by omega)
    have Mj:s<=832:=by omega
    have d3:z.cell? ⟨U.heap.size,3,none⟩=some (.int .i64 n.S):=by rw[q2.cell];exact(gG v V).f3
    by_cases hcut:(s:Int)<n.S
    ·have I3:=ar (ag.out s rfl Mj hcut z kp v hE.one)
     obtain⟨aF,oQ⟩:=hh2 (b9 q2 V) q2;have aG:Hid (bD z v 0 []):=by
      have :=(hE.keep eV (by simp)).anyG (by rw[aa];rfl) 0;rw[aa] at this;exact this
     obtain⟨nL,SE,aK⟩:=hh3 kp hE.one G.size;clear hW q1 q2 q3 G eV kp jV Ep PK af ag qT ju jt hE hg aa;generalize W6:aM n v=Zn at *;have WW:=ar W6;clear W6;go_wp2_with(with_reducible first|refine gS 111 jz.out ?_|refine gL 79 vV.out ?_|refine gL 111 aF.out ?_);refine I3.out.mono ?_;rintro e w3 ⟨m,rfl,hm,av,ax⟩;have hl:=AV.out;obtain⟨w5,q1,q2,q3⟩:=cu (n:=m) (v:=v) (oQ.out.keep av (eD hl (by omega))) (by rw[<-WW.out];exact zq V) hm SE.out;have d1:w5.cell? ⟨U.heap.size,3,none⟩=some (.int .i64 m.S):=by rw[q2.cell];exact(gG v hm).f3
     have tY:=Io q2 (s:Int);have pq:=q2.frozen 3;have Dw:ay [U.heap.size] w3 (w5.setCell ⟨U.heap.size,3,none⟩ (.int .i64 (s:Int))):=q3.setCell (.inl (by simp)) _;have ac:bD (w5.setCell ⟨U.heap.size,3,none⟩ (.int .i64 (s:Int))) v 0 []:=(aG.out.keep av (λh0=>absurd rfl h0)).keep Dw (λh0=>absurd rfl h0);have ae:=ar (ax U.heap.size _ aK.out az Dw ac);have zK:ay [b,gp] W (w5.setCell ⟨U.heap.size,3,none⟩ (.int .i64 (s:Int))):=((nL.out.mono (by simp)).trans' av).trans Dw (λy hy=>by rw[au] at hy;have :=aK.out;omega);obtain⟨d0,-⟩:=qd.out _ zK;obtain⟨rz,Iy⟩:=hh2 q1 (b9 tY (by exact hm));clear q1 q2 q3 tY Dw zK ac ax av hl oQ aG nL aF vV I3 qd lY WW jz;generalize aM { m with S:=(s:Int) } v=Z6,aM m v=Zm at *;go_wp2_with(with_reducible first|refine gS 111 rz.out ?_|refine gL 111 Iy.out ?_);refine ae.out.mono ?_;rintro e w7 ⟨r,wy,rfl,s1,s2,s3⟩;obtain⟨HS,HL,HF⟩:=hh3 s1 s2 s3;clear s1 s2 s3 ae;go_wp2_with(with_reducible refine gS 34 HS.out ?_);exact aI (bA results57 rfl HL.out) rfl HF.out
    ·have tY:=Io q2 (s:Int)
     have pq:=q2.frozen 3;have aD:ay [U.heap.size] z (z.setCell ⟨U.heap.size,3,none⟩ (.int .i64 (s:Int))):=(ay.refl _ _).setCell (.inl (by simp)) _;have zK:ay [] W (z.setCell ⟨U.heap.size,3,none⟩ (.int .i64 (s:Int))):=kp.trans aD (λy hy=>by rw[au] at hy;have :=G.size;omega);have ac:bD (z.setCell ⟨U.heap.size,3,none⟩ (.int .i64 (s:Int))) v g n.E:=(hE.keep eV (by simp)).keep aD (λh0=>absurd (by rw[aa];rfl) h0);have ae:=ar (af.out s rfl Mj (by omega) _ zK v g ac);obtain⟨d0,-⟩:=qd.out _ (zK.mono (by simp));have Iy:=ar (b9 tY (by exact V));clear hW q1 q2 q3 G eV kp tY aD zK ac jV Ep PK af ag qT ju jt hE hg aa qd lY vV;generalize aM { n with S:=(s:Int) } v=Z6,aM n v=Zn at *;go_wp2_with(with_reducible first|refine gS 111 jz.out ?_|refine gL 111 Iy.out ?_);refine ae.out.mono ?_;rintro e w7 ⟨r,wy,rfl,s1,s2,s3⟩;obtain⟨HS,HL,HF⟩:=hh3 s1 s2 s3;clear s1 s2 s3 ae;go_wp2_with(with_reducible refine gS 34 HS.out ?_);exact aI (bA results57 rfl HL.out) rfl HF.out
def TC (w:World) (xs:List Int) (e:Ending) (w':World):Prop:=
 ∃v g,e=(v:Value)/\fp w' v g 5 1 xs.length (kT xs)/\(xs.length≠0->w.heap.size<=g/\g<w'.heap.size)/\ay [] w w'
theorem WC{xs:List Int}(h:Reads w v g (kT xs))(hn:xs.length<=10000):
  Calls prog 109 #[v] w (TC w xs):=by
 obtain⟨a,cap,rfl,h1,h2,h3⟩:=h;have e1:=λ(wz:World) (a:Option Addr) (n c:Nat)=>Lib.run_eql_slice_nil (P:= prog) wz 31 5 a n c 0 0 underlying31
 cases a with
 |none=>
  have hz:xs=[]:=by
   by_cases hx:kT xs=[]
   ·cases xs<;>simp_all[kT]
   ·obtain⟨-,off,V,-⟩:=h3 hx;cases V
  subst hz;clear h3;go_in;go_wp2_with fail;go_ret;exact⟨_,0,rfl,fp.nil _ _ _ _,λh=>absurd rfl h,ay.refl _ _⟩
 |some ad=>
  obtain⟨i0,hi,ag,ah,ac⟩:=dc acd;have z:∀j u,(kT xs)[j]? =some u->(w.alloc (.cells #[] 5)).cell? (ad.add j)=some u:=by
   intro j u hu;have hj:j<(kT xs).length:=(List.getElem?_eq_some_iff.1 hu).1;obtain⟨hg,off,V,hc⟩:=h3 (by intro e;rw[e] at hj;simp at hj);cases V;have W:(⟨g,off,none⟩:Addr).add j=⟨g,off+j,none⟩:=by unfold Addr.add;split<;>simp_all
   rw[W,aO (w:=w) (jL _ _ _ hg),hc j hj,hu]
  have U:(w.alloc (.cells #[] 5)).ownsRow w.heap.size 5 1 (.slice w.heap.size 0 0) 0 []:=World.ownsRow_made w #[] 0 (aH _) (by simp[maxLen]) (by simp);obtain⟨HC,HO⟩:=hh2 z U;clear z U h3;rw[fG] at h1 ⊢;go_in;go_wp2_with(at_builtin;refine eU _ rfl _ _ 31 rfl w.heap.size 5 i0 (.int .u8 0) 1 1 underlying31 hi ag ah ac rfl (by decide) (.slice w.heap.size 0 0) _ _ rfl HO.out ad xs.length cap (kT xs) rfl (by rw[fG];omega) HC.out (xe xs) (by unfold maxLen;omega) (by omega) (by simp) ?_;intro v' w1 G J _);obtain⟨g',V,aa⟩:=fp.of_row G;have H:TC w xs (.returned v') w1:=by
   refine⟨v',g',rfl,by simpa using V,λae=> ?_,?_⟩
   ·have :=aa (by omega)
    exact⟨this.1,((by simpa using V:fp w1 v' g' 5 1 xs.length (kT xs)).cell ae).1⟩
   ·have hk:=ay.of_grown (l:=[]) (((World.grownBy_alloc w (.cells #[] 5) none))) (by simp)
    have af:ay [w.heap.size] (w.alloc (.cells #[] 5)) w1:=ay.of_grown J (by intro k hk;simp[Value.ownBlock] at hk;subst hk;simp);exact hk.trans af (by simp)
  have HH:=ar H;clear G J V aa H;go_wp2_with fail;go_ret;exact HH.out
theorem aaB{U:World}{n gd:Nat}{aa:Array Value}{z:List Int}(hb:bh W g aa T)(hc:aa.size=7)(hk:ay [] W U)(hr:Reads U v gd (kT z))(V:z≠[]->n<=gd/\gd≠g):
  ∃G,(storeVar 34 g (.agg (zI { fy with D:=z } v (.slice none 0 0)))).run prog U= .ok () G/\(loadVar 34 g).run prog G= .ok (.agg (zI { fy with D:=z } v (.slice none 0 0))) G/\xb n G { fy with D:=z } (zI { fy with D:=z } v (.slice none 0 0))/\ay [g] U G:=by
 have J:∀wz,ay [g] U wz->xb n wz { fy with D:=z } (zI { fy with D:=z } v (.slice none 0 0)):=λwz ac=>by
  refine⟨_,_,rfl,⟨gd,?_,λh=>(V h).1⟩,0,bD.nil _ 0,λh=>absurd rfl h⟩;by_cases hD:z=[]
  ·subst hD
   obtain⟨ad,cap,e,b1,b2,-⟩:=hr;exact⟨ad,cap,e,b1,b2,λh0=>absurd rfl h0⟩
  ·exact hr.keep ac (by rw[au];exact(V hD).2)
 have hz:=(J U (ay.refl _ _)).at;have h1:=hz.one;have h2:=hz.size;have ae:=hb.keep hk (by simp);generalize af:zI { fy with D:=z } v (.slice none 0 0)=Z at *;obtain⟨zl⟩:=Z;simp only[bN] at h2;obtain⟨G,s1,s2,s3⟩:=bH (P:= prog) (ty:= 34) (cs:=zl) (by rw[h2];exact Fl) ae (by rw[hc,h2]) h1;exact⟨G,s1,zo s2 (J G s3).at,J G s3,s3⟩
theorem WG{X:List Int}{a:Nat}{O N:Int}(U:0<=O)(h1:0<=N)(z:0<=n.S)(W:n.S<=832)(V:min O n.S=(a:Int))(J:(a:Int)+min N (n.S-(a:Int))=(t:Int)):
  ((iT X n).drop a).take (t-a)=((qc X n).drop O.toNat).take N.toNat:=by
 have e:qc X n=(iT X n).take n.S.toNat:=by
  unfold qc iT;rw[<-jv,List.take_range,cQ (by omega)]
 rw[e,List.drop_take,List.take_take];by_cases h:O<=n.S
 ·have G:a=O.toNat:=by omega
  rw[G]
  congr 1
  omega
 ·rw[show t-a=0 by omega,show min N.toNat (n.S.toNat-O.toNat)=0 by omega,ez,ez]
end Go.Proofs.YtepbpdipenedhaaGreatDoor
