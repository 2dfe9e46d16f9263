import Derived.Test.YtgkkdpegcieakaaGreatDoorCzL
import Derived.Test.YtgkkdpegcieakaaGreatDoorCz28
import Derived.Test.YtgkkdpegcieakaaGreatDoorCz33
set_option linter.unusedVariables false
set_option linter.unusedSimpArgs false
set_option maxRecDepth 100000
set_option maxHeartbeats 16000000
namespace Go.Proofs.YtgkkdpegcieakaaGreatDoor
open Go.Proofs.Tryz
open Value renaming int→Z
open IntKind renaming i64→Y
open Go renaming World→TJ,Value→TK,Calls→TL
namespace Ru
open Go.RowKit
open Sp (dj ie)
open Rd (Rk e0)
open Pk (jo Sm fy TP cZ cS cY)
open Dk (Kept)
variable {R Q:Rk}{w w':TJ}{E D:Nat}{O:Nat->Prop}
theorem oO{l:Nat->Prop}(h:jo w D E Q R O)(m:Kept w w' l)(r:∀k,O k->l k): jo w' D E Q R O:=by
 obtain⟨d,e,u,y,z,A,C,F,G,j⟩:=h;exact⟨d,e,u,y,z,A.kept m (λk b=>r k ((j k).2 (Or.inl b))),C,Pk.EH.kept F m (λk b=>r k ((j k).2 (Or.inr b))),G,j⟩
structure og (w0:TJ) (O0:Nat->Prop) (v0:TK) (w:TJ) (D E S cX n cU:Nat) (Q R:Rk) (O:Nat->Prop) (v:TK) (T:Sn.Tb) (B X:Nat) (bc xc:Array TK):Prop where
 sf:ow w D E S cX n cU Q R O v T
 bb:w.heap[B]?=some (.cells bc 80 (0,0))
 xb:w.heap[X]?=some (.cells xc 176 (0,0))
 nb:¬OO O S v B
 nx:¬OO O S v X
 st:fy w0 (OO O0 S v0) w (OO O S v)
variable {v0 v:TK}{B n cU S X cX:Nat}{bc xc:Array TK}{T:Sn.Tb}{w0:TJ}{O0:Nat->Prop}
theorem og.below(h:og w0 O0 v0 w D E S cX n cU Q R O v T B X bc xc)(hb:TI w w'): og w0 O0 v0 w' D E S cX n cU Q R O v T B X bc xc:=⟨h.sf.below hb,(hb.block _ (cS h.bb)).trans h.bb,(hb.block _ (cS h.xb)).trans h.xb,h.nb,h.nx,h.st.trans (fy.below _ hb)⟩
theorem og.next{b:Nat->Prop}{v':TK}{j:Rk}{l:Sn.Tb}(h:og w0 O0 v0 w D E S cX n cU Q R O v T B X bc xc)(m:ow w' D E S cX n cU j R b v' l)(e:fy w (OO O S v) w' (OO b S v')): og w0 O0 v0 w' D E S cX n cU j R b v' l B X bc xc:=by
 obtain⟨r,_,u⟩:=e.far (cS h.bb) h.nb;obtain⟨y,_,z⟩:=e.far (cS h.xb) h.nx;exact⟨m,r.trans h.bb,y.trans h.xb,u,z,h.st.trans e⟩
theorem og.op{e:Nat->Prop}{j:Rk}(h:og w0 O0 v0 w D E S cX n cU Q R O v T B X bc xc)(h2:jo w' D E j R e)(l:fy w O w' e): og w0 O0 v0 w' D E S cX n cU j R e v T B X bc xc:=by
 obtain⟨a,b⟩:=h.sf.op h2 l;exact h.next a b
theorem ow.add{v':TK}{u:Sn.Tb}(h:ow w D E S cX n cU Q R O v T)(y:Rt.dK w w' S 4 (Kn D cX n cU v) 113 v v' u)(C:Sn.da u)(F:u.length<=1000000000): ow w' D E S cX n cU Q R O v' u/\fy w (OO O S v) w' (OO O S v'):=by
 have z:=h.sh.new y C F;have m:Kept w w' (λk=>¬qj S v k):=y.kept.mono λj _ A=>⟨λe=>A (Or.inl e),λe=>A (Or.inr e)⟩
 have l:∀k,qj S v' k->qj S v k\/w.heap.size<=k:=λk b=>by
  rcases b with e|e
  .exact Or.inl (Or.inl e)
  .rcases y.new with q|⟨g,q,K⟩
   .rw[q] at e;exact Or.inl (Or.inr e)
   .rw[q] at e;have:g=k:=iP e;exact Or.inr (by omega)
 have r:fy w (OO O S v) w' (OO O S v'):=⟨m.mono λk _ b G=>b (Or.inr G),λk b=>by
  rcases b with e|e
  .exact Or.inl (Or.inl e)
  .rcases l k e with e|e
   .exact Or.inl (Or.inr e)
   .exact Or.inr e⟩
 obtain⟨H,_,I⟩:=r.far h.pw.lt h.np;refine⟨⟨oO h.two m (λk b=>h.apart k b),z,λk b J=>?_,h.pw.keep H,I⟩,r⟩;rcases l k J with e|e
 .exact h.apart k b e
 .have:=h.two.lt b;omega
theorem J5{W:TJ}{f:Nat}{args:Array TK}{r:Int × Rk}(y:og w0 O0 v0 W D E S cX n cU Q R O v T B X bc xc)(z:TL prog f args W (mK W D E S cX n cU R O v (λb=>b=T) r))(u:r.1=0):TL prog f args W λe w'=>e=.returned (.tuple #[])/\∃j l,og w0 O0 v0 w' D E S cX n cU r.2 R j l T B X bc xc:=by
 refine z.mono ?_;rintro e w' ⟨A,_,j,l,b,C,F,G⟩;have m:b=T:=C u;subst m;exact⟨A u,j,l,y.next F G⟩
theorem Ir{W:TJ}{f:Nat}{args:Array TK}{r:Int × Rk}{G:Sn.Tb->Prop}(m:og w0 O0 v0 W D E S cX n cU Q R O v T B X bc xc)(u:TL prog f args W (mK W D E S cX n cU R O v G r))(y:r.1≠0):TL prog f args W λe w'=>e=.panicked (gD r.1)/\∃b j l,ow w' D E S cX n cU r.2 R b j l/\fy w0 (OO O0 S v0) w' (OO b S j):=by
 refine u.mono ?_;rintro e w' ⟨_,z,b,j,l,F,A,C⟩;exact⟨z y,b,j,l,A,m.st.trans C⟩
theorem ng(c:UInt8){step:Nat}(h:step<=9999999999):(nm c step).size<=1048576:=by
 have:=AA step h;rw[jU];omega
theorem GO(D E S cX n cU nn b step:Nat)(Q R:Rk)(O:Nat->Prop)(v:TK)(T:Sn.Tb)(p:Option Addr)(cap:Nat)(c:Sp.Cfg)(w:TJ)(h:ow w D E S cX n cU Q R O v T)(hv:kl w p c n)(hn:n<=64)(bn:0<n)(hj:cX<4294967296)(hs:step<=9999999999)(hp:gz Q (eK c n step cX) nn b)(ay:nn<=1000000000)(hb:b<=2097152)(hT:T.length<1000000000):TL prog 53 #[.pointer (some ⟨S,0,none⟩),gw step p n cap c.all] w (mK w D E S cX n cU R O v (λs=>s=if Sn.dw T step=true then T else Sn.gI T step ⟨p,n,cap,c.all⟩) (eg Q (eK c n step cX))):=by
 generalize hO:mK w D E S cX n cU R O v (λs=>s=if Sn.dw T step=true then T else Sn.gI T step ⟨p,n,cap,c.all⟩) (eg Q (eK c n step cX))=P;replace hO:=cP hO;have H:=cP h;have aw:Hid (∀W,TI w W->TL prog 93 #[.agg #[Z .u32 cX,Z Y n],.agg #[Z Y (step:Int),.slice p n cap,Z Y c.all]] W λe w'=>e=.returned (.agg (Eg step c.all cX c n step))/\TI W w'):=λW r=>vu cX n step p n cap c W (hv.below r) hn bn hj hs
 obtain⟨g,aL⟩:∃o,Hid (eQ (nm 118 step) (vB c n)=o):=⟨_,rfl⟩
 obtain⟨U,aM⟩:∃o,Hid (eQ (nm 109 step) (mB c n)=o):=⟨_,rfl⟩
 obtain⟨t,aN⟩:∃o,Hid (eQ tN (kB step c.all cX (ie (dj (vB c n))) (ie (dj (mB c n))))=o):=⟨_,rfl⟩
 have aT:eK c n step cX=g++(U++(t++[⟨4,tN,nm 99 step⟩,nS])):=by
  unfold eK;rw[cO aL,cO aM,cO aN];simp only[mR]
 rw[aT] at hp hO;have aU:=hp.fst;have aV:=cP aU;have aa:=cP hp;have sV:(dj (vB c n)).size<=1048576:=by rw[Sp.ep,fw];omega
 have sM:(dj (mB c n)).size<=1048576:=by rw[Sp.ep,ga];omega
 have sK:(dj (kB step c.all cX (ie (dj (vB c n))) (ie (dj (mB c n))))).size<=1048576:=by rw[Sp.ep,l5];decide
 have ak:Hid (∀(W:TJ) (F:Rk) (j:Nat->Prop) (l:TK),ow W D E S cX n cU F R j l T->gz F g nn b->TL prog 94 #[.pointer (some ⟨S,0,none⟩),.string (nm 118 step),.string (dj (vB c n))] W (mK W D E S cX n cU R j l (λs=>s=T) (eg F g))):=λW F j l h1 h2=>by
  have:=sY D E S cX n cU nn b F R j l T (nm 118 step) (vB c n) W h1 (by rw[cO aL];exact h2) ay hb (ng _ hs) sV;rw[cO aL] at this;exact this
 have an:Hid (∀(W:TJ) (F:Rk) (j:Nat->Prop) (l:TK),ow W D E S cX n cU F R j l T->gz F U nn b->TL prog 94 #[.pointer (some ⟨S,0,none⟩),.string (nm 109 step),.string (dj (mB c n))] W (mK W D E S cX n cU R j l (λs=>s=T) (eg F U))):=λW F j l h1 h2=>by
  have:=sY D E S cX n cU nn b F R j l T (nm 109 step) (mB c n) W h1 (by rw[cO aM];exact h2) ay hb (ng _ hs) sM;rw[cO aM] at this;exact this
 have ax:Hid (∀(W:TJ) (F:Rk) (j:Nat->Prop) (l:TK),ow W D E S cX n cU F R j l T->gz F t nn b->TL prog 94 #[.pointer (some ⟨S,0,none⟩),.string ⟨#[116]⟩,.string (dj (kB step c.all cX (ie (dj (vB c n))) (ie (dj (mB c n)))))] W (mK W D E S cX n cU R j l (λs=>s=T) (eg F t))):=λW F j l h1 h2=>by
  have:=sY D E S cX n cU nn b F R j l T tN (kB step c.all cX (ie (dj (vB c n))) (ie (dj (mB c n)))) W h1 (by rw[cO aN];exact h2) ay hb (by decide) sK;rw[cO aN] at this;exact this
 unfold Eg at aw;obtain⟨V,HV⟩:∃x,Hid (dj (vB c n)=x):=⟨_,rfl⟩
 obtain⟨M,HM⟩:∃x,Hid (dj (mB c n)=x):=⟨_,rfl⟩
 obtain⟨K,HK⟩:∃x,Hid (dj (kB step c.all cX (ie (dj (vB c n))) (ie (dj (mB c n))))=x):=⟨_,rfl⟩
 rw[cO HK,cO HM,cO HV] at aw;rw[cO HV] at ak;rw[cO HM] at an;rw[cO HK] at ax;obtain⟨N1,aW⟩:∃x,Hid (nm 118 step=x):=⟨_,rfl⟩
 obtain⟨N2,aX⟩:∃x,Hid (nm 109 step=x):=⟨_,rfl⟩
 obtain⟨G,aO⟩:∃x,Hid (nm 99 step=x):=⟨_,rfl⟩
 rw[cO aW] at ak;rw[cO aX] at an;rw[cO aO] at hO aa;have zN:G.size<=1048576:=by rw[<-cO aO];exact ng _ hs
 have aF:Hid (∀W,gh W->TL prog 82 #[Z Y (step:Int)] W λe w'=>e=.returned (.string N1)/\TI W w'):=λW h=>by rw[<-cO aW];exact kP step W hs h
 have aG:Hid (∀W,gh W->TL prog 81 #[Z Y (step:Int)] W λe w'=>e=.returned (.string N2)/\TI W w'):=λW h=>by rw[<-cO aX];exact iX step W hs h
 have aH:Hid (∀W,gh W->TL prog 79 #[Z Y (step:Int)] W λe w'=>e=.returned (.string G)/\TI W w'):=λW h=>by rw[<-cO aO];exact kO step W hs h
 have aY:Hid (∀W,W=w.alloc (.cells #[Z Y (step:Int),.slice p n cap,Z Y c.all] 80)->W.heap[w.heap.size]?=some (.cells #[Z Y (step:Int),.slice p n cap,Z Y c.all] 80 (0,0))/\TI w W):=by
  show ∀W,_
  rintro W rfl;exact⟨ct w _,(cj _ w).alloc TG _⟩
 clear h hv hp aU aT sV sM sK;unfold gw;go_enter func53,ntmps53;go_upto_region 1 with fail;generalize r:World.alloc _ _=u;obtain⟨J,L⟩:=cO aY u r.symm;clear r aY
 go_cut [3,4] from 2 (λy x wx=>∃X,y=.pointer (some ⟨w.heap.size,0,none⟩)/\x=.pointer (some ⟨X,0,none⟩)/\Hid (og w O v wx D E S cX n cU Q R O v T w.heap.size X #[Z Y (step:Int),.slice p n cap,Z Y c.all] #[.string K,.string M,.string V]))
 case first =>
  have au:=(cO H).sh.below L;have j1:=au.c1;have j2:=au.c2;have b0:u.cell? ⟨w.heap.size,0,none⟩=some (Z Y (step:Int)):=by rw[cn u _ 0 _ _ _ J];rfl
  have b1:u.cell? ⟨w.heap.size,1,none⟩=some (.slice p n cap):=by rw[cn u _ 1 _ _ _ J];rfl
  have b2:u.cell? ⟨w.heap.size,2,none⟩=some (Z Y c.all):=by rw[cn u _ 2 _ _ _ J];rfl
  have bw:S<u.heap.size:=au.lt;have bo:w.heap.size<u.heap.size:=cS J;have bp:Hid (∀W,W=u.drew->TL prog 93 #[.agg #[Z .u32 cX,Z Y n],.agg #[Z Y (step:Int),.slice p n cap,Z Y c.all]] W λe w'=>e=.returned (.agg #[.string K,.string M,.string V])/\Hid (og w O v (w'.alloc (.cells #[.string K,.string M,.string V] 176)) D E S cX n cU Q R O v T w.heap.size w'.heap.size #[Z Y (step:Int),.slice p n cap,Z Y c.all] #[.string K,.string M,.string V])):=by
   show ∀W,_
   rintro W rfl;refine(cO aw _ L.drew).mono ?_;rintro e w' ⟨rfl,hb⟩;refine⟨rfl,?_⟩;have hB:TI w w':=L.drew.trans (hb.mono L.drew.size);have hA:TI w' (w'.alloc (.cells #[.string K,.string M,.string V] 176)):=TH.alloc TG _;have aZ:=hB.trans (hA.mono hB.size)
   show og _ _ _ _ _ _ _ _ _ _ _ _ _ _ _ _ _ _ _
   refine⟨(cO H).below aZ,?_,ct w' _,λhq=>?_,λhq=>?_,fy.below _ aZ⟩
   .rw[hA.block _ (by have:=hb.size;have:=cS J;exact dT this ‹_›),hb.block _ (cS J)];exact J
   .have:=(cO H).lt hq;omega
   .have:=(cO H).lt hq;have:=hB.size;omega
  have bq:Hid (∀W,W=(u.alloc (.cells #[.string ⟨#[]⟩,.string ⟨#[]⟩,.string ⟨#[]⟩] 176)).drew->TL prog 93 #[.agg #[Z .u32 cX,Z Y n],.agg #[Z Y (step:Int),.slice p n cap,Z Y c.all]] W λe w'=>e=.returned (.agg #[.string K,.string M,.string V])/\(w'.cell? ⟨u.heap.size,0,none⟩=some (.string ⟨#[]⟩)/\w'.cell? ⟨u.heap.size,1,none⟩=some (.string ⟨#[]⟩)/\w'.cell? ⟨u.heap.size,2,none⟩=some (.string ⟨#[]⟩))/\(w'.frozen? ⟨u.heap.size,0,none⟩=false/\w'.frozen? ⟨u.heap.size,1,none⟩=false/\w'.frozen? ⟨u.heap.size,2,none⟩=false)/\Hid (og w O v (((w'.setCell ⟨u.heap.size,0,none⟩ (.string K)).setCell ⟨u.heap.size,1,none⟩ (.string M)).setCell ⟨u.heap.size,2,none⟩ (.string V)) D E S cX n cU Q R O v T w.heap.size u.heap.size #[Z Y (step:Int),.slice p n cap,Z Y c.all] #[.string K,.string M,.string V])):=by
   show ∀W,_
   intro W r;have az:TI u W:=by rw[r];exact(TH.alloc TG _).drew
   have a1:W.heap[u.heap.size]?=some (.cells #[.string ⟨#[]⟩,.string ⟨#[]⟩,.string ⟨#[]⟩] 176 (0,0)):=by rw[r];exact ct u _
   clear r;have aP:=L.trans (az.mono L.size);refine(cO aw _ aP).mono ?_;rintro e w' ⟨rfl,hb⟩;have ao:=(hb.block _ (cS a1)).trans a1;have hB:TI w w':=aP.trans (hb.mono aP.size);refine⟨rfl,⟨by rw[cn w' _ 0 _ _ _ ao];rfl,by rw[cn w' _ 1 _ _ _ ao];rfl,by rw[cn w' _ 2 _ _ _ ao];rfl⟩,⟨by simp[World.frozen?,ao],by simp[World.frozen?,ao],by simp[World.frozen?,ao]⟩,?_⟩
   show og _ _ _ _ _ _ _ _ _ _ _ _ _ _ _ _ _ _ _
   have br:TI u w':=az.trans (hb.mono az.size);have a6:TI u (((w'.setCell ⟨u.heap.size,0,none⟩ (.string K)).setCell ⟨u.heap.size,1,none⟩ (.string M)).setCell ⟨u.heap.size,2,none⟩ (.string V)):=((br.setCell (p:=⟨u.heap.size,0,none⟩) TG _).setCell (p:=⟨u.heap.size,1,none⟩) TG _).setCell (p:=⟨u.heap.size,2,none⟩) TG _;have hS:=L.trans (a6.mono L.size);refine⟨(cO H).below hS,(a6.block _ bo).trans J,?_,λhq=>?_,λhq=>?_,fy.below _ hS⟩
   .have h1:=cA w' u.heap.size 0 _ _ (.string K) ao;have h2:=cA _ u.heap.size 1 _ _ (.string M) h1;have h3:=cA _ u.heap.size 2 _ _ (.string V) h2;rw[h3];rfl
   .have:=(cO H).lt hq;omega
   .have:=(cO H).lt hq;have:=L.size;omega
  clear aw ak an ax aF aG aH J au aa aV hO
  go_region_with (first
  |(go_at_call 93;refine((cO bp) _ rfl).mono ?_;rintro e w1 ⟨rfl,HR⟩)
  |(go_at_call 93;refine((cO bq) _ rfl).mono ?_;rintro e w1 ⟨rfl,⟨k0,k1,k2⟩,⟨g0,g1,g2⟩,HR⟩))
  all_goals
   go_wp2
   go_meet
   exact⟨_,rfl,rfl,HR⟩
 case rest =>
 obtain⟨X,rfl,rfl,m⟩:=hcut;obtain⟨Q1,aI⟩:∃x,Q=x:=⟨_,rfl⟩
 have av:Hid (eg Q (g++(U++(t++[⟨4,tN,G⟩,nS])))=eg Q1 (g++(U++(t++[⟨4,tN,G⟩,nS])))):=by show _=_;rw[aI]
 rw[aI] at m;replace aa:Hid (gz Q1 (g++(U++(t++[⟨4,tN,G⟩,nS]))) nn b):=by show gz _ _ _ _;rw[<-aI];exact cO aa
 obtain⟨O1,v1,m⟩:∃O1 v1,Hid (og w O v wc D E S cX n cU Q1 R O1 v1 T w.heap.size X #[Z Y (step:Int),.slice p n cap,Z Y c.all] #[.string K,.string M,.string V]):=⟨O,v,m⟩
 clear aV H aI aw L J;have aA:wc.heap[w.heap.size]?=some (.cells #[Z Y (step:Int),.slice p n cap,Z Y c.all] 80 (0,0)):=(cO m).bb;have ab:wc.heap[X]?=some (.cells #[.string K,.string M,.string V] 176 (0,0)):=(cO m).xb;have z0:wc.cell? ⟨w.heap.size,0,none⟩=some (Z Y (step:Int)):=by rw[cn wc _ 0 _ _ _ aA];rfl
 have z1:wc.cell? ⟨X,2,none⟩=some (.string V):=by rw[cn wc _ 2 _ _ _ ab];rfl
 clear aA ab;have hd:Hid (og w O v wc.drew D E S cX n cU Q1 R O1 v1 T w.heap.size X #[Z Y (step:Int),.slice p n cap,Z Y c.all] #[.string K,.string M,.string V]):=(cO m).below TH.drew;have CT:∀{F:Rk} {j:Nat->Prop} {l:TK} {w':TJ},og w O v w' D E S cX n cU F R j l T w.heap.size X #[Z Y (step:Int),.slice p n cap,Z Y c.all] #[.string K,.string M,.string V]->w'.cell? ⟨w.heap.size,0,none⟩=some (Z Y (step:Int))/\w'.cell? ⟨X,2,none⟩=some (.string V):=λ{F j l w'} h=>⟨by rw[cn w' _ 0 _ _ _ h.bb];rfl,by rw[cn w' _ 2 _ _ _ h.xb];rfl⟩
 have HA:Hid (∀W,Hid (og w O v W D E S cX n cU Q1 R O1 v1 T w.heap.size X #[Z Y (step:Int),.slice p n cap,Z Y c.all] #[.string K,.string M,.string V])->TL prog 82 #[Z Y (step:Int)] W λe w'=>e=.returned (.string N1)/\(w'.cell? ⟨w.heap.size,0,none⟩=some (Z Y (step:Int))/\w'.cell? ⟨X,2,none⟩=some (.string V))/\Hid (og w O v w' D E S cX n cU Q1 R O1 v1 T w.heap.size X #[Z Y (step:Int),.slice p n cap,Z Y c.all] #[.string K,.string M,.string V])):=λW r=>(cO aF W (cO r).sf.pw).mono λe w' ⟨he,hb⟩=>⟨he,CT ((cO r).below hb),(cO r).below hb⟩
 have A:=cP (cO aa).fst;by_cases z:(eg Q1 g).1=0
 .have HB:Hid (∀W,Hid (og w O v W D E S cX n cU Q1 R O1 v1 T w.heap.size X #[Z Y (step:Int),.slice p n cap,Z Y c.all] #[.string K,.string M,.string V])->TL prog 94 #[.pointer (some ⟨S,0,none⟩),.string N1,.string V] W λe w'=>e=.returned (.tuple #[])/\(w'.cell? ⟨w.heap.size,0,none⟩=some (Z Y (step:Int))/\w'.cell? ⟨X,2,none⟩=some (.string V))/\∃j l,Hid (og w O v w' D E S cX n cU (eg Q1 g).2 R j l T w.heap.size X #[Z Y (step:Int),.slice p n cap,Z Y c.all] #[.string K,.string M,.string V])):=λW r=>(J5 (cO r) (cO ak W Q1 O1 v1 (cO r).sf (cO A)) z).mono λe w' ⟨he,j,l,h⟩=>⟨he,CT h,j,l,h⟩
  have ad:Hid (eg Q (g++(U++(t++[⟨4,tN,G⟩,nS])))=eg (eg Q1 g).2 (U++(t++[⟨4,tN,G⟩,nS]))):=by show _=_;rw[cO av,iE,cg z]
  have aB:=cP ((cO aa).snd z);clear CT aa A m av ak aF;go_wp2_with fail
  go_region_held3 (λw'=>w'.cell? ⟨w.heap.size,0,none⟩=some (Z Y (step:Int))/\w'.cell? ⟨X,2,none⟩=some (.string V))
   (first|(exact⟨by assumption,by assumption⟩)|(go_keep;done))
   (first
    |(go_at_call 82;refine((cO HA) _ (by assumption)).mono ?_;rintro e w1 ⟨rfl,⟨k0,k1⟩,ae⟩)
    |(go_at_call 94;refine((cO HB) _ (by assumption)).mono ?_;rintro e aq ⟨rfl,⟨y0,y1⟩,O2,v2,m⟩))
  clear z0 z1 hd HA HB k0 k1 ae y0 y1 z;obtain⟨Q2,a7⟩:∃q,Hid ((eg Q1 g).2=q):=⟨_,rfl⟩
  rw[cO a7] at m ad aB;clear a7;have aA:aq.heap[w.heap.size]?=some (.cells #[Z Y (step:Int),.slice p n cap,Z Y c.all] 80 (0,0)):=(cO m).bb;have ab:aq.heap[X]?=some (.cells #[.string K,.string M,.string V] 176 (0,0)):=(cO m).xb;have z0:aq.cell? ⟨w.heap.size,0,none⟩=some (Z Y (step:Int)):=by rw[cn aq _ 0 _ _ _ aA];rfl
  have z1:aq.cell? ⟨X,1,none⟩=some (.string M):=by rw[cn aq _ 1 _ _ _ ab];rfl
  clear aA ab;have hd:Hid (og w O v aq.drew D E S cX n cU Q2 R O2 v2 T w.heap.size X #[Z Y (step:Int),.slice p n cap,Z Y c.all] #[.string K,.string M,.string V]):=(cO m).below TH.drew;have CT:∀{F:Rk} {j:Nat->Prop} {l:TK} {w':TJ},og w O v w' D E S cX n cU F R j l T w.heap.size X #[Z Y (step:Int),.slice p n cap,Z Y c.all] #[.string K,.string M,.string V]->w'.cell? ⟨w.heap.size,0,none⟩=some (Z Y (step:Int))/\w'.cell? ⟨X,1,none⟩=some (.string M):=λ{F j l w'} h=>⟨by rw[cn w' _ 0 _ _ _ h.bb];rfl,by rw[cn w' _ 1 _ _ _ h.xb];rfl⟩
  have HA:Hid (∀W,Hid (og w O v W D E S cX n cU Q2 R O2 v2 T w.heap.size X #[Z Y (step:Int),.slice p n cap,Z Y c.all] #[.string K,.string M,.string V])->TL prog 81 #[Z Y (step:Int)] W λe w'=>e=.returned (.string N2)/\(w'.cell? ⟨w.heap.size,0,none⟩=some (Z Y (step:Int))/\w'.cell? ⟨X,1,none⟩=some (.string M))/\Hid (og w O v w' D E S cX n cU Q2 R O2 v2 T w.heap.size X #[Z Y (step:Int),.slice p n cap,Z Y c.all] #[.string K,.string M,.string V])):=λW r=>(cO aG W (cO r).sf.pw).mono λe w' ⟨he,hb⟩=>⟨he,CT ((cO r).below hb),(cO r).below hb⟩
  have A:=cP (cO aB).fst;by_cases z:(eg Q2 U).1=0
  .have HB:Hid (∀W,Hid (og w O v W D E S cX n cU Q2 R O2 v2 T w.heap.size X #[Z Y (step:Int),.slice p n cap,Z Y c.all] #[.string K,.string M,.string V])->TL prog 94 #[.pointer (some ⟨S,0,none⟩),.string N2,.string M] W λe w'=>e=.returned (.tuple #[])/\(w'.cell? ⟨w.heap.size,0,none⟩=some (Z Y (step:Int))/\w'.cell? ⟨X,1,none⟩=some (.string M))/\∃j l,Hid (og w O v w' D E S cX n cU (eg Q2 U).2 R j l T w.heap.size X #[Z Y (step:Int),.slice p n cap,Z Y c.all] #[.string K,.string M,.string V])):=λW r=>(J5 (cO r) (cO an W Q2 O2 v2 (cO r).sf (cO A)) z).mono λe w' ⟨he,j,l,h⟩=>⟨he,CT h,j,l,h⟩
   have af:Hid (eg Q (g++(U++(t++[⟨4,tN,G⟩,nS])))=eg (eg Q2 U).2 (t++[⟨4,tN,G⟩,nS])):=by show _=_;rw[cO ad,iE,cg z]
   have aC:=cP ((cO aB).snd z);clear CT aB A m ad an aG;go_upto_region 3 with fail
   go_region_held3 (λw'=>w'.cell? ⟨w.heap.size,0,none⟩=some (Z Y (step:Int))/\w'.cell? ⟨X,1,none⟩=some (.string M))
    (first|(exact⟨by assumption,by assumption⟩)|(go_keep;done))
    (first
     |(go_at_call 81;refine((cO HA) _ (by assumption)).mono ?_;rintro e w1 ⟨rfl,⟨k0,k1⟩,ae⟩)
     |(go_at_call 94;refine((cO HB) _ (by assumption)).mono ?_;rintro e aD ⟨rfl,⟨y0,y1⟩,O3,v3,m⟩))
   clear z0 z1 hd HA HB k0 k1 ae y0 y1 z;obtain⟨Q3,a8⟩:∃q,Hid ((eg Q2 U).2=q):=⟨_,rfl⟩
   rw[cO a8] at m af aC;clear a8;have ab:aD.heap[X]?=some (.cells #[.string K,.string M,.string V] 176 (0,0)):=(cO m).xb;have z1:aD.cell? ⟨X,0,none⟩=some (.string K):=by rw[cn aD _ 0 _ _ _ ab];rfl
   clear ab;have A:=cP (cO aC).fst;by_cases z:(eg Q3 t).1=0
   .have HB:=cP (J5 (cO m) (cO ax aD Q3 O3 v3 (cO m).sf (cO A)) z);have ag:Hid (eg Q (g++(U++(t++[⟨4,tN,G⟩,nS])))=eg (eg Q3 t).2 [⟨4,tN,G⟩,nS]):=by show _=_;rw[cO af,iE,cg z]
    have aE:=cP ((cO aC).snd z);clear aC A m af ax;go_wp2_with fail;refine(cO HB).mono ?_;rintro e aQ ⟨rfl,O4,v4,m⟩;replace m:=cP m;clear HB z z1;obtain⟨Q4,ba⟩:∃q,Hid ((eg Q3 t).2=q):=⟨_,rfl⟩
    rw[cO ba] at m ag aE;clear ba;have s0:=(cO m).sf.sh.c0;have z0:aQ.cell? ⟨w.heap.size,0,none⟩=some (Z Y (step:Int)):=by rw[cn aQ _ 0 _ _ _ (cO m).bb];rfl
    have hd:Hid (og w O v aQ.drew D E S cX n cU Q4 R O4 v4 T w.heap.size X #[Z Y (step:Int),.slice p n cap,Z Y c.all] #[.string K,.string M,.string V]):=(cO m).below TH.drew;have CT:∀{F:Rk} {j:Nat->Prop} {l:TK} {w':TJ},og w O v w' D E S cX n cU F R j l T w.heap.size X #[Z Y (step:Int),.slice p n cap,Z Y c.all] #[.string K,.string M,.string V]->w'.cell? ⟨S,0,none⟩=some (.pointer (some ⟨D,0,none⟩))/\w'.cell? ⟨w.heap.size,0,none⟩=some (Z Y (step:Int)):=λ{F j l w'} h=>⟨h.sf.sh.c0,by rw[cn w' _ 0 _ _ _ h.bb];rfl⟩
    have HA:Hid (∀W,Hid (og w O v W D E S cX n cU Q4 R O4 v4 T w.heap.size X #[Z Y (step:Int),.slice p n cap,Z Y c.all] #[.string K,.string M,.string V])->TL prog 79 #[Z Y (step:Int)] W λe w'=>e=.returned (.string G)/\(w'.cell? ⟨S,0,none⟩=some (.pointer (some ⟨D,0,none⟩))/\w'.cell? ⟨w.heap.size,0,none⟩=some (Z Y (step:Int)))/\Hid (og w O v w' D E S cX n cU Q4 R O4 v4 T w.heap.size X #[Z Y (step:Int),.slice p n cap,Z Y c.all] #[.string K,.string M,.string V])):=λW r=>(cO aH W (cO r).sf.pw).mono λe w' ⟨he,hb⟩=>⟨he,CT ((cO r).below hb),(cO r).below hb⟩
    have aJ:Hid (∀W,Hid (og w O v W D E S cX n cU Q4 R O4 v4 T w.heap.size X #[Z Y (step:Int),.slice p n cap,Z Y c.all] #[.string K,.string M,.string V])->TL prog 95 #[.pointer (some ⟨D,0,none⟩),.string ⟨#[116]⟩,.string G] W λe w'=>e=.returned (Z Y (Q4.rename tN G).1)/\(w'.cell? ⟨S,0,none⟩=some (.pointer (some ⟨D,0,none⟩))/\w'.cell? ⟨w.heap.size,0,none⟩=some (Z Y (step:Int)))/\∃j,Hid (og w O v w' D E S cX n cU (Q4.rename tN G).2 R j v4 T w.heap.size X #[Z Y (step:Int),.slice p n cap,Z Y c.all] #[.string K,.string M,.string V])):=λW r=>(Pk.Gx tN G (cO r).sf.two (cO aE).head ay (by decide) zN).mono λe w' ⟨he,j,h2,hs⟩=>⟨he,CT ((cO r).op h2 hs),j,(cO r).op h2 hs⟩
    have C:Hid (dz Q4 ⟨4,tN,G⟩=Q4.rename tN G):=rfl;obtain⟨e4,N⟩:∃x,Hid ((Q4.rename tN G).1=x):=⟨_,rfl⟩
    rw[cO N] at aJ;by_cases z:e4=0
    .subst z;have ah:Hid (eg Q (g++(U++(t++[⟨4,tN,G⟩,nS])))=eg (Q4.rename tN G).2 [nS]):=by show _=_;rw[cO ag,oR (by rw[cO C];exact cO N),cO C]
     have aR:Hid (gz (Q4.rename tN G).2 [nS] nn b):=(cO aE).tail (by rw[cO C];exact cO N);clear CT aE m ag aH N C;go_upto_region 5 with fail
     go_region_held3 (λw'=>w'.cell? ⟨S,0,none⟩=some (.pointer (some ⟨D,0,none⟩))/\w'.cell? ⟨w.heap.size,0,none⟩=some (Z Y (step:Int)))
      (first|(exact⟨by assumption,by assumption⟩)|(go_keep;done))
      (first
       |(go_at_call 79;refine((cO HA) _ (by assumption)).mono ?_;rintro e w1 ⟨rfl,⟨k0,k1⟩,ae⟩)
       |(go_at_call 95;refine((cO aJ) _ (by assumption)).mono ?_;rintro e bd ⟨rfl,⟨y0,y1⟩,O5,m⟩)
       |(go_at_call 89;refine(iY _).mono ?_;rintro e wm ⟨rfl,ar⟩;obtain rfl:=ar.symm))
     clear s0 z0 hd HA aJ k0 k1 ae y0 y1;obtain⟨Q5,bg⟩:∃q,Hid ((Q4.rename tN G).2=q):=⟨_,rfl⟩
     rw[cO bg] at m ah aR;clear bg;have s0:=(cO m).sf.sh.c0;have aS:=cP (Pk.sN (cO m).sf.two (cO aR).head ay);have C:Hid (dz Q5 nS=Q5.eY):=rfl;obtain⟨e5,ai⟩:∃x,Hid (Q5.eY.1=x):=⟨_,rfl⟩
     rw[cO ai] at aS;go_wp2_with fail;refine(cO aS).mono ?_;rintro e I ⟨rfl,O6,t6,s6⟩;have aj:=cP ((cO m).op t6 s6);clear aS t6 s6 s0 m aR;by_cases z:e5=0
     .subst z;have HR:Hid (eg Q (g++(U++(t++[⟨4,tN,G⟩,nS])))=(0,Q5.eY.2)):=by
       show _=_
       rw[cO ah,pt,cO C,<-cO ai]
      have x0:I.cell? ⟨w.heap.size,0,none⟩=some (Z Y (step:Int)):=by rw[cn I _ 0 _ _ _ (cO aj).bb];rfl
      have x1:I.cell? ⟨w.heap.size,1,none⟩=some (.slice p n cap):=by rw[cn I _ 1 _ _ _ (cO aj).bb];rfl
      have x2:I.cell? ⟨w.heap.size,2,none⟩=some (Z Y c.all):=by rw[cn I _ 2 _ _ _ (cO aj).bb];rfl
      have bs:Hid (∀W,W=I.drew->TL prog 46 #[.pointer (some ⟨S,4,none⟩),Z Y (step:Int),.agg #[Z Y (step:Int),.slice p n cap,Z Y c.all]] W λe w'=>(∃bb,e=.returned (.bool bb))/\(w'.cell? ⟨w.heap.size,0,none⟩=some (Z Y (step:Int))/\w'.cell? ⟨w.heap.size,1,none⟩=some (.slice p n cap)/\w'.cell? ⟨w.heap.size,2,none⟩=some (Z Y c.all))/\Hid (P (.returned (.tuple #[])) w')):=by
       show ∀W,_
       intro W r;have az:TI I W:=by rw[r];exact TH.drew
       have hI:=(cO aj).below az;refine(Rt.n5 S 4 (Kn D cX n cU v4) 113 v4 T step ⟨p,n,cap,c.all⟩ W hI.sf.sh.tab hI.sf.sh.ne).mono ?_;rintro e w' ⟨he,l,hn⟩;have bh:Sn.da (if Sn.dw T step=true then T else Sn.gI T step ⟨p,n,cap,c.all⟩):=by
        split
        .exact hI.sf.sh.tab.mg
        .rename_i hq;exact Sn.iq hI.sf.sh.tab.mg (by simpa using hq)
       have bj:(if Sn.dw T step=true then T else Sn.gI T step ⟨p,n,cap,c.all⟩).length<=1000000000:=by
        split
        .exact hI.sf.sh.tab.len
        .rw[Sn.iS];omega
       obtain⟨hq,hs⟩:=hI.sf.add hn bh bj;have aK:=hI.next hq hs
       refine⟨⟨_,he⟩,⟨by rw[cn w' _ 0 _ _ _ aK.bb];rfl,by rw[cn w' _ 1 _ _ _ aK.bb];rfl,by rw[cn w' _ 2 _ _ _ aK.bb];rfl⟩,?_⟩
       show P _ _
       rw[<-cO hO,cO HR];exact⟨λ_=>rfl,λh=>absurd rfl h,O6,l,_,λ_=>rfl,hq,aK.st⟩
      clear aj ah HR C ai;go_wp2_with fail;refine(iY I).mono ?_;rintro e wm ⟨rfl,ar⟩;obtain rfl:=ar.symm;go_upto_region 7 with fail
      go_region_held3 (λw'=>w'.cell? ⟨w.heap.size,0,none⟩=some (Z Y (step:Int))/\w'.cell? ⟨w.heap.size,1,none⟩=some (.slice p n cap)/\w'.cell? ⟨w.heap.size,2,none⟩=some (Z Y c.all))
       (first|(exact⟨by assumption,by assumption,by assumption⟩)|(go_keep;done))
       (first|(go_at_call 46;refine((cO bs) _ rfl).mono ?_;rintro e w7 ⟨⟨bb,rfl⟩,⟨y0,y1,y2⟩,HF⟩))
      all_goals
       go_wp2;exact cw (cu rfl _ _ _) rfl (cO HF)
     .have HF:Hid (P (.panicked (gD e5)) I):=by
       show P _ _
       have bk:(dz Q5 nS).1≠0:=by rw[cO C,cO ai];exact z
       rw[<-cO hO,cO ah,pt,cO C];exact⟨λh=>absurd ((cO ai).symm.trans h) z,λ_=>by rw[cO ai],O6,v4,T,λh=>absurd ((cO ai).symm.trans h) z,(cO aj).sf,(cO aj).st⟩
      clear aj ah C ai;go_wp2_with fail;refine(jD e5 z I).mono ?_;rintro e wm ⟨rfl,ar⟩;obtain rfl:=ar.symm;exact⟨rfl,cO HF⟩
    .have HF:Hid (∀w' j,og w O v w' D E S cX n cU (Q4.rename tN G).2 R j v4 T w.heap.size X #[Z Y (step:Int),.slice p n cap,Z Y c.all] #[.string K,.string M,.string V]->P (.panicked (gD e4)) w'):=by
      show ∀w' j,_
      intro w' j h;have bk:(dz Q4 ⟨4,tN,G⟩).1≠0:=by rw[cO C,cO N];exact z
      rw[<-cO hO,cO ag,qm bk,cO C];exact⟨λh=>absurd ((cO N).symm.trans h) z,λ_=>by rw[cO N],j,v4,T,λh=>absurd ((cO N).symm.trans h) z,h.sf,h.st⟩
     clear CT aE m ag aH N C;go_upto_region 5 with fail
     go_region_with (first
     |(go_at_call 79;refine((cO HA) _ (by assumption)).mono ?_;rintro e w1 ⟨rfl,⟨k0,k1⟩,ae⟩)
     |(go_at_call 95;refine((cO aJ) _ (by assumption)).mono ?_;rintro e bd ⟨rfl,⟨y0,y1⟩,O5,bu⟩)
     |(go_at_call 89;refine(jD e4 z _).mono ?_;rintro e wm ⟨rfl,ar⟩;obtain rfl:=ar.symm;refine jL prog bd ⟨rfl,cO HF _ _ (cO bu)⟩ ?_))
     all_goals trivial
   .have HB:=cP (Ir (cO m) (cO ax aD Q3 O3 v3 (cO m).sf (cO A)) z);have HF:Hid (∀w',(∃j l s,ow w' D E S cX n cU (eg Q3 t).2 R j l s/\fy w (OO O S v) w' (OO j S l))->P (.panicked (gD (eg Q3 t).1)) w'):=by
     show ∀w',_
     rintro w' ⟨j,l,s,h1,h2⟩;rw[<-cO hO,cO af,iE,cd z];exact⟨λh=>absurd h z,λ_=>rfl,j,l,s,λh=>absurd h z,h1,h2⟩
    clear aC A m af ax;go_wp2_with fail;refine(cO HB).mono ?_;rintro e w4 ⟨rfl,hq⟩;exact⟨rfl,cO HF w4 hq⟩
  .have HB:Hid (∀W,Hid (og w O v W D E S cX n cU Q2 R O2 v2 T w.heap.size X #[Z Y (step:Int),.slice p n cap,Z Y c.all] #[.string K,.string M,.string V])->TL prog 94 #[.pointer (some ⟨S,0,none⟩),.string N2,.string M] W λe w'=>e=.panicked (gD (eg Q2 U).1)/\Hid (P (.panicked (gD (eg Q2 U).1)) w')):=λW r=>(Ir (cO r) (cO an W Q2 O2 v2 (cO r).sf (cO A)) z).mono λe w' ⟨he,j,l,s,h1,h2⟩=>⟨he,by
    show P _ _
    rw[<-cO hO,cO ad,iE,cd z];exact⟨λh=>absurd h z,λ_=>rfl,j,l,s,λh=>absurd h z,h1,h2⟩⟩
   clear CT aB A m ad an aG;go_upto_region 3 with fail
   go_region_with (first
   |(go_at_call 81;refine((cO HA) _ (by assumption)).mono ?_;rintro e w1 ⟨rfl,⟨k0,k1⟩,ae⟩)
   |(go_at_call 94;refine((cO HB) _ (by assumption)).mono ?_;rintro e w2 ⟨rfl,HF⟩;refine jL prog w2 ⟨rfl,cO HF⟩ ?_))
   all_goals trivial
 .have HB:Hid (∀W,Hid (og w O v W D E S cX n cU Q1 R O1 v1 T w.heap.size X #[Z Y (step:Int),.slice p n cap,Z Y c.all] #[.string K,.string M,.string V])->TL prog 94 #[.pointer (some ⟨S,0,none⟩),.string N1,.string V] W λe w'=>e=.panicked (gD (eg Q1 g).1)/\Hid (P (.panicked (gD (eg Q1 g).1)) w')):=λW r=>(Ir (cO r) (cO ak W Q1 O1 v1 (cO r).sf (cO A)) z).mono λe w' ⟨he,j,l,s,h1,h2⟩=>⟨he,by
   show P _ _
   rw[<-cO hO,cO av,iE,cd z];exact⟨λh=>absurd h z,λ_=>rfl,j,l,s,λh=>absurd h z,h1,h2⟩⟩
  clear CT aa A m av ak aF;go_wp2_with fail
  go_region_with (first
  |(go_at_call 82;refine((cO HA) _ (by assumption)).mono ?_;rintro e w1 ⟨rfl,⟨k0,k1⟩,ae⟩)
  |(go_at_call 94;refine((cO HB) _ (by assumption)).mono ?_;rintro e w2 ⟨rfl,HF⟩;refine jL prog w2 ⟨rfl,cO HF⟩ ?_))
  all_goals trivial
end Ru
namespace Ru
open Go.RowKit
open Rd (Rk e0)
open Pk (jo Sm fy TP cZ cS cY)
open Dk (Kept)
structure nI (w0:TJ) (O0:Nat->Prop) (v0:TK) (w:TJ) (D E S cX n cU:Nat) (Q R:Rk) (O:Nat->Prop) (v:TK) (T:Sn.Tb):Prop where
 sf:ow w D E S cX n cU Q R O v T
 st:fy w0 (OO O0 S v0) w (OO O S v)
variable {n cX S cU E D:Nat}{R Q:Rk}{w w':TJ}{T:Sn.Tb}{v:TK}{O:Nat->Prop}
theorem nI.below{b:TJ}{O0:Nat->Prop}{v0:TK}(h:nI b O0 v0 w D E S cX n cU Q R O v T)(hb:TI w w'): nI b O0 v0 w' D E S cX n cU Q R O v T:=⟨h.sf.below hb,h.st.trans (fy.below _ hb)⟩
theorem nI.op{j:TJ}{O0 e:Nat->Prop}{v0:TK}{l:Rk}(h:nI j O0 v0 w D E S cX n cU Q R O v T)(h2:jo w' D E l R e)(m:fy w O w' e): nI j O0 v0 w' D E S cX n cU l R e v T:=by
 obtain⟨a,b⟩:=h.sf.op h2 m;exact⟨a,h.st.trans b⟩
theorem ow.forget{v':TK}{u:Sn.Tb}(h:ow w D E S cX n cU Q R O v T)(r:gF w' S D cX n cU v' u)(l:Kept w w' (λk=>¬qj S v k))(y:∀g,v'.ownBlock=some g->v.ownBlock=some g\/w.heap.size<=g): ow w' D E S cX n cU Q R O v' u/\fy w (OO O S v) w' (OO O S v'):=by
 have j:∀k,qj S v' k->qj S v k\/w.heap.size<=k:=λk b=>by
  rcases b with e|e
  .exact Or.inl (Or.inl e)
  .rcases y k e with q|q
   .exact Or.inl (Or.inr q)
   .exact Or.inr q
 have m:fy w (OO O S v) w' (OO O S v'):=⟨l.mono λk _ b z=>b (Or.inr z),λk b=>by
  rcases b with e|e
  .exact Or.inl (Or.inl e)
  .rcases j k e with e|e
   .exact Or.inl (Or.inr e)
   .exact Or.inr e⟩
 obtain⟨A,_,B⟩:=m.far h.pw.lt h.np;refine⟨⟨oO h.two l (λk b=>h.apart k b),r,λk b C=>?_,h.pw.keep A,B⟩,m⟩;rcases j k C with e|e
 .exact h.apart k b e
 .have:=h.two.lt b;omega
def yC(cU:Nat)(T:Sn.Tb):List Oq:=((T.map (·.1)).take (T.length-cU)).flatMap drop1++[nS]
theorem Jv{k:Nat}{x:Sn.Ce}(h:cU<((k,x)::T).length): yC cU ((k,x)::T)=m7 (nm 99 k)::m7 (nm 109 k)::m7 (nm 118 k)::yC cU T:=by
 unfold yC;rw[cD] at h ⊢;rw[show T.length+1-cU=(T.length-cU)+1 by omega,wj,Gk,Qj]
 rfl
theorem LA(h:T.length<=cU): yC cU T=[nS]:=by
 unfold yC;rw[show T.length-cU=0 by omega,List.take_zero];rfl
theorem Kg(h:cU<T.length): fE ((T.map (·.1)).take (T.length-cU))=yC cU T:=by
 unfold fE yC;rw[cd];intro e;have:=congrArg List.length e;rw[A3,rY] at this;simp at this;omega
def ln(S:Nat)(w:TJ):Nat:=match w.cell? ⟨S,4,none⟩ with
 |some (.slice _ n _)=>n
 |_=>0
theorem gF.ln(h:gF w S D cX n cU v T): ln S w=T.length:=by
 obtain⟨p,b,e,_⟩:=Rt.dM h.tab.row;unfold Ru.ln;rw[h.tab.cell,e]
theorem JM(D E S cX n cU nn b:Nat)(Q R:Rk)(O:Nat->Prop)(v:TK)(T:Sn.Tb)(w:TJ)(h:ow w D E S cX n cU Q R O v T)(hT:∀x∈T,x.1<=9999999999)(hp:gz Q (fE ((T.map (·.1)).take (T.length-cU))) nn b)(ad:nn<=1000000000)(hm:cU<=1000000000):TL prog 54 #[.pointer (some ⟨S,0,none⟩)] w (mK w D E S cX n cU R O v (λT'=>T'=T.drop (T.length-cU)) (eg Q (fE ((T.map (·.1)).take (T.length-cU))))):=by
 generalize hO:mK w D E S cX n cU R O v (λT'=>T'=T.drop (T.length-cU)) (eg Q (fE ((T.map (·.1)).take (T.length-cU))))=P;replace hO:=cP hO;have hl:=h.sh.tab.len;have c3:=h.sh.c3;have ae:Hid (∀(W:TJ) (v':TK) (T':Sn.Tb),gF W S D cX n cU v' T'->TL prog 87 #[.pointer (some ⟨S,4,none⟩)] W λe w'=>e=.returned (Z Y T'.length)/\w'=W):=λW v' T' h=>Rt.DN S 4 _ _ v' T' W h.tab
 have H:=cP h;have HP:=cP hp;have av:=cP hT;clear h hp hT;by_cases aK:T.length<=cU
 .have HF:Hid (P (.returned (.tuple #[])) w.drew):=by
   show P _ _
   rw[<-cO hO,show T.length-cU=0 by omega,List.take_zero];exact⟨λ_=>rfl,λh=>absurd rfl h,O,v,T,λ_=>rfl,(cO H).below TH.drew,fy.below _ TH.drew⟩
  have L:=cP (cO ae w.drew v T ((cO H).sh.below TH.drew));have af:(T.length:Int)<=(cU:Int):=by omega
  clear ae H HP av;go_enter func54,ntmps54;go_upto_region 0 with fail
  go_region_held3 (λw'=>w'.cell? ⟨S,3,none⟩=some (Z Y (cU:Int)))
   (first|(assumption)|(go_keep;done))
   (first|(go_at_call 87;refine(cO L).mono ?_;rintro e w1 ⟨rfl,X⟩;obtain rfl:=X.symm))
  all_goals
   go_wp2;exact cr (cu rfl _ _ _) rfl (cO HF)
 .have aF:cU<T.length:=by omega
  have af:¬(T.length:Int)<=(cU:Int):=by omega
  have L:=cP (cO ae w.drew v T ((cO H).sh.below TH.drew));have ao:Hid (nI w O v w.drew D E S cX n cU Q R O v T):=⟨(cO H).below TH.drew,fy.below _ TH.drew⟩
  have aw:=Kg aF;rw[aw] at HP hO;clear H aw;go_enter func54,ntmps54;go_upto_region 0 with fail
  go_region_held3 (λw'=>w'.cell? ⟨S,3,none⟩=some (Z Y (cU:Int)))
   (first|(assumption)|(go_keep;done))
   (first|(go_at_call 87;refine(cO L).mono ?_;rintro e w1 ⟨rfl,X⟩;obtain rfl:=X.symm))
  clear L c3;go_wp2_with fail
  go_loopw [2] (λ_ wr=>∃(M:Sn.Tb) (Q1:Rk) (O1:Nat->Prop) (v1:TK),(cU<=M.length/\M.length<=1000000000)/\ln S wr=M.length/\Hid (nI w O v wr D E S cX n cU Q1 R O1 v1 M/\eg Q (yC cU T)=eg Q1 (yC cU M)/\gz Q1 (yC cU M) nn b/\(∃A,T=A++M))) (λ_ wr=>ln S wr)
  case atStart=>exact⟨T,Q,O,v,⟨by omega,hl⟩,(cO ao).sf.sh.ln,cO ao,rfl,cO HP,[],rfl⟩
  case round =>
   clear ao HP;obtain⟨M,Q1,O1,v1,⟨aG,aH⟩,ax,HI⟩:=hrel;have ay:=cP ax;clear ax;have c3:=(cO HI).1.sf.sh.c3;have L:=cP (cO ae wr.drew v1 M ((cO HI).1.sf.sh.below TH.drew));by_cases t:cU<M.length
   .have af:(cU:Int)<(M.length:Int):=by omega
    have N:Hid (nI w O v wr.drew D E S cX n cU Q1 R O1 v1 M):=(cO HI).1.below TH.drew;go_upto_region 1 with fail
    go_region_held3 (λw'=>w'.cell? ⟨S,3,none⟩=some (Z Y (cU:Int)))
     (first|(assumption)|(go_keep;done))
     (first|(go_at_call 87;refine(cO L).mono ?_;rintro e w1 ⟨rfl,X⟩;obtain rfl:=X.symm))
    clear L c3;cases M with
    |nil=>exact absurd t (by simp)
    |cons kx y =>
     obtain⟨k,x⟩:=kx;obtain⟨_,s,p,A,hA⟩:=cO HI;rw[Jv t] at s p;have hk:k<=9999999999:=(cO av) (k,x) (by rw[hA];exact cJ.2 (Or.inr mz))
     have az:=cP (vE S D cX n cU v1 y k x wr.drew (cO N).sf.sh);have aI:Hid (∃A,T=A++y):=⟨A++[(k,x)],by rw[hA,mR];rfl⟩
     rw[cD] at t aH aG af ay;have m:=cP s;have r:=cP p;have ag:Hid (∀W,gh W->TL prog 79 #[Z Y (k:Int)] W λe w'=>e=.returned (.string (nm 99 k))/\TI W w'):=λW h=>kO k W hk h
     have ah:Hid (∀W,gh W->TL prog 81 #[Z Y (k:Int)] W λe w'=>e=.returned (.string (nm 109 k))/\TI W w'):=λW h=>iX k W hk h
     have ai:Hid (∀W,gh W->TL prog 82 #[Z Y (k:Int)] W λe w'=>e=.returned (.string (nm 118 k))/\TI W w'):=λW h=>kP k W hk h
     have aA:=ng 99 hk;have aB:=ng 109 hk;have aC:=ng 118 hk;generalize nm 99 k=N1 at m r ag aA;generalize nm 109 k=o at m r ah aB;generalize nm 118 k=U at m r ai aC;clear s p hA HI;go_wp2_with fail;refine(cO az).mono ?_;rintro e w2 ⟨rfl,F,ak,an,aD⟩;obtain⟨f1,f2⟩:=(cO N).sf.forget ak an aD;obtain⟨g,aq⟩:∃q,Q1=q:=⟨_,rfl⟩
     obtain⟨O2,aE⟩:∃q,O1=q:=⟨_,rfl⟩
     have J:Hid (nI w O v w2 D E S cX n cU g R O2 F y):=by show nI _ _ _ _ _ _ _ _ _ _ _ _ _ _ _;rw[<-aq,<-aE];exact⟨f1,(cO N).st.trans f2⟩
     rw[aq] at m r;clear ak an aD f1 f2 az N aq aE;have s0:=(cO J).sf.sh.c0;have hd:Hid (nI w O v w2.drew D E S cX n cU g R O2 F y):=(cO J).below TH.drew;have HA:Hid (∀W,Hid (nI w O v W D E S cX n cU g R O2 F y)->TL prog 79 #[Z Y (k:Int)] W λe w'=>e=.returned (.string N1)/\(w'.cell? ⟨S,0,none⟩=some (.pointer (some ⟨D,0,none⟩)))/\Hid (nI w O v w' D E S cX n cU g R O2 F y)):=λW G=>(cO ag W (cO G).sf.pw).mono λe w' ⟨he,hb⟩=>⟨he,((cO G).below hb).sf.sh.c0,(cO G).below hb⟩
     have B:Hid (∀W,Hid (nI w O v W D E S cX n cU g R O2 F y)->TL prog 91 #[.pointer (some ⟨D,0,none⟩),.string N1] W λe w'=>e=.returned (Z Y (g.remove N1).1)/\(w'.cell? ⟨S,0,none⟩=some (.pointer (some ⟨D,0,none⟩)))/\∃C,Hid (nI w O v w' D E S cX n cU (g.remove N1).2 R C F y)):=λW G=>(Pk.qY N1 (cO G).sf.two (cO r).head ad aA).mono λe w' ⟨he,C,h2,hs⟩=>⟨he,((cO G).op h2 hs).sf.sh.c0,C,(cO G).op h2 hs⟩
     have l:Hid (dz g (m7 N1)=g.remove N1):=rfl;obtain⟨er,j⟩:∃x,Hid ((g.remove N1).1=x):=⟨_,rfl⟩
     rw[cO j] at B;by_cases K:er=0
     .subst K;have u:Hid (eg Q (yC cU T)=eg (g.remove N1).2 (m7 o::m7 U::yC cU y)):=by show _=_;rw[cO m,oR (by rw[cO l];exact cO j),cO l]
      have I:Hid (gz (g.remove N1).2 (m7 o::m7 U::yC cU y) nn b):=(cO r).tail (by rw[cO l];exact cO j);clear r J m ag j l;go_upto_region 3 with fail
      go_region_held3 (λw'=>w'.cell? ⟨S,0,none⟩=some (.pointer (some ⟨D,0,none⟩)))
       (first|(assumption)|(go_keep;done))
       (first
        |(go_at_call 79;refine((cO HA) _ (by assumption)).mono ?_;rintro e wa ⟨rfl,ka,V⟩)
        |(go_at_call 91;refine((cO B) _ (by assumption)).mono ?_;rintro e w3 ⟨rfl,y0,O3,J⟩)
        |(go_at_call 89;refine(iY _).mono ?_;rintro e wm ⟨rfl,z⟩;obtain rfl:=z.symm))
      clear s0 hd HA B ka V y0;obtain⟨Q3,HQ⟩:∃q,Hid ((g.remove N1).2=q):=⟨_,rfl⟩
      rw[cO HQ] at J u I;clear HQ;have m:=u;have r:=I;clear u I;have s0:=(cO J).sf.sh.c0;have hd:Hid (nI w O v w3.drew D E S cX n cU Q3 R O3 F y):=(cO J).below TH.drew;have HA:Hid (∀W,Hid (nI w O v W D E S cX n cU Q3 R O3 F y)->TL prog 81 #[Z Y (k:Int)] W λe w'=>e=.returned (.string o)/\(w'.cell? ⟨S,0,none⟩=some (.pointer (some ⟨D,0,none⟩)))/\Hid (nI w O v w' D E S cX n cU Q3 R O3 F y)):=λW G=>(cO ah W (cO G).sf.pw).mono λe w' ⟨he,hb⟩=>⟨he,((cO G).below hb).sf.sh.c0,(cO G).below hb⟩
      have B:Hid (∀W,Hid (nI w O v W D E S cX n cU Q3 R O3 F y)->TL prog 91 #[.pointer (some ⟨D,0,none⟩),.string o] W λe w'=>e=.returned (Z Y (Q3.remove o).1)/\(w'.cell? ⟨S,0,none⟩=some (.pointer (some ⟨D,0,none⟩)))/\∃C,Hid (nI w O v w' D E S cX n cU (Q3.remove o).2 R C F y)):=λW G=>(Pk.qY o (cO G).sf.two (cO r).head ad aB).mono λe w' ⟨he,C,h2,hs⟩=>⟨he,((cO G).op h2 hs).sf.sh.c0,C,(cO G).op h2 hs⟩
      have l:Hid (dz Q3 (m7 o)=Q3.remove o):=rfl;obtain⟨er,j⟩:∃x,Hid ((Q3.remove o).1=x):=⟨_,rfl⟩
      rw[cO j] at B;by_cases K:er=0
      .subst K;have u:Hid (eg Q (yC cU T)=eg (Q3.remove o).2 (m7 U::yC cU y)):=by show _=_;rw[cO m,oR (by rw[cO l];exact cO j),cO l]
       have I:Hid (gz (Q3.remove o).2 (m7 U::yC cU y) nn b):=(cO r).tail (by rw[cO l];exact cO j);clear r J m ah j l;go_upto_region 4 with fail
       go_region_held3 (λw'=>w'.cell? ⟨S,0,none⟩=some (.pointer (some ⟨D,0,none⟩)))
        (first|(assumption)|(go_keep;done))
        (first
         |(go_at_call 81;refine((cO HA) _ (by assumption)).mono ?_;rintro e wa ⟨rfl,ka,V⟩)
         |(go_at_call 91;refine((cO B) _ (by assumption)).mono ?_;rintro e w4 ⟨rfl,y0,O4,J⟩)
         |(go_at_call 89;refine(iY _).mono ?_;rintro e wm ⟨rfl,z⟩;obtain rfl:=z.symm))
       clear s0 hd HA B ka V y0;obtain⟨Q4,HQ⟩:∃q,Hid ((Q3.remove o).2=q):=⟨_,rfl⟩
       rw[cO HQ] at J u I;clear HQ;have m:=u;have r:=I;clear u I;have s0:=(cO J).sf.sh.c0;have hd:Hid (nI w O v w4.drew D E S cX n cU Q4 R O4 F y):=(cO J).below TH.drew;have HA:Hid (∀W,Hid (nI w O v W D E S cX n cU Q4 R O4 F y)->TL prog 82 #[Z Y (k:Int)] W λe w'=>e=.returned (.string U)/\(w'.cell? ⟨S,0,none⟩=some (.pointer (some ⟨D,0,none⟩)))/\Hid (nI w O v w' D E S cX n cU Q4 R O4 F y)):=λW G=>(cO ai W (cO G).sf.pw).mono λe w' ⟨he,hb⟩=>⟨he,((cO G).below hb).sf.sh.c0,(cO G).below hb⟩
       have B:Hid (∀W,Hid (nI w O v W D E S cX n cU Q4 R O4 F y)->TL prog 91 #[.pointer (some ⟨D,0,none⟩),.string U] W λe w'=>e=.returned (Z Y (Q4.remove U).1)/\(w'.cell? ⟨S,0,none⟩=some (.pointer (some ⟨D,0,none⟩)))/\∃C,Hid (nI w O v w' D E S cX n cU (Q4.remove U).2 R C F y)):=λW G=>(Pk.qY U (cO G).sf.two (cO r).head ad aC).mono λe w' ⟨he,C,h2,hs⟩=>⟨he,((cO G).op h2 hs).sf.sh.c0,C,(cO G).op h2 hs⟩
       have l:Hid (dz Q4 (m7 U)=Q4.remove U):=rfl;obtain⟨er,j⟩:∃x,Hid ((Q4.remove U).1=x):=⟨_,rfl⟩
       rw[cO j] at B;by_cases K:er=0
       .subst K;have u:Hid (eg Q (yC cU T)=eg (Q4.remove U).2 (yC cU y)):=by show _=_;rw[cO m,oR (by rw[cO l];exact cO j),cO l]
        have I:Hid (gz (Q4.remove U).2 (yC cU y) nn b):=(cO r).tail (by rw[cO l];exact cO j);clear r J m ai j l;go_upto_region 5 with fail
        go_region_held3 (λw'=>w'.cell? ⟨S,0,none⟩=some (.pointer (some ⟨D,0,none⟩)))
         (first|(assumption)|(go_keep;done))
         (first
          |(go_at_call 82;refine((cO HA) _ (by assumption)).mono ?_;rintro e wa ⟨rfl,ka,V⟩)
          |(go_at_call 91;refine((cO B) _ (by assumption)).mono ?_;rintro e w5 ⟨rfl,y0,O5,J⟩)
          |(go_at_call 89;refine(iY _).mono ?_;rintro e wm ⟨rfl,z⟩;obtain rfl:=z.symm))
        clear s0 hd HA B ka V y0;obtain⟨Q5,HQ⟩:∃q,Hid ((Q4.remove U).2=q):=⟨_,rfl⟩
        rw[cO HQ] at J u I;clear HQ;have m:=u;have r:=I;clear u I;go_wp2;go_roundw
        case rel=>exact⟨y,Q5,O5,F,⟨by omega,by omega⟩,(cO J).sf.sh.ln,cO J,cO m,cO r,cO aI⟩
        case measure =>
         have h1:=cO ay;have h2:=(cO J).sf.sh.ln
         show ln S _<ln S _
         omega
       .have HF:Hid (∀w' C,nI w O v w' D E S cX n cU (Q4.remove U).2 R C F y->P (.panicked (gD er)) w'):=by
         show ∀w' C,_
         intro w' C h;have aa:(dz Q4 (m7 U)).1≠0:=by rw[cO l,cO j];exact K
         rw[<-cO hO,cO m,qm aa,cO l];exact⟨λh=>absurd ((cO j).symm.trans h) K,λ_=>by rw[cO j],C,F,y,λh=>absurd ((cO j).symm.trans h) K,h.sf,h.st⟩
        clear r J m ai j l;go_upto_region 5 with fail
        go_region_with (first
        |(go_at_call 82;refine((cO HA) _ (by assumption)).mono ?_;rintro e wa ⟨rfl,ka,V⟩)
        |(go_at_call 91;refine((cO B) _ (by assumption)).mono ?_;rintro e w5 ⟨rfl,y0,O5,ab⟩)
        |(go_at_call 89;refine(jD er K _).mono ?_;rintro e wm ⟨rfl,z⟩;obtain rfl:=z.symm;refine jL prog w5 ⟨rfl,cO HF _ _ (cO ab)⟩ ?_))
        all_goals trivial
      .have HF:Hid (∀w' C,nI w O v w' D E S cX n cU (Q3.remove o).2 R C F y->P (.panicked (gD er)) w'):=by
        show ∀w' C,_
        intro w' C h;have aa:(dz Q3 (m7 o)).1≠0:=by rw[cO l,cO j];exact K
        rw[<-cO hO,cO m,qm aa,cO l];exact⟨λh=>absurd ((cO j).symm.trans h) K,λ_=>by rw[cO j],C,F,y,λh=>absurd ((cO j).symm.trans h) K,h.sf,h.st⟩
       clear r J m ah j l;go_upto_region 4 with fail
       go_region_with (first
       |(go_at_call 81;refine((cO HA) _ (by assumption)).mono ?_;rintro e wa ⟨rfl,ka,V⟩)
       |(go_at_call 91;refine((cO B) _ (by assumption)).mono ?_;rintro e w4 ⟨rfl,y0,O4,ab⟩)
       |(go_at_call 89;refine(jD er K _).mono ?_;rintro e wm ⟨rfl,z⟩;obtain rfl:=z.symm;refine jL prog w4 ⟨rfl,cO HF _ _ (cO ab)⟩ ?_))
       all_goals trivial
     .have HF:Hid (∀w' C,nI w O v w' D E S cX n cU (g.remove N1).2 R C F y->P (.panicked (gD er)) w'):=by
       show ∀w' C,_
       intro w' C h;have aa:(dz g (m7 N1)).1≠0:=by rw[cO l,cO j];exact K
       rw[<-cO hO,cO m,qm aa,cO l];exact⟨λh=>absurd ((cO j).symm.trans h) K,λ_=>by rw[cO j],C,F,y,λh=>absurd ((cO j).symm.trans h) K,h.sf,h.st⟩
      clear r J m ag j l;go_upto_region 3 with fail
      go_region_with (first
      |(go_at_call 79;refine((cO HA) _ (by assumption)).mono ?_;rintro e wa ⟨rfl,ka,V⟩)
      |(go_at_call 91;refine((cO B) _ (by assumption)).mono ?_;rintro e w3 ⟨rfl,y0,O3,ab⟩)
      |(go_at_call 89;refine(jD er K _).mono ?_;rintro e wm ⟨rfl,z⟩;obtain rfl:=z.symm;refine jL prog w3 ⟨rfl,cO HF _ _ (cO ab)⟩ ?_))
      all_goals trivial
   .have af:¬(cU:Int)<(M.length:Int):=by omega
    obtain⟨hj,s,p,A,hA⟩:=cO HI;rw[LA (cU:=cU) (T:=M) (by omega)] at s p;have N:Hid (nI w O v wr.drew D E S cX n cU Q1 R O1 v1 M):=hj.below TH.drew;have aJ:Hid (T.drop (T.length-cU)=M):=by
     show _=_
     rw[hA,lN,show A.length+M.length-cU=A.length by omega,List.drop_left]
    have ar:=cP (Pk.sN (cO N).sf.two p.head ad);have l:Hid (dz Q1 nS=Q1.eY):=rfl;obtain⟨e5,aj⟩:∃x,Hid (Q1.eY.1=x):=⟨_,rfl⟩
    rw[cO aj] at ar;have m:=cP s;have s0:=(cO N).sf.sh.c0;clear s p hA hj HI;go_upto_region 1 with fail
    go_region_held3 (λw'=>w'.cell? ⟨S,3,none⟩=some (Z Y (cU:Int)))
     (first|(assumption)|(go_keep;done))
     (first|(go_at_call 87;refine(cO L).mono ?_;rintro e w1 ⟨rfl,X⟩;obtain rfl:=X.symm))
    clear L c3;go_wp2_with fail;refine(cO ar).mono ?_;rintro e w6 ⟨rfl,O6,t6,s6⟩;have au:=cP ((cO N).op t6 s6);have HF:Hid (∀en,(e5=0->en=.returned (.tuple #[]))->(e5≠0->en=.panicked (gD e5))->P en w6):=by
     show ∀en,_
     intro en k1 k2;rw[<-cO hO,cO m,pt,cO l];exact⟨λh=>k1 ((cO aj).symm.trans h),λh=>by rw[cO aj];exact k2 (λq=>h ((cO aj).trans q)),O6,v1,M,λ_=>(cO aJ).symm,(cO au).sf,(cO au).st⟩
    clear ar t6 s6 s0 N m au;by_cases K:e5=0
    .subst K;go_wp2_with fail;refine(iY w6).mono ?_;rintro e wm ⟨rfl,z⟩;obtain rfl:=z.symm;go_wp2;exact cw (cu rfl _ _ _) rfl (cO HF _ (λ_=>rfl) (λh=>absurd rfl h))
    .go_wp2_with fail;refine(jD e5 K w6).mono ?_;rintro e wm ⟨rfl,z⟩;obtain rfl:=z.symm;exact⟨rfl,cO HF _ (λh=>absurd h K) (λ_=>rfl)⟩
end Ru
end Go.Proofs.YtgkkdpegcieakaaGreatDoor
