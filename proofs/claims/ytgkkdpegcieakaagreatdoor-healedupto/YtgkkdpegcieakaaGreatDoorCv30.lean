import Derived.Test.YtgkkdpegcieakaaGreatDoorCv29
import Derived.Test.YtgkkdpegcieakaaGreatDoorCv28
set_option linter.all false
set_option maxRecDepth 100000
set_option maxHeartbeats 0
namespace Go.Proofs.YtgkkdpegcieakaaGreatDoor
open Go.Proofs.Tryz
open Value renaming int→Z,slice→J,string→H,pointer→V9,tuple→Wb,agg→Wc
open Ending renaming returned→Wd
open Obj renaming cells→D
open Option renaming none→U,some→S
open Bool renaming true→We,false→Wg
open Or renaming inl→Wh,inr→Wi
open List renaming length→Wn
open _root_.Array renaming size→N
open World renaming cell?→Wj,alloc→Wl,heap→E
open IntKind renaming i64→Y
open Go renaming World→V5,Value→V6,Calls→V7
open Go.RowKit
namespace Ru
open Sp (dt gW)
open Rd (Rk e0)
open Pk (jd Sm fx TP di cX dh)
open Dk (Kept)
variable {R Q:Rk}{w w':V5}
theorem oY{b E:Nat}{O m:Nat->Prop}(h:jd w b E Q R O)(r:Kept w w' m)(u:∀k,O k->m k): jd w' b E Q R O:=by
 obtain⟨d,j,y,z,A,C,F,G,I,l⟩:=h;exact⟨d,j,y,z,A,C.kept r (λk e=>u k ((l k).2 (Wh e))),F,Pk.Gj.kept G r (λk e=>u k ((l k).2 (Wi e))),I,l⟩
structure nJ (w0:V5) (O0:Nat->Prop) (v0:V6) (w:V5) (D E S dd n cY:Nat) (Q R:Rk) (O:Nat->Prop) (v:V6) (T:Sn.Tb) (B X:Nat) (bc xc:Array V6):Prop where
 sf:ot w D E S dd n cY Q R O v T
 bb:w.heap[B]?=some (.cells bc 80 (0,0))
 xb:w.heap[X]?=some (.cells xc 176 (0,0))
 nb:¬OO O S v B
 nx:¬OO O S v X
 st:fx w0 (OO O0 S v0) w (OO O S v)
variable {w0:V5}{bc xc:Array V6}{O0:Nat->Prop}{T:Sn.Tb}{dd cY n X B:Nat}{v v0:V6}
theorem nJ.below{O:Nat->Prop}{b E e:Nat}(h:nJ w0 O0 v0 w b E e dd n cY Q R O v T B X bc xc)(hb:V4 w w'): nJ w0 O0 v0 w' b E e dd n cY Q R O v T B X bc xc:=⟨h.sf.below hb,(hb.block _ (cX h.bb)).trans h.bb,(hb.block _ (cX h.xb)).trans h.xb,h.nb,h.nx,h.st.trans (fx.below _ hb)⟩
theorem nJ.next{O j:Nat->Prop}{v':V6}{b E e:Nat}{m:Rk}{r:Sn.Tb}(h:nJ w0 O0 v0 w b E e dd n cY Q R O v T B X bc xc)(u:ot w' b E e dd n cY m R j v' r)(l:fx w (OO O e v) w' (OO j e v')): nJ w0 O0 v0 w' b E e dd n cY m R j v' r B X bc xc:=by
 obtain⟨y,_,z⟩:=l.far (cX h.bb) h.nb;obtain⟨A,_,C⟩:=l.far (cX h.xb) h.nx;exact⟨u,y.trans h.bb,A.trans h.xb,z,C,h.st.trans l⟩
theorem nJ.op{O l:Nat->Prop}{e E j:Nat}{m:Rk}(h:nJ w0 O0 v0 w e E j dd n cY Q R O v T B X bc xc)(h2:jd w' e E m R l)(r:fx w O w' l): nJ w0 O0 v0 w' e E j dd n cY m R l v T B X bc xc:=by
 obtain⟨a,b⟩:=h.sf.op h2 r;exact h.next a b
theorem ot.add{b E l:Nat}{O:Nat->Prop}{v':V6}{z:Sn.Tb}(h:ot w b E l dd n cY Q R O v T)(A:Rt.dO w w' l 4 (LH b dd n cY v) 113 v v' z)(G:Sn.dj z)(I:Wn z<=1000000000): ot w' b E l dd n cY Q R O v' z/\fx w (OO O l v) w' (OO O l v'):=by
 have C:=h.sh.new A G I;have u:Kept w w' (λk=>¬qH l v k):=A.kept.mono λj _ F=>⟨λe=>F (Wh e),λe=>F (Wi e)⟩
 have r:∀k,qH l v' k->qH l v k\/w.heap.size<=k:=λk m=>by
  rcases m with e|e
  .exact Wh (Wh e)
  .rcases A.new with q|⟨g,q,V⟩
   .rw[q] at e;exact Wh (Wi e)
   .rw[q] at e;have:g=k:=TG e;exact Wi (by omega)
 have y:fx w (OO O l v) w' (OO O l v'):=⟨u.mono λk _ m K=>m (Wi K),λk m=>by
  rcases m with e|e
  .exact Wh (Wh e)
  .rcases r k e with e|e
   .exact Wh (Wi e)
   .exact Wi e⟩
 obtain⟨L,_,M⟩:=y.far h.pw.lt h.np;refine⟨⟨oY h.two u (λk m=>h.apart k m),C,λk m P=>?_,h.pw.keep L,M⟩,y⟩;rcases r k P with e|e
 .exact h.apart k m e
 .have:=h.two.lt m;omega
theorem JC{W:V5}{O:Nat->Prop}{b E j:Nat}{f:Nat}{args:Array V6}{r:Int × Rk}(A:nJ w0 O0 v0 W b E j dd n cY Q R O v T B X bc xc)(C:V7 prog f args W (mS W b E j dd n cY R O v (λl=>l=T) r))(z:r.1=0):V7 prog f args W λe w'=>e=Wd (Wb #[])/\∃m u,nJ w0 O0 v0 w' b E j dd n cY r.2 R m u T B X bc xc:=by
 refine C.mono ?_;rintro e w' ⟨F,_,m,u,l,G,I,K⟩;have y:l=T:=G z;subst y;exact⟨F z,m,u,A.next I K⟩
theorem Jj{W:V5}{O:Nat->Prop}{b E j:Nat}{f:Nat}{args:Array V6}{r:Int × Rk}{G:Sn.Tb->Prop}(y:nJ w0 O0 v0 W b E j dd n cY Q R O v T B X bc xc)(z:V7 prog f args W (mS W b E j dd n cY R O v G r))(A:r.1≠0):V7 prog f args W λe w'=>e=.panicked (gE r.1)/\∃l m u,ot w' b E j dd n cY r.2 R l m u/\fx w0 (OO O0 j v0) w' (OO l j m):=by
 refine z.mono ?_;rintro e w' ⟨_,C,l,m,u,K,F,I⟩;exact⟨C A,l,m,u,F,y.st.trans I⟩
theorem ny(c:UInt8){step:Nat}(h:step<=9999999999):(nm c step).size<=1048576:=by
 have:=AO step h;rw[jU];omega
theorem Jy(j E l dd n cY nn b step:Nat)(Q R:Rk)(O:Nat->Prop)(v:V6)(T:Sn.Tb)(p:Option Addr)(cap:Nat)(c:Sp.Cfg)(w:V5)(h:ot w j E l dd n cY Q R O v T)(hv:kA w p c n)(hn:n<=64)(bp:0<n)(hj:dd<4294967296)(hs:step<=9999999999)(hp:gA Q (eM c n step dd) nn b)(aA:nn<=1000000000)(hb:b<=2097152)(hT:Wn T<1000000000):V7 prog 53 #[V9 (S ⟨l,0,U⟩),gz step p n cap c.all] w (mS w j E l dd n cY R O v (λT'=>T'=if Sn.dD T step=We then T else Sn.gJ T step ⟨p,n,cap,c.all⟩) (ep Q (eM c n step dd))):=by
 generalize hO:mS w j E l dd n cY R O v (λT'=>T'=if Sn.dD T step=We then T else Sn.gJ T step ⟨p,n,cap,c.all⟩) (ep Q (eM c n step dd))=P;replace hO:=cU hO;have m:=cU h;have ay:Hid (∀W,V4 w W->V7 prog 93 #[Wc #[Z .u32 dd,Z Y n],Wc #[Z Y (step:Int),J p n cap,Z Y c.all]] W λe w'=>e=Wd (Wc (EV step c.all dd c n step))/\V4 W w'):=λW A=>uU dd n step p n cap c W (hv.below A) hn bp hj hs
 obtain⟨o1,aN⟩:∃o,Hid (eR (nm 118 step) (vB c n)=o):=⟨_,rfl⟩
 obtain⟨o2,aO⟩:∃o,Hid (eR (nm 109 step) (mB c n)=o):=⟨_,rfl⟩
 obtain⟨o3,aP⟩:∃o,Hid (eR tN (kB step c.all dd (gW (dt (vB c n))) (gW (dt (mB c n))))=o):=⟨_,rfl⟩
 have aV:eM c n step dd=o1++(o2++(o3++[⟨4,tN,nm 99 step⟩,n9])):=by
  unfold eM;rw[cT aN,cT aO,cT aP];simp only[T4]
 rw[aV] at hp hO;have aW:=hp.fst;have aX:=cU aW;have ad:=cU hp;have sV:(dt (vB c n)).size<=1048576:=by rw[Sp.eB,fA];omega
 have sM:(dt (mB c n)).size<=1048576:=by rw[Sp.eB,ga];omega
 have sK:(dt (kB step c.all dd (gW (dt (vB c n))) (gW (dt (mB c n))))).size<=1048576:=by rw[Sp.eB,lX];decide
 have ao:Hid (∀(W:V5) (L:Rk) (r:Nat->Prop) (u:V6),ot W j E l dd n cY L R r u T->gA L o1 nn b->V7 prog 94 #[V9 (S ⟨l,0,U⟩),H (nm 118 step),H (dt (vB c n))] W (mS W j E l dd n cY R r u (λT'=>T'=T) (ep L o1))):=λW L r u h1 h2=>by
  have:=tf j E l dd n cY nn b L R r u T (nm 118 step) (vB c n) W h1 (by rw[cT aN];exact h2) aA hb (ny _ hs) sV;rw[cT aN] at this;exact this
 have aq:Hid (∀(W:V5) (L:Rk) (r:Nat->Prop) (u:V6),ot W j E l dd n cY L R r u T->gA L o2 nn b->V7 prog 94 #[V9 (S ⟨l,0,U⟩),H (nm 109 step),H (dt (mB c n))] W (mS W j E l dd n cY R r u (λT'=>T'=T) (ep L o2))):=λW L r u h1 h2=>by
  have:=tf j E l dd n cY nn b L R r u T (nm 109 step) (mB c n) W h1 (by rw[cT aO];exact h2) aA hb (ny _ hs) sM;rw[cT aO] at this;exact this
 have az:Hid (∀(W:V5) (L:Rk) (r:Nat->Prop) (u:V6),ot W j E l dd n cY L R r u T->gA L o3 nn b->V7 prog 94 #[V9 (S ⟨l,0,U⟩),H ⟨#[116]⟩,H (dt (kB step c.all dd (gW (dt (vB c n))) (gW (dt (mB c n)))))] W (mS W j E l dd n cY R r u (λT'=>T'=T) (ep L o3))):=λW L r u h1 h2=>by
  have:=tf j E l dd n cY nn b L R r u T tN (kB step c.all dd (gW (dt (vB c n))) (gW (dt (mB c n)))) W h1 (by rw[cT aP];exact h2) aA hb (by decide) sK;rw[cT aP] at this;exact this
 unfold EV at ay;obtain⟨V,HV⟩:∃x,Hid (dt (vB c n)=x):=⟨_,rfl⟩
 obtain⟨M,HM⟩:∃x,Hid (dt (mB c n)=x):=⟨_,rfl⟩
 obtain⟨K,HK⟩:∃x,Hid (dt (kB step c.all dd (gW (dt (vB c n))) (gW (dt (mB c n))))=x):=⟨_,rfl⟩
 rw[cT HK,cT HM,cT HV] at ay;rw[cT HV] at ao;rw[cT HM] at aq;rw[cT HK] at az;obtain⟨N1,aY⟩:∃x,Hid (nm 118 step=x):=⟨_,rfl⟩
 obtain⟨N2,aZ⟩:∃x,Hid (nm 109 step=x):=⟨_,rfl⟩
 obtain⟨t,aQ⟩:∃x,Hid (nm 99 step=x):=⟨_,rfl⟩
 rw[cT aY] at ao;rw[cT aZ] at aq;rw[cT aQ] at hO ad;have zN:t.size<=1048576:=by rw[<-cT aQ];exact ny _ hs
 have aH:Hid (∀W,fN W->V7 prog 82 #[Z Y (step:Int)] W λe w'=>e=Wd (H N1)/\V4 W w'):=λW h=>by rw[<-cT aY];exact kO step W hs h
 have aI:Hid (∀W,fN W->V7 prog 81 #[Z Y (step:Int)] W λe w'=>e=Wd (H N2)/\V4 W w'):=λW h=>by rw[<-cT aZ];exact iS step W hs h
 have aJ:Hid (∀W,fN W->V7 prog 79 #[Z Y (step:Int)] W λe w'=>e=Wd (H t)/\V4 W w'):=λW h=>by rw[<-cT aQ];exact kL step W hs h
 have a1:Hid (∀W,W=w.alloc (D #[Z Y (step:Int),J p n cap,Z Y c.all] 80)->W.heap[w.heap.size]?=S (D #[Z Y (step:Int),J p n cap,Z Y c.all] 80 (0,0))/\V4 w W):=by
  show ∀W,_
  rintro W rfl;exact⟨Tk w _,(Th _ w).alloc V2 _⟩
 clear h hv hp aW aV sV sM sK;unfold gz;go_enter func53,ntmps53;go_upto_region 1 with fail;generalize A:Wl _ _=C;obtain⟨g,aa⟩:=cT a1 C A.symm;clear A a1
 go_cut [3,4] from 2 (λy x wx=>∃X,y=V9 (S ⟨w.heap.size,0,U⟩)/\x=V9 (S ⟨X,0,U⟩)/\Hid (nJ w O v wx j E l dd n cY Q R O v T w.heap.size X #[Z Y (step:Int),J p n cap,Z Y c.all] #[H K,H M,H V]))
 case first =>
  have aw:=(cT m).sh.below aa;have j1:=aw.c1;have j2:=aw.c2;have b0:C.cell? ⟨w.heap.size,0,U⟩=S (Z Y (step:Int)):=by rw[Ti C _ 0 _ _ _ g];rfl
  have b1:C.cell? ⟨w.heap.size,1,U⟩=S (J p n cap):=by rw[Ti C _ 1 _ _ _ g];rfl
  have b2:C.cell? ⟨w.heap.size,2,U⟩=S (Z Y c.all):=by rw[Ti C _ 2 _ _ _ g];rfl
  have bA:l<C.heap.size:=aw.lt;have bq:w.heap.size<C.heap.size:=cX g;have br:Hid (∀W,W=C.drew->V7 prog 93 #[Wc #[Z .u32 dd,Z Y n],Wc #[Z Y (step:Int),J p n cap,Z Y c.all]] W λe w'=>e=Wd (Wc #[H K,H M,H V])/\Hid (nJ w O v (w'.alloc (D #[H K,H M,H V] 176)) j E l dd n cY Q R O v T w.heap.size w'.heap.size #[Z Y (step:Int),J p n cap,Z Y c.all] #[H K,H M,H V])):=by
   show ∀W,_
   rintro W rfl;refine(cT ay _ aa.drew).mono ?_;rintro e w' ⟨rfl,hb⟩;refine⟨rfl,?_⟩;have hB:V4 w w':=aa.drew.trans (hb.mono aa.drew.size);have hA:V4 w' (w'.alloc (D #[H K,H M,H V] 176)):=V3.alloc V2 _;have a6:=hB.trans (hA.mono hB.size)
   show nJ _ _ _ _ _ _ _ _ _ _ _ _ _ _ _ _ _ _ _
   refine⟨(cT m).below a6,?_,Tk w' _,λhq=>?_,λhq=>?_,fx.below _ a6⟩
   .rw[hA.block _ (by have:=hb.size;have:=cX g;exact TI this ‹_›),hb.block _ (cX g)];exact g
   .have:=(cT m).lt hq;omega
   .have:=(cT m).lt hq;have:=hB.size;omega
  have bs:Hid (∀W,W=(C.alloc (D #[H ⟨#[]⟩,H ⟨#[]⟩,H ⟨#[]⟩] 176)).drew->V7 prog 93 #[Wc #[Z .u32 dd,Z Y n],Wc #[Z Y (step:Int),J p n cap,Z Y c.all]] W λe w'=>e=Wd (Wc #[H K,H M,H V])/\(w'.cell? ⟨C.heap.size,0,U⟩=S (H ⟨#[]⟩)/\w'.cell? ⟨C.heap.size,1,U⟩=S (H ⟨#[]⟩)/\w'.cell? ⟨C.heap.size,2,U⟩=S (H ⟨#[]⟩))/\(w'.frozen? ⟨C.heap.size,0,U⟩=Wg/\w'.frozen? ⟨C.heap.size,1,U⟩=Wg/\w'.frozen? ⟨C.heap.size,2,U⟩=Wg)/\Hid (nJ w O v (((w'.setCell ⟨C.heap.size,0,U⟩ (H K)).setCell ⟨C.heap.size,1,U⟩ (H M)).setCell ⟨C.heap.size,2,U⟩ (H V)) j E l dd n cY Q R O v T w.heap.size C.heap.size #[Z Y (step:Int),J p n cap,Z Y c.all] #[H K,H M,H V])):=by
   show ∀W,_
   intro W A;have aB:V4 C W:=by rw[A];exact(V3.alloc V2 _).drew
   have a7:W.heap[C.heap.size]?=S (D #[H ⟨#[]⟩,H ⟨#[]⟩,H ⟨#[]⟩] 176 (0,0)):=by rw[A];exact Tk C _
   clear A;have aR:=aa.trans (aB.mono aa.size);refine(cT ay _ aR).mono ?_;rintro e w' ⟨rfl,hb⟩;have ar:=(hb.block _ (cX a7)).trans a7;have hB:V4 w w':=aR.trans (hb.mono aR.size);refine⟨rfl,⟨by rw[Ti w' _ 0 _ _ _ ar];rfl,by rw[Ti w' _ 1 _ _ _ ar];rfl,by rw[Ti w' _ 2 _ _ _ ar];rfl⟩,⟨by simp[World.frozen?,ar],by simp[World.frozen?,ar],by simp[World.frozen?,ar]⟩,?_⟩
   show nJ _ _ _ _ _ _ _ _ _ _ _ _ _ _ _ _ _ _ _
   have bu:V4 C w':=aB.trans (hb.mono aB.size);have a8:V4 C (((w'.setCell ⟨C.heap.size,0,U⟩ (H K)).setCell ⟨C.heap.size,1,U⟩ (H M)).setCell ⟨C.heap.size,2,U⟩ (H V)):=((bu.setCell (p:=⟨C.heap.size,0,U⟩) V2 _).setCell (p:=⟨C.heap.size,1,U⟩) V2 _).setCell (p:=⟨C.heap.size,2,U⟩) V2 _;have hS:=aa.trans (a8.mono aa.size);refine⟨(cT m).below hS,(a8.block _ bq).trans g,?_,λhq=>?_,λhq=>?_,fx.below _ hS⟩
   .have h1:=Tq w' C.heap.size 0 _ _ (H K) ar;have h2:=Tq _ C.heap.size 1 _ _ (H M) h1;have h3:=Tq _ C.heap.size 2 _ _ (H V) h2;rw[h3];rfl
   .have:=(cT m).lt hq;omega
   .have:=(cT m).lt hq;have:=aa.size;omega
  clear ay ao aq az aH aI aJ g aw ad aX hO
  go_region_with (first
  |(go_at_call 93;refine((cT br) _ rfl).mono ?_;rintro e w1 ⟨rfl,HR⟩)
  |(go_at_call 93;refine((cT bs) _ rfl).mono ?_;rintro e w1 ⟨rfl,⟨k0,k1,k2⟩,⟨g0,g1,g2⟩,HR⟩))
  all_goals
   go_wp2
   go_meet
   exact⟨_,rfl,rfl,HR⟩
 case rest =>
 obtain⟨X,rfl,rfl,z⟩:=hcut;obtain⟨Q1,aK⟩:∃x,Q=x:=⟨_,rfl⟩
 have ax:Hid (ep Q (o1++(o2++(o3++[⟨4,tN,t⟩,n9])))=ep Q1 (o1++(o2++(o3++[⟨4,tN,t⟩,n9])))):=by show _=_;rw[aK]
 rw[aK] at z;replace ad:Hid (gA Q1 (o1++(o2++(o3++[⟨4,tN,t⟩,n9]))) nn b):=by show gA _ _ _ _;rw[<-aK];exact cT ad
 obtain⟨O1,v1,z⟩:∃O1 v1,Hid (nJ w O v wc j E l dd n cY Q1 R O1 v1 T w.heap.size X #[Z Y (step:Int),J p n cap,Z Y c.all] #[H K,H M,H V]):=⟨O,v,z⟩
 clear aX m aK ay aa g;have aC:wc.heap[w.heap.size]?=S (D #[Z Y (step:Int),J p n cap,Z Y c.all] 80 (0,0)):=(cT z).bb;have ae:wc.heap[X]?=S (D #[H K,H M,H V] 176 (0,0)):=(cT z).xb;have z0:wc.cell? ⟨w.heap.size,0,U⟩=S (Z Y (step:Int)):=by rw[Ti wc _ 0 _ _ _ aC];rfl
 have z1:wc.cell? ⟨X,2,U⟩=S (H V):=by rw[Ti wc _ 2 _ _ _ ae];rfl
 clear aC ae;have hd:Hid (nJ w O v wc.drew j E l dd n cY Q1 R O1 v1 T w.heap.size X #[Z Y (step:Int),J p n cap,Z Y c.all] #[H K,H M,H V]):=(cT z).below V3.drew;have CT:∀{L:Rk} {r:Nat->Prop} {u:V6} {w':V5},nJ w O v w' j E l dd n cY L R r u T w.heap.size X #[Z Y (step:Int),J p n cap,Z Y c.all] #[H K,H M,H V]->w'.cell? ⟨w.heap.size,0,U⟩=S (Z Y (step:Int))/\w'.cell? ⟨X,2,U⟩=S (H V):=λ{L r u w'} h=>⟨by rw[Ti w' _ 0 _ _ _ h.bb];rfl,by rw[Ti w' _ 2 _ _ _ h.xb];rfl⟩
 have HA:Hid (∀W,Hid (nJ w O v W j E l dd n cY Q1 R O1 v1 T w.heap.size X #[Z Y (step:Int),J p n cap,Z Y c.all] #[H K,H M,H V])->V7 prog 82 #[Z Y (step:Int)] W λe w'=>e=Wd (H N1)/\(w'.cell? ⟨w.heap.size,0,U⟩=S (Z Y (step:Int))/\w'.cell? ⟨X,2,U⟩=S (H V))/\Hid (nJ w O v w' j E l dd n cY Q1 R O1 v1 T w.heap.size X #[Z Y (step:Int),J p n cap,Z Y c.all] #[H K,H M,H V])):=λW A=>(cT aH W (cT A).sf.pw).mono λe w' ⟨he,hb⟩=>⟨he,CT ((cT A).below hb),(cT A).below hb⟩
 have G:=cU (cT ad).fst;by_cases F:(ep Q1 o1).1=0
 .have HB:Hid (∀W,Hid (nJ w O v W j E l dd n cY Q1 R O1 v1 T w.heap.size X #[Z Y (step:Int),J p n cap,Z Y c.all] #[H K,H M,H V])->V7 prog 94 #[V9 (S ⟨l,0,U⟩),H N1,H V] W λe w'=>e=Wd (Wb #[])/\(w'.cell? ⟨w.heap.size,0,U⟩=S (Z Y (step:Int))/\w'.cell? ⟨X,2,U⟩=S (H V))/\∃r u,Hid (nJ w O v w' j E l dd n cY (ep Q1 o1).2 R r u T w.heap.size X #[Z Y (step:Int),J p n cap,Z Y c.all] #[H K,H M,H V])):=λW A=>(JC (cT A) (cT ao W Q1 O1 v1 (cT A).sf (cT G)) F).mono λe w' ⟨he,r,u,h⟩=>⟨he,CT h,r,u,h⟩
  have af:Hid (ep Q (o1++(o2++(o3++[⟨4,tN,t⟩,n9])))=ep (ep Q1 o1).2 (o2++(o3++[⟨4,tN,t⟩,n9]))):=by show _=_;rw[cT ax,iD,Tg F]
  have aD:=cU ((cT ad).snd F);clear CT ad G z ax ao aH;go_wp2_with fail
  go_region_held3 (λw'=>w'.cell? ⟨w.heap.size,0,U⟩=S (Z Y (step:Int))/\w'.cell? ⟨X,2,U⟩=S (H V))
   (first|(exact⟨by assumption,by assumption⟩)|(go_keep;done))
   (first
    |(go_at_call 82;refine((cT HA) _ (by assumption)).mono ?_;rintro e w1 ⟨rfl,⟨k0,k1⟩,ag⟩)
    |(go_at_call 94;refine((cT HB) _ (by assumption)).mono ?_;rintro e au ⟨rfl,⟨y0,y1⟩,O2,v2,z⟩))
  clear z0 z1 hd HA HB k0 k1 ag y0 y1 F;obtain⟨Q2,ba⟩:∃q,Hid ((ep Q1 o1).2=q):=⟨_,rfl⟩
  rw[cT ba] at z af aD;clear ba;have aC:au.heap[w.heap.size]?=S (D #[Z Y (step:Int),J p n cap,Z Y c.all] 80 (0,0)):=(cT z).bb;have ae:au.heap[X]?=S (D #[H K,H M,H V] 176 (0,0)):=(cT z).xb;have z0:au.cell? ⟨w.heap.size,0,U⟩=S (Z Y (step:Int)):=by rw[Ti au _ 0 _ _ _ aC];rfl
  have z1:au.cell? ⟨X,1,U⟩=S (H M):=by rw[Ti au _ 1 _ _ _ ae];rfl
  clear aC ae;have hd:Hid (nJ w O v au.drew j E l dd n cY Q2 R O2 v2 T w.heap.size X #[Z Y (step:Int),J p n cap,Z Y c.all] #[H K,H M,H V]):=(cT z).below V3.drew;have CT:∀{L:Rk} {r:Nat->Prop} {u:V6} {w':V5},nJ w O v w' j E l dd n cY L R r u T w.heap.size X #[Z Y (step:Int),J p n cap,Z Y c.all] #[H K,H M,H V]->w'.cell? ⟨w.heap.size,0,U⟩=S (Z Y (step:Int))/\w'.cell? ⟨X,1,U⟩=S (H M):=λ{L r u w'} h=>⟨by rw[Ti w' _ 0 _ _ _ h.bb];rfl,by rw[Ti w' _ 1 _ _ _ h.xb];rfl⟩
  have HA:Hid (∀W,Hid (nJ w O v W j E l dd n cY Q2 R O2 v2 T w.heap.size X #[Z Y (step:Int),J p n cap,Z Y c.all] #[H K,H M,H V])->V7 prog 81 #[Z Y (step:Int)] W λe w'=>e=Wd (H N2)/\(w'.cell? ⟨w.heap.size,0,U⟩=S (Z Y (step:Int))/\w'.cell? ⟨X,1,U⟩=S (H M))/\Hid (nJ w O v w' j E l dd n cY Q2 R O2 v2 T w.heap.size X #[Z Y (step:Int),J p n cap,Z Y c.all] #[H K,H M,H V])):=λW A=>(cT aI W (cT A).sf.pw).mono λe w' ⟨he,hb⟩=>⟨he,CT ((cT A).below hb),(cT A).below hb⟩
  have G:=cU (cT aD).fst;by_cases F:(ep Q2 o2).1=0
  .have HB:Hid (∀W,Hid (nJ w O v W j E l dd n cY Q2 R O2 v2 T w.heap.size X #[Z Y (step:Int),J p n cap,Z Y c.all] #[H K,H M,H V])->V7 prog 94 #[V9 (S ⟨l,0,U⟩),H N2,H M] W λe w'=>e=Wd (Wb #[])/\(w'.cell? ⟨w.heap.size,0,U⟩=S (Z Y (step:Int))/\w'.cell? ⟨X,1,U⟩=S (H M))/\∃r u,Hid (nJ w O v w' j E l dd n cY (ep Q2 o2).2 R r u T w.heap.size X #[Z Y (step:Int),J p n cap,Z Y c.all] #[H K,H M,H V])):=λW A=>(JC (cT A) (cT aq W Q2 O2 v2 (cT A).sf (cT G)) F).mono λe w' ⟨he,r,u,h⟩=>⟨he,CT h,r,u,h⟩
   have ah:Hid (ep Q (o1++(o2++(o3++[⟨4,tN,t⟩,n9])))=ep (ep Q2 o2).2 (o3++[⟨4,tN,t⟩,n9])):=by show _=_;rw[cT af,iD,Tg F]
   have aE:=cU ((cT aD).snd F);clear CT aD G z af aq aI;go_upto_region 3 with fail
   go_region_held3 (λw'=>w'.cell? ⟨w.heap.size,0,U⟩=S (Z Y (step:Int))/\w'.cell? ⟨X,1,U⟩=S (H M))
    (first|(exact⟨by assumption,by assumption⟩)|(go_keep;done))
    (first
     |(go_at_call 81;refine((cT HA) _ (by assumption)).mono ?_;rintro e w1 ⟨rfl,⟨k0,k1⟩,ag⟩)
     |(go_at_call 94;refine((cT HB) _ (by assumption)).mono ?_;rintro e aF ⟨rfl,⟨y0,y1⟩,O3,v3,z⟩))
   clear z0 z1 hd HA HB k0 k1 ag y0 y1 F;obtain⟨Q3,bd⟩:∃q,Hid ((ep Q2 o2).2=q):=⟨_,rfl⟩
   rw[cT bd] at z ah aE;clear bd;have ae:aF.heap[X]?=S (D #[H K,H M,H V] 176 (0,0)):=(cT z).xb;have z1:aF.cell? ⟨X,0,U⟩=S (H K):=by rw[Ti aF _ 0 _ _ _ ae];rfl
   clear ae;have G:=cU (cT aE).fst;by_cases F:(ep Q3 o3).1=0
   .have HB:=cU (JC (cT z) (cT az aF Q3 O3 v3 (cT z).sf (cT G)) F);have ai:Hid (ep Q (o1++(o2++(o3++[⟨4,tN,t⟩,n9])))=ep (ep Q3 o3).2 [⟨4,tN,t⟩,n9]):=by show _=_;rw[cT ah,iD,Tg F]
    have aG:=cU ((cT aE).snd F);clear aE G z ah az;go_wp2_with fail;refine(cT HB).mono ?_;rintro e aS ⟨rfl,O4,v4,z⟩;replace z:=cU z;clear HB F z1;obtain⟨Q4,bg⟩:∃q,Hid ((ep Q3 o3).2=q):=⟨_,rfl⟩
    rw[cT bg] at z ai aG;clear bg;have s0:=(cT z).sf.sh.c0;have z0:aS.cell? ⟨w.heap.size,0,U⟩=S (Z Y (step:Int)):=by rw[Ti aS _ 0 _ _ _ (cT z).bb];rfl
    have hd:Hid (nJ w O v aS.drew j E l dd n cY Q4 R O4 v4 T w.heap.size X #[Z Y (step:Int),J p n cap,Z Y c.all] #[H K,H M,H V]):=(cT z).below V3.drew;have CT:∀{L:Rk} {r:Nat->Prop} {u:V6} {w':V5},nJ w O v w' j E l dd n cY L R r u T w.heap.size X #[Z Y (step:Int),J p n cap,Z Y c.all] #[H K,H M,H V]->w'.cell? ⟨l,0,U⟩=S (V9 (S ⟨j,0,U⟩))/\w'.cell? ⟨w.heap.size,0,U⟩=S (Z Y (step:Int)):=λ{L r u w'} h=>⟨h.sf.sh.c0,by rw[Ti w' _ 0 _ _ _ h.bb];rfl⟩
    have HA:Hid (∀W,Hid (nJ w O v W j E l dd n cY Q4 R O4 v4 T w.heap.size X #[Z Y (step:Int),J p n cap,Z Y c.all] #[H K,H M,H V])->V7 prog 79 #[Z Y (step:Int)] W λe w'=>e=Wd (H t)/\(w'.cell? ⟨l,0,U⟩=S (V9 (S ⟨j,0,U⟩))/\w'.cell? ⟨w.heap.size,0,U⟩=S (Z Y (step:Int)))/\Hid (nJ w O v w' j E l dd n cY Q4 R O4 v4 T w.heap.size X #[Z Y (step:Int),J p n cap,Z Y c.all] #[H K,H M,H V])):=λW A=>(cT aJ W (cT A).sf.pw).mono λe w' ⟨he,hb⟩=>⟨he,CT ((cT A).below hb),(cT A).below hb⟩
    have aL:Hid (∀W,Hid (nJ w O v W j E l dd n cY Q4 R O4 v4 T w.heap.size X #[Z Y (step:Int),J p n cap,Z Y c.all] #[H K,H M,H V])->V7 prog 95 #[V9 (S ⟨j,0,U⟩),H ⟨#[116]⟩,H t] W λe w'=>e=Wd (Z Y (Q4.rename tN t).1)/\(w'.cell? ⟨l,0,U⟩=S (V9 (S ⟨j,0,U⟩))/\w'.cell? ⟨w.heap.size,0,U⟩=S (Z Y (step:Int)))/\∃r,Hid (nJ w O v w' j E l dd n cY (Q4.rename tN t).2 R r v4 T w.heap.size X #[Z Y (step:Int),J p n cap,Z Y c.all] #[H K,H M,H V])):=λW A=>(Pk.IC tN t (cT A).sf.two (cT aG).head aA (by decide) zN).mono λe w' ⟨he,r,h2,hs⟩=>⟨he,CT ((cT A).op h2 hs),r,(cT A).op h2 hs⟩
    have I:Hid (dz Q4 ⟨4,tN,t⟩=Q4.rename tN t):=rfl;obtain⟨e4,ab⟩:∃x,Hid ((Q4.rename tN t).1=x):=⟨_,rfl⟩
    rw[cT ab] at aL;by_cases F:e4=0
    .subst F;have aj:Hid (ep Q (o1++(o2++(o3++[⟨4,tN,t⟩,n9])))=ep (Q4.rename tN t).2 [n9]):=by show _=_;rw[cT ai,oF (by rw[cT I];exact cT ab),cT I]
     have aT:Hid (gA (Q4.rename tN t).2 [n9] nn b):=(cT aG).tail (by rw[cT I];exact cT ab);clear CT aG z ai aJ ab I;go_upto_region 5 with fail
     go_region_held3 (λw'=>w'.cell? ⟨l,0,U⟩=S (V9 (S ⟨j,0,U⟩))/\w'.cell? ⟨w.heap.size,0,U⟩=S (Z Y (step:Int)))
      (first|(exact⟨by assumption,by assumption⟩)|(go_keep;done))
      (first
       |(go_at_call 79;refine((cT HA) _ (by assumption)).mono ?_;rintro e w1 ⟨rfl,⟨k0,k1⟩,ag⟩)
       |(go_at_call 95;refine((cT aL) _ (by assumption)).mono ?_;rintro e bh ⟨rfl,⟨y0,y1⟩,O5,z⟩)
       |(go_at_call 89;refine(iU _).mono ?_;rintro e wm ⟨rfl,av⟩;obtain rfl:=av.symm))
     clear s0 z0 hd HA aL k0 k1 ag y0 y1;obtain⟨Q5,bj⟩:∃q,Hid ((Q4.rename tN t).2=q):=⟨_,rfl⟩
     rw[cT bj] at z aj aT;clear bj;have s0:=(cT z).sf.sh.c0;have aU:=cU (Pk.sP (cT z).sf.two (cT aT).head aA);have I:Hid (dz Q5 n9=Q5.fc):=rfl;obtain⟨e5,ak⟩:∃x,Hid (Q5.fc.1=x):=⟨_,rfl⟩
     rw[cT ak] at aU;go_wp2_with fail;refine(cT aU).mono ?_;rintro e s ⟨rfl,O6,t6,s6⟩;have an:=cU ((cT z).op t6 s6);clear aU t6 s6 s0 z aT;by_cases F:e5=0
     .subst F;have HR:Hid (ep Q (o1++(o2++(o3++[⟨4,tN,t⟩,n9])))=(0,Q5.fc.2)):=by
       show _=_
       rw[cT aj,o9,cT I,<-cT ak]
      have x0:s.cell? ⟨w.heap.size,0,U⟩=S (Z Y (step:Int)):=by rw[Ti s _ 0 _ _ _ (cT an).bb];rfl
      have x1:s.cell? ⟨w.heap.size,1,U⟩=S (J p n cap):=by rw[Ti s _ 1 _ _ _ (cT an).bb];rfl
      have x2:s.cell? ⟨w.heap.size,2,U⟩=S (Z Y c.all):=by rw[Ti s _ 2 _ _ _ (cT an).bb];rfl
      have bw:Hid (∀W,W=s.drew->V7 prog 46 #[V9 (S ⟨l,4,U⟩),Z Y (step:Int),Wc #[Z Y (step:Int),J p n cap,Z Y c.all]] W λe w'=>(∃bb,e=Wd (.bool bb))/\(w'.cell? ⟨w.heap.size,0,U⟩=S (Z Y (step:Int))/\w'.cell? ⟨w.heap.size,1,U⟩=S (J p n cap)/\w'.cell? ⟨w.heap.size,2,U⟩=S (Z Y c.all))/\Hid (P (Wd (Wb #[])) w')):=by
       show ∀W,_
       intro W A;have aB:V4 s W:=by rw[A];exact V3.drew
       have hI:=(cT an).below aB;refine(Rt.nL l 4 (LH j dd n cY v4) 113 v4 T step ⟨p,n,cap,c.all⟩ W hI.sf.sh.tab hI.sf.sh.ne).mono ?_;rintro e w' ⟨he,u,hn⟩;have bk:Sn.dj (if Sn.dD T step=We then T else Sn.gJ T step ⟨p,n,cap,c.all⟩):=by
        split
        .exact hI.sf.sh.tab.me
        .rename_i hq;exact Sn.iw hI.sf.sh.tab.me (by simpa using hq)
       have bn:(if Sn.dD T step=We then T else Sn.gJ T step ⟨p,n,cap,c.all⟩).length<=1000000000:=by
        split
        .exact hI.sf.sh.tab.len
        .rw[Sn.iN];omega
       obtain⟨hq,hs⟩:=hI.sf.add hn bk bn;have aM:=hI.next hq hs
       refine⟨⟨_,he⟩,⟨by rw[Ti w' _ 0 _ _ _ aM.bb];rfl,by rw[Ti w' _ 1 _ _ _ aM.bb];rfl,by rw[Ti w' _ 2 _ _ _ aM.bb];rfl⟩,?_⟩
       show P _ _
       rw[<-cT hO,cT HR];exact⟨λ_=>rfl,λh=>absurd rfl h,O6,u,_,λ_=>rfl,hq,aM.st⟩
      clear an aj HR I ak;go_wp2_with fail;refine(iU s).mono ?_;rintro e wm ⟨rfl,av⟩;obtain rfl:=av.symm;go_upto_region 7 with fail
      go_region_held3 (λw'=>w'.cell? ⟨w.heap.size,0,U⟩=S (Z Y (step:Int))/\w'.cell? ⟨w.heap.size,1,U⟩=S (J p n cap)/\w'.cell? ⟨w.heap.size,2,U⟩=S (Z Y c.all))
       (first|(exact⟨by assumption,by assumption,by assumption⟩)|(go_keep;done))
       (first|(go_at_call 46;refine((cT bw) _ rfl).mono ?_;rintro e w7 ⟨⟨bb,rfl⟩,⟨y0,y1,y2⟩,HF⟩))
      all_goals
       go_wp2;exact Tm (Tl rfl _ _ _) rfl (cT HF)
     .have HF:Hid (P (.panicked (gE e5)) s):=by
       show P _ _
       have bo:(dz Q5 n9).1≠0:=by rw[cT I,cT ak];exact F
       rw[<-cT hO,cT aj,o9,cT I];exact⟨λh=>absurd ((cT ak).symm.trans h) F,λ_=>by rw[cT ak],O6,v4,T,λh=>absurd ((cT ak).symm.trans h) F,(cT an).sf,(cT an).st⟩
      clear an aj I ak;go_wp2_with fail;refine(jN e5 F s).mono ?_;rintro e wm ⟨rfl,av⟩;obtain rfl:=av.symm;exact⟨rfl,cT HF⟩
    .have HF:Hid (∀w' r,nJ w O v w' j E l dd n cY (Q4.rename tN t).2 R r v4 T w.heap.size X #[Z Y (step:Int),J p n cap,Z Y c.all] #[H K,H M,H V]->P (.panicked (gE e4)) w'):=by
      show ∀w' r,_
      intro w' r h;have bo:(dz Q4 ⟨4,tN,t⟩).1≠0:=by rw[cT I,cT ab];exact F
      rw[<-cT hO,cT ai,ql bo,cT I];exact⟨λh=>absurd ((cT ab).symm.trans h) F,λ_=>by rw[cT ab],r,v4,T,λh=>absurd ((cT ab).symm.trans h) F,h.sf,h.st⟩
     clear CT aG z ai aJ ab I;go_upto_region 5 with fail
     go_region_with (first
     |(go_at_call 79;refine((cT HA) _ (by assumption)).mono ?_;rintro e w1 ⟨rfl,⟨k0,k1⟩,ag⟩)
     |(go_at_call 95;refine((cT aL) _ (by assumption)).mono ?_;rintro e bh ⟨rfl,⟨y0,y1⟩,O5,bx⟩)
     |(go_at_call 89;refine(jN e4 F _).mono ?_;rintro e wm ⟨rfl,av⟩;obtain rfl:=av.symm;refine jB prog bh ⟨rfl,cT HF _ _ (cT bx)⟩ ?_))
     all_goals trivial
   .have HB:=cU (Jj (cT z) (cT az aF Q3 O3 v3 (cT z).sf (cT G)) F);have HF:Hid (∀w',(∃r u T',ot w' j E l dd n cY (ep Q3 o3).2 R r u T'/\fx w (OO O l v) w' (OO r l u))->P (.panicked (gE (ep Q3 o3).1)) w'):=by
     show ∀w',_
     rintro w' ⟨r,u,T',h1,h2⟩;rw[<-cT hO,cT ah,iD,Tf F];exact⟨λh=>absurd h F,λ_=>rfl,r,u,T',λh=>absurd h F,h1,h2⟩
    clear aE G z ah az;go_wp2_with fail;refine(cT HB).mono ?_;rintro e w4 ⟨rfl,hq⟩;exact⟨rfl,cT HF w4 hq⟩
  .have HB:Hid (∀W,Hid (nJ w O v W j E l dd n cY Q2 R O2 v2 T w.heap.size X #[Z Y (step:Int),J p n cap,Z Y c.all] #[H K,H M,H V])->V7 prog 94 #[V9 (S ⟨l,0,U⟩),H N2,H M] W λe w'=>e=.panicked (gE (ep Q2 o2).1)/\Hid (P (.panicked (gE (ep Q2 o2).1)) w')):=λW A=>(Jj (cT A) (cT aq W Q2 O2 v2 (cT A).sf (cT G)) F).mono λe w' ⟨he,r,u,T',h1,h2⟩=>⟨he,by
    show P _ _
    rw[<-cT hO,cT af,iD,Tf F];exact⟨λh=>absurd h F,λ_=>rfl,r,u,T',λh=>absurd h F,h1,h2⟩⟩
   clear CT aD G z af aq aI;go_upto_region 3 with fail
   go_region_with (first
   |(go_at_call 81;refine((cT HA) _ (by assumption)).mono ?_;rintro e w1 ⟨rfl,⟨k0,k1⟩,ag⟩)
   |(go_at_call 94;refine((cT HB) _ (by assumption)).mono ?_;rintro e w2 ⟨rfl,HF⟩;refine jB prog w2 ⟨rfl,cT HF⟩ ?_))
   all_goals trivial
 .have HB:Hid (∀W,Hid (nJ w O v W j E l dd n cY Q1 R O1 v1 T w.heap.size X #[Z Y (step:Int),J p n cap,Z Y c.all] #[H K,H M,H V])->V7 prog 94 #[V9 (S ⟨l,0,U⟩),H N1,H V] W λe w'=>e=.panicked (gE (ep Q1 o1).1)/\Hid (P (.panicked (gE (ep Q1 o1).1)) w')):=λW A=>(Jj (cT A) (cT ao W Q1 O1 v1 (cT A).sf (cT G)) F).mono λe w' ⟨he,r,u,T',h1,h2⟩=>⟨he,by
   show P _ _
   rw[<-cT hO,cT ax,iD,Tf F];exact⟨λh=>absurd h F,λ_=>rfl,r,u,T',λh=>absurd h F,h1,h2⟩⟩
  clear CT ad G z ax ao aH;go_wp2_with fail
  go_region_with (first
  |(go_at_call 82;refine((cT HA) _ (by assumption)).mono ?_;rintro e w1 ⟨rfl,⟨k0,k1⟩,ag⟩)
  |(go_at_call 94;refine((cT HB) _ (by assumption)).mono ?_;rintro e w2 ⟨rfl,HF⟩;refine jB prog w2 ⟨rfl,cT HF⟩ ?_))
  all_goals trivial
end Ru
namespace Ru
open Rd (Rk e0)
open Pk (jd Sm fx TP di cX dh)
open Dk (Kept)
structure nH (w0:V5) (O0:Nat->Prop) (v0:V6) (w:V5) (D E S dd n cY:Nat) (Q R:Rk) (O:Nat->Prop) (v:V6) (T:Sn.Tb):Prop where
 sf:ot w D E S dd n cY Q R O v T
 st:fx w0 (OO O0 S v0) w (OO O S v)
variable {w w':V5}{Q R:Rk}{T:Sn.Tb}{dd cY n:Nat}{v:V6}
theorem nH.below{j:V5}{O0 O:Nat->Prop}{v0:V6}{b E e:Nat}(h:nH j O0 v0 w b E e dd n cY Q R O v T)(hb:V4 w w'): nH j O0 v0 w' b E e dd n cY Q R O v T:=⟨h.sf.below hb,h.st.trans (fx.below _ hb)⟩
theorem nH.op{m:V5}{O0 O l:Nat->Prop}{v0:V6}{e E j:Nat}{r:Rk}(h:nH m O0 v0 w e E j dd n cY Q R O v T)(h2:jd w' e E r R l)(u:fx w O w' l): nH m O0 v0 w' e E j dd n cY r R l v T:=by
 obtain⟨a,b⟩:=h.sf.op h2 u;exact⟨a,h.st.trans b⟩
theorem ot.forget{b E j:Nat}{O:Nat->Prop}{v':V6}{z:Sn.Tb}(h:ot w b E j dd n cY Q R O v T)(y:gK w' j b dd n cY v' z)(r:Kept w w' (λk=>¬qH j v k))(A:∀g,v'.ownBlock=S g->v.ownBlock=S g\/w.heap.size<=g): ot w' b E j dd n cY Q R O v' z/\fx w (OO O j v) w' (OO O j v'):=by
 have m:∀k,qH j v' k->qH j v k\/w.heap.size<=k:=λk l=>by
  rcases l with e|e
  .exact Wh (Wh e)
  .rcases A k e with q|q
   .exact Wh (Wi q)
   .exact Wi q
 have u:fx w (OO O j v) w' (OO O j v'):=⟨r.mono λk _ l B=>l (Wi B),λk l=>by
  rcases l with e|e
  .exact Wh (Wh e)
  .rcases m k e with e|e
   .exact Wh (Wi e)
   .exact Wi e⟩
 obtain⟨C,_,F⟩:=u.far h.pw.lt h.np;refine⟨⟨oY h.two r (λk l=>h.apart k l),y,λk l G=>?_,h.pw.keep C,F⟩,u⟩;rcases m k G with e|e
 .exact h.apart k l e
 .have:=h.two.lt l;omega
def yW(cY:Nat)(T:Sn.Tb):List Oq:=((T.map (·.1)).take (Wn T-cY)).flatMap drop1++[n9]
theorem JB{k:Nat}{x:Sn.Ce}(h:cY<((k,x)::T).length): yW cY ((k,x)::T)=m7 (nm 99 k)::m7 (nm 109 k)::m7 (nm 118 k)::yW cY T:=by
 unfold yW;rw[Tr] at h ⊢;rw[show (Wn T)+1-cY=(Wn T-cY)+1 by omega,Uj,UW,Vq]
 rfl
theorem Nh(h:Wn T<=cY): yW cY T=[n9]:=by
 unfold yW;rw[show (Wn T)-cY=0 by omega,List.take_zero];rfl
theorem Hy(h:cY<Wn T): fF ((T.map (·.1)).take (Wn T-cY))=yW cY T:=by
 unfold fF yW;rw[Tf];intro e;have:=congrArg List.length e;rw[Uz,Ue] at this;simp at this;omega
def kW(b:Nat)(w:V5):Nat:=match w.cell? ⟨b,4,U⟩ with
 |some (J _ n _)=>n
 |_=>0
theorem gK.kW{b e:Nat}(h:gK w b e dd n cY v T): kW b w=Wn T:=by
 obtain⟨p,j,l,_⟩:=Rt.dS h.tab.row;unfold Ru.kW;rw[h.tab.cell,l]
theorem Je(j E l dd n cY nn b:Nat)(Q R:Rk)(O:Nat->Prop)(v:V6)(T:Sn.Tb)(w:V5)(h:ot w j E l dd n cY Q R O v T)(hT:∀x∈T,x.1<=9999999999)(hp:gA Q (fF ((T.map (·.1)).take (Wn T-cY))) nn b)(ah:nn<=1000000000)(hm:cY<=1000000000):V7 prog 54 #[V9 (S ⟨l,0,U⟩)] w (mS w j E l dd n cY R O v (λT'=>T'=T.drop (Wn T-cY)) (ep Q (fF ((T.map (·.1)).take (Wn T-cY))))):=by
 generalize hO:mS w j E l dd n cY R O v (λT'=>T'=T.drop (Wn T-cY)) (ep Q (fF ((T.map (·.1)).take (Wn T-cY))))=P;replace hO:=cU hO;have hl:=h.sh.tab.len;have c3:=h.sh.c3;have ai:Hid (∀(W:V5) (v':V6) (T':Sn.Tb),gK W l j dd n cY v' T'->V7 prog 87 #[V9 (S ⟨l,4,U⟩)] W λe w'=>e=Wd (Z Y (Wn T'))/\w'=W):=λW v' T' h=>Rt.FF l 4 _ _ v' T' W h.tab
 have m:=cU h;have HP:=cU hp;have az:=cU hT;clear h hp hT;by_cases aO:Wn T<=cY
 .have HF:Hid (P (Wd (Wb #[])) w.drew):=by
   show P _ _
   rw[<-cT hO,show (Wn T)-cY=0 by omega,List.take_zero];exact⟨λ_=>rfl,λh=>absurd rfl h,O,v,T,λ_=>rfl,(cT m).below V3.drew,fx.below _ V3.drew⟩
  have t:=cU (cT ai w.drew v T ((cT m).sh.below V3.drew));have aj:(Wn T:Int)<=(cY:Int):=by omega
  clear ai m HP az;go_enter func54,ntmps54;go_upto_region 0 with fail
  go_region_held3 (λw'=>w'.cell? ⟨l,3,U⟩=S (Z Y (cY:Int)))
   (first|(assumption)|(go_keep;done))
   (first|(go_at_call 87;refine(cT t).mono ?_;rintro e w1 ⟨rfl,aa⟩;obtain rfl:=aa.symm))
  all_goals
   go_wp2;exact Tj (Tl rfl _ _ _) rfl (cT HF)
 .have aJ:cY<Wn T:=by omega
  have aj:¬(Wn T:Int)<=(cY:Int):=by omega
  have t:=cU (cT ai w.drew v T ((cT m).sh.below V3.drew));have av:Hid (nH w O v w.drew j E l dd n cY Q R O v T):=⟨(cT m).below V3.drew,fx.below _ V3.drew⟩
  have aA:=Hy aJ;rw[aA] at HP hO;clear m aA;go_enter func54,ntmps54;go_upto_region 0 with fail
  go_region_held3 (λw'=>w'.cell? ⟨l,3,U⟩=S (Z Y (cY:Int)))
   (first|(assumption)|(go_keep;done))
   (first|(go_at_call 87;refine(cT t).mono ?_;rintro e w1 ⟨rfl,aa⟩;obtain rfl:=aa.symm))
  clear t c3;go_wp2_with fail
  go_loopw [2] (λ_ wr=>∃(s:Sn.Tb) (Q1:Rk) (O1:Nat->Prop) (v1:V6),(cY<=Wn s/\(Wn s)<=1000000000)/\kW l wr=Wn s/\Hid (nH w O v wr j E l dd n cY Q1 R O1 v1 s/\ep Q (yW cY T)=ep Q1 (yW cY s)/\gA Q1 (yW cY s) nn b/\(∃A,T=A++s))) (λ_ wr=>kW l wr)
  case atStart=>exact⟨T,Q,O,v,⟨by omega,hl⟩,(cT av).sf.sh.kW,cT av,rfl,cT HP,[],rfl⟩
  case round =>
   clear av HP;obtain⟨s,Q1,O1,v1,⟨aK,aL⟩,aB,HI⟩:=hrel;have aC:=cU aB;clear aB;have c3:=(cT HI).1.sf.sh.c3;have t:=cU (cT ai wr.drew v1 s ((cT HI).1.sf.sh.below V3.drew));by_cases ab:cY<Wn s
   .have aj:(cY:Int)<(Wn s:Int):=by omega
    have p:Hid (nH w O v wr.drew j E l dd n cY Q1 R O1 v1 s):=(cT HI).1.below V3.drew;go_upto_region 1 with fail
    go_region_held3 (λw'=>w'.cell? ⟨l,3,U⟩=S (Z Y (cY:Int)))
     (first|(assumption)|(go_keep;done))
     (first|(go_at_call 87;refine(cT t).mono ?_;rintro e w1 ⟨rfl,aa⟩;obtain rfl:=aa.symm))
    clear t c3;cases s with
    |nil=>exact absurd ab (by simp)
    |cons kx C =>
     obtain⟨k,x⟩:=kx;obtain⟨_,ad,ae,A,hA⟩:=cT HI;rw[JB ab] at ad ae;have hk:k<=9999999999:=(cT az) (k,x) (by rw[hA];exact TB.2 (Wi TV))
     have aD:=cU (vC l j dd n cY v1 C k x wr.drew (cT p).sf.sh);have aM:Hid (∃A,T=A++C):=⟨A++[(k,x)],by rw[hA,T4];rfl⟩
     rw[Tr] at ab aL aK aj aC;have y:=cU ad;have z:=cU ae;have ak:Hid (∀W,fN W->V7 prog 79 #[Z Y (k:Int)] W λe w'=>e=Wd (H (nm 99 k))/\V4 W w'):=λW h=>kL k W hk h
     have an:Hid (∀W,fN W->V7 prog 81 #[Z Y (k:Int)] W λe w'=>e=Wd (H (nm 109 k))/\V4 W w'):=λW h=>iS k W hk h
     have ao:Hid (∀W,fN W->V7 prog 82 #[Z Y (k:Int)] W λe w'=>e=Wd (H (nm 118 k))/\V4 W w'):=λW h=>kO k W hk h
     have aE:=ny 99 hk;have aF:=ny 109 hk;have aG:=ny 118 hk;generalize nm 99 k=N1 at y z ak aE;generalize nm 109 k=N2 at y z an aF;generalize nm 118 k=o at y z ao aG;clear ad ae hA HI;go_wp2_with fail;refine(cT aD).mono ?_;rintro e w2 ⟨rfl,K,ar,au,aH⟩;obtain⟨f1,f2⟩:=(cT p).sf.forget ar au aH;obtain⟨Q2,aw⟩:∃q,Q1=q:=⟨_,rfl⟩
     obtain⟨O2,aI⟩:∃q,O1=q:=⟨_,rfl⟩
     have V:Hid (nH w O v w2 j E l dd n cY Q2 R O2 K C):=by show nH _ _ _ _ _ _ _ _ _ _ _ _ _ _ _;rw[<-aw,<-aI];exact⟨f1,(cT p).st.trans f2⟩
     rw[aw] at y z;clear ar au aH f1 f2 aD p aw aI;have s0:=(cT V).sf.sh.c0;have hd:Hid (nH w O v w2.drew j E l dd n cY Q2 R O2 K C):=(cT V).below V3.drew;have HA:Hid (∀W,Hid (nH w O v W j E l dd n cY Q2 R O2 K C)->V7 prog 79 #[Z Y (k:Int)] W λe w'=>e=Wd (H N1)/\(w'.cell? ⟨l,0,U⟩=S (V9 (S ⟨j,0,U⟩)))/\Hid (nH w O v w' j E l dd n cY Q2 R O2 K C)):=λW L=>(cT ak W (cT L).sf.pw).mono λe w' ⟨he,hb⟩=>⟨he,((cT L).below hb).sf.sh.c0,(cT L).below hb⟩
     have G:Hid (∀W,Hid (nH w O v W j E l dd n cY Q2 R O2 K C)->V7 prog 91 #[V9 (S ⟨j,0,U⟩),H N1] W λe w'=>e=Wd (Z Y (Q2.remove N1).1)/\(w'.cell? ⟨l,0,U⟩=S (V9 (S ⟨j,0,U⟩)))/\∃I,Hid (nH w O v w' j E l dd n cY (Q2.remove N1).2 R I K C)):=λW L=>(Pk.ry N1 (cT L).sf.two (cT z).head ah aE).mono λe w' ⟨he,I,h2,hs⟩=>⟨he,((cT L).op h2 hs).sf.sh.c0,I,(cT L).op h2 hs⟩
     have u:Hid (dz Q2 (m7 N1)=Q2.remove N1):=rfl;obtain⟨er,r⟩:∃x,Hid ((Q2.remove N1).1=x):=⟨_,rfl⟩
     rw[cT r] at G;by_cases X:er=0
     .subst X;have B:Hid (ep Q (yW cY T)=ep (Q2.remove N1).2 (m7 N2::m7 o::yW cY C)):=by show _=_;rw[cT y,oF (by rw[cT u];exact cT r),cT u]
      have M:Hid (gA (Q2.remove N1).2 (m7 N2::m7 o::yW cY C) nn b):=(cT z).tail (by rw[cT u];exact cT r);clear z V y ak r u;go_upto_region 3 with fail
      go_region_held3 (λw'=>w'.cell? ⟨l,0,U⟩=S (V9 (S ⟨j,0,U⟩)))
       (first|(assumption)|(go_keep;done))
       (first
        |(go_at_call 79;refine((cT HA) _ (by assumption)).mono ?_;rintro e wa ⟨rfl,ka,g⟩)
        |(go_at_call 91;refine((cT G) _ (by assumption)).mono ?_;rintro e w3 ⟨rfl,y0,O3,V⟩)
        |(go_at_call 89;refine(iU _).mono ?_;rintro e wm ⟨rfl,F⟩;obtain rfl:=F.symm))
      clear s0 hd HA G ka g y0;obtain⟨Q3,HQ⟩:∃q,Hid ((Q2.remove N1).2=q):=⟨_,rfl⟩
      rw[cT HQ] at V B M;clear HQ;have y:=B;have z:=M;clear B M;have s0:=(cT V).sf.sh.c0;have hd:Hid (nH w O v w3.drew j E l dd n cY Q3 R O3 K C):=(cT V).below V3.drew;have HA:Hid (∀W,Hid (nH w O v W j E l dd n cY Q3 R O3 K C)->V7 prog 81 #[Z Y (k:Int)] W λe w'=>e=Wd (H N2)/\(w'.cell? ⟨l,0,U⟩=S (V9 (S ⟨j,0,U⟩)))/\Hid (nH w O v w' j E l dd n cY Q3 R O3 K C)):=λW L=>(cT an W (cT L).sf.pw).mono λe w' ⟨he,hb⟩=>⟨he,((cT L).below hb).sf.sh.c0,(cT L).below hb⟩
      have G:Hid (∀W,Hid (nH w O v W j E l dd n cY Q3 R O3 K C)->V7 prog 91 #[V9 (S ⟨j,0,U⟩),H N2] W λe w'=>e=Wd (Z Y (Q3.remove N2).1)/\(w'.cell? ⟨l,0,U⟩=S (V9 (S ⟨j,0,U⟩)))/\∃I,Hid (nH w O v w' j E l dd n cY (Q3.remove N2).2 R I K C)):=λW L=>(Pk.ry N2 (cT L).sf.two (cT z).head ah aF).mono λe w' ⟨he,I,h2,hs⟩=>⟨he,((cT L).op h2 hs).sf.sh.c0,I,(cT L).op h2 hs⟩
      have u:Hid (dz Q3 (m7 N2)=Q3.remove N2):=rfl;obtain⟨er,r⟩:∃x,Hid ((Q3.remove N2).1=x):=⟨_,rfl⟩
      rw[cT r] at G;by_cases X:er=0
      .subst X;have B:Hid (ep Q (yW cY T)=ep (Q3.remove N2).2 (m7 o::yW cY C)):=by show _=_;rw[cT y,oF (by rw[cT u];exact cT r),cT u]
       have M:Hid (gA (Q3.remove N2).2 (m7 o::yW cY C) nn b):=(cT z).tail (by rw[cT u];exact cT r);clear z V y an r u;go_upto_region 4 with fail
       go_region_held3 (λw'=>w'.cell? ⟨l,0,U⟩=S (V9 (S ⟨j,0,U⟩)))
        (first|(assumption)|(go_keep;done))
        (first
         |(go_at_call 81;refine((cT HA) _ (by assumption)).mono ?_;rintro e wa ⟨rfl,ka,g⟩)
         |(go_at_call 91;refine((cT G) _ (by assumption)).mono ?_;rintro e w4 ⟨rfl,y0,O4,V⟩)
         |(go_at_call 89;refine(iU _).mono ?_;rintro e wm ⟨rfl,F⟩;obtain rfl:=F.symm))
       clear s0 hd HA G ka g y0;obtain⟨Q4,HQ⟩:∃q,Hid ((Q3.remove N2).2=q):=⟨_,rfl⟩
       rw[cT HQ] at V B M;clear HQ;have y:=B;have z:=M;clear B M;have s0:=(cT V).sf.sh.c0;have hd:Hid (nH w O v w4.drew j E l dd n cY Q4 R O4 K C):=(cT V).below V3.drew;have HA:Hid (∀W,Hid (nH w O v W j E l dd n cY Q4 R O4 K C)->V7 prog 82 #[Z Y (k:Int)] W λe w'=>e=Wd (H o)/\(w'.cell? ⟨l,0,U⟩=S (V9 (S ⟨j,0,U⟩)))/\Hid (nH w O v w' j E l dd n cY Q4 R O4 K C)):=λW L=>(cT ao W (cT L).sf.pw).mono λe w' ⟨he,hb⟩=>⟨he,((cT L).below hb).sf.sh.c0,(cT L).below hb⟩
       have G:Hid (∀W,Hid (nH w O v W j E l dd n cY Q4 R O4 K C)->V7 prog 91 #[V9 (S ⟨j,0,U⟩),H o] W λe w'=>e=Wd (Z Y (Q4.remove o).1)/\(w'.cell? ⟨l,0,U⟩=S (V9 (S ⟨j,0,U⟩)))/\∃I,Hid (nH w O v w' j E l dd n cY (Q4.remove o).2 R I K C)):=λW L=>(Pk.ry o (cT L).sf.two (cT z).head ah aG).mono λe w' ⟨he,I,h2,hs⟩=>⟨he,((cT L).op h2 hs).sf.sh.c0,I,(cT L).op h2 hs⟩
       have u:Hid (dz Q4 (m7 o)=Q4.remove o):=rfl;obtain⟨er,r⟩:∃x,Hid ((Q4.remove o).1=x):=⟨_,rfl⟩
       rw[cT r] at G;by_cases X:er=0
       .subst X;have B:Hid (ep Q (yW cY T)=ep (Q4.remove o).2 (yW cY C)):=by show _=_;rw[cT y,oF (by rw[cT u];exact cT r),cT u]
        have M:Hid (gA (Q4.remove o).2 (yW cY C) nn b):=(cT z).tail (by rw[cT u];exact cT r);clear z V y ao r u;go_upto_region 5 with fail
        go_region_held3 (λw'=>w'.cell? ⟨l,0,U⟩=S (V9 (S ⟨j,0,U⟩)))
         (first|(assumption)|(go_keep;done))
         (first
          |(go_at_call 82;refine((cT HA) _ (by assumption)).mono ?_;rintro e wa ⟨rfl,ka,g⟩)
          |(go_at_call 91;refine((cT G) _ (by assumption)).mono ?_;rintro e w5 ⟨rfl,y0,O5,V⟩)
          |(go_at_call 89;refine(iU _).mono ?_;rintro e wm ⟨rfl,F⟩;obtain rfl:=F.symm))
        clear s0 hd HA G ka g y0;obtain⟨Q5,HQ⟩:∃q,Hid ((Q4.remove o).2=q):=⟨_,rfl⟩
        rw[cT HQ] at V B M;clear HQ;have y:=B;have z:=M;clear B M;go_wp2;go_roundw
        case rel=>exact⟨C,Q5,O5,K,⟨by omega,by omega⟩,(cT V).sf.sh.kW,cT V,cT y,cT z,cT aM⟩
        case measure =>
         have h1:=cT aC;have h2:=(cT V).sf.sh.kW
         show kW l _<kW l _
         omega
       .have HF:Hid (∀w' I,nH w O v w' j E l dd n cY (Q4.remove o).2 R I K C->P (.panicked (gE er)) w'):=by
         show ∀w' I,_
         intro w' I h;have af:(dz Q4 (m7 o)).1≠0:=by rw[cT u,cT r];exact X
         rw[<-cT hO,cT y,ql af,cT u];exact⟨λh=>absurd ((cT r).symm.trans h) X,λ_=>by rw[cT r],I,K,C,λh=>absurd ((cT r).symm.trans h) X,h.sf,h.st⟩
        clear z V y ao r u;go_upto_region 5 with fail
        go_region_with (first
        |(go_at_call 82;refine((cT HA) _ (by assumption)).mono ?_;rintro e wa ⟨rfl,ka,g⟩)
        |(go_at_call 91;refine((cT G) _ (by assumption)).mono ?_;rintro e w5 ⟨rfl,y0,O5,ag⟩)
        |(go_at_call 89;refine(jN er X _).mono ?_;rintro e wm ⟨rfl,F⟩;obtain rfl:=F.symm;refine jB prog w5 ⟨rfl,cT HF _ _ (cT ag)⟩ ?_))
        all_goals trivial
      .have HF:Hid (∀w' I,nH w O v w' j E l dd n cY (Q3.remove N2).2 R I K C->P (.panicked (gE er)) w'):=by
        show ∀w' I,_
        intro w' I h;have af:(dz Q3 (m7 N2)).1≠0:=by rw[cT u,cT r];exact X
        rw[<-cT hO,cT y,ql af,cT u];exact⟨λh=>absurd ((cT r).symm.trans h) X,λ_=>by rw[cT r],I,K,C,λh=>absurd ((cT r).symm.trans h) X,h.sf,h.st⟩
       clear z V y an r u;go_upto_region 4 with fail
       go_region_with (first
       |(go_at_call 81;refine((cT HA) _ (by assumption)).mono ?_;rintro e wa ⟨rfl,ka,g⟩)
       |(go_at_call 91;refine((cT G) _ (by assumption)).mono ?_;rintro e w4 ⟨rfl,y0,O4,ag⟩)
       |(go_at_call 89;refine(jN er X _).mono ?_;rintro e wm ⟨rfl,F⟩;obtain rfl:=F.symm;refine jB prog w4 ⟨rfl,cT HF _ _ (cT ag)⟩ ?_))
       all_goals trivial
     .have HF:Hid (∀w' I,nH w O v w' j E l dd n cY (Q2.remove N1).2 R I K C->P (.panicked (gE er)) w'):=by
       show ∀w' I,_
       intro w' I h;have af:(dz Q2 (m7 N1)).1≠0:=by rw[cT u,cT r];exact X
       rw[<-cT hO,cT y,ql af,cT u];exact⟨λh=>absurd ((cT r).symm.trans h) X,λ_=>by rw[cT r],I,K,C,λh=>absurd ((cT r).symm.trans h) X,h.sf,h.st⟩
      clear z V y ak r u;go_upto_region 3 with fail
      go_region_with (first
      |(go_at_call 79;refine((cT HA) _ (by assumption)).mono ?_;rintro e wa ⟨rfl,ka,g⟩)
      |(go_at_call 91;refine((cT G) _ (by assumption)).mono ?_;rintro e w3 ⟨rfl,y0,O3,ag⟩)
      |(go_at_call 89;refine(jN er X _).mono ?_;rintro e wm ⟨rfl,F⟩;obtain rfl:=F.symm;refine jB prog w3 ⟨rfl,cT HF _ _ (cT ag)⟩ ?_))
      all_goals trivial
   .have aj:¬(cY:Int)<(Wn s:Int):=by omega
    obtain⟨hj,ad,ae,A,hA⟩:=cT HI;rw[Nh (cY:=cY) (T:=s) (by omega)] at ad ae;have p:Hid (nH w O v wr.drew j E l dd n cY Q1 R O1 v1 s):=hj.below V3.drew;have aN:Hid (T.drop (Wn T-cY)=s):=by
     show _=_
     rw[hA,TT,show (Wn A)+Wn s-cY=Wn A by omega,List.drop_left]
    have ax:=cU (Pk.sP (cT p).sf.two ae.head ah);have u:Hid (dz Q1 n9=Q1.fc):=rfl;obtain⟨e5,aq⟩:∃x,Hid (Q1.fc.1=x):=⟨_,rfl⟩
    rw[cT aq] at ax;have y:=cU ad;have s0:=(cT p).sf.sh.c0;clear ad ae hA hj HI;go_upto_region 1 with fail
    go_region_held3 (λw'=>w'.cell? ⟨l,3,U⟩=S (Z Y (cY:Int)))
     (first|(assumption)|(go_keep;done))
     (first|(go_at_call 87;refine(cT t).mono ?_;rintro e w1 ⟨rfl,aa⟩;obtain rfl:=aa.symm))
    clear t c3;go_wp2_with fail;refine(cT ax).mono ?_;rintro e w6 ⟨rfl,O6,t6,s6⟩;have ay:=cU ((cT p).op t6 s6);have HF:Hid (∀en,(e5=0->en=Wd (Wb #[]))->(e5≠0->en=.panicked (gE e5))->P en w6):=by
     show ∀en,_
     intro en k1 k2;rw[<-cT hO,cT y,o9,cT u];exact⟨λh=>k1 ((cT aq).symm.trans h),λh=>by rw[cT aq];exact k2 (λq=>h ((cT aq).trans q)),O6,v1,s,λ_=>(cT aN).symm,(cT ay).sf,(cT ay).st⟩
    clear ax t6 s6 s0 p y ay;by_cases X:e5=0
    .subst X;go_wp2_with fail;refine(iU w6).mono ?_;rintro e wm ⟨rfl,F⟩;obtain rfl:=F.symm;go_wp2;exact Tm (Tl rfl _ _ _) rfl (cT HF _ (λ_=>rfl) (λh=>absurd rfl h))
    .go_wp2_with fail;refine(jN e5 X w6).mono ?_;rintro e wm ⟨rfl,F⟩;obtain rfl:=F.symm;exact⟨rfl,cT HF _ (λh=>absurd h X) (λ_=>rfl)⟩
end Ru
namespace Ru
open Rd (Rk e0)
open Pk (jd Sm fx TP di cX dh)
open Dk (Kept)
theorem DT{w:V5}{b E j dd n cY:Nat}{Q R:Rk}{O:Nat->Prop}{v:V6}{T:Sn.Tb}(h:ot w b E j dd n cY Q R O v T){B e s m:Nat}{u:V6}{z:List V6}(A:w.ownsRow B e s u m z)(he:e∉iX/\e≠113/\e≠181):∀g,u.ownBlock=S g->¬OO O j v g:=λg C F=>by
 obtain⟨G,l,_⟩:=di A C;rcases F with e1|e1
 .exact nV h.two l he.1 e1
 .rcases e1 with e1|e1
  .subst e1;exact dh l h.sh.tab.blk he.2.1 rfl
  .obtain⟨y,r,_⟩:=di h.sh.tab.row e1;exact dh l r he.2.2 rfl
theorem Qk{Q:Rk}{n b:Nat}(h:Sm Q n b)(e:Q.Ok){a:V8}(ha:a∈Q.fE):a.size<=12:=by
 unfold Rk.fE at ha;split at ha
 .cases ha
 .obtain⟨p,j,rfl⟩:=Uu.1 ha;exact Pk.Sm.OW h (Wn Q.dX) p ((Rd.fy (e.eE _)).1 j)
def gone(K:List Nat)(L:List V8)(k:Nat):List Oq:=((L.take k).filter λa=>!zp K a).map m7
variable {k:Nat}{K:List Nat}{L:List V8}
theorem LQ(h:k<Wn L)(b:zp K L[k]=We): gone K L (k+1)=gone K L k:=by
 unfold gone;rw[Uw h,UQ,List.filter_cons_of_neg (by simp[b])];simp
theorem KW(h:k<Wn L)(b:zp K L[k]=Wg): gone K L (k+1)=gone K L k++[m7 L[k]]:=by
 unfold gone;rw[Uw h,UQ,List.filter_cons_of_pos (by simp[b])];simp
theorem Ap: dU L K=if gone K L (Wn L)=[] then [] else gone K L (Wn L)++[n9]:=by
 unfold gone dU;rw[Ut]
theorem CW(h:k<Wn L)(j:zp K L[k]=Wg): ∃rest,dU L K=gone K L k++(m7 L[k]::rest):=by
 have e:L=L.take k++L[k]::L.drop (k+1):=by rw[<-TW h,Un]
 have b:gone K L (Wn L)=gone K L k++(m7 L[k]::((L.drop (k+1)).filter λa=>!zp K a).map m7):=by
  unfold gone;rw[Ut]
  conv=>lhs;rw[e]
  rw[UQ,List.filter_cons_of_pos (by simp[j]),UD,Uj]
 rw[Ap,Tf (by rw[b];simp),b];exact⟨_,by rw[T4];rfl⟩
theorem JS{T b:Sn.Tb}{x:Nat × Sn.Ce}{cY:Nat}(h:cY<(x::b).length):(x::b).drop ((x::b).length-cY)=b.drop (Wn b-cY):=by
 rw[Tr] at h ⊢;rw[show (Wn b)+1-cY=(Wn b-cY)+1 by omega,Vi]
theorem xj(j E l dd n cY nn b:Nat)(Q R:Rk)(O:Nat->Prop)(v:V6)(T:Sn.Tb)(w:V5)(h:ot w j E l dd n cY Q R O v T)(hT:∀x∈T,x.1<=9999999999)(hs:Sm Q nn b)(ak:nn<=1000000000)(hm:cY<=1000000000)(az:Q.nB=0):V7 prog 51 #[V9 (S ⟨l,0,U⟩)] w (mS w j E l dd n cY R O v (λT'=>T'=T.drop (Wn T-cY)) (ep Q (dU Q.fE ((T.drop (Wn T-cY)).map (·.1))))):=by
 generalize hO:mS w j E l dd n cY R O v (λT'=>T'=T.drop (Wn T-cY)) (ep Q (dU Q.fE ((T.drop (Wn T-cY)).map (·.1))))=P;replace hO:=cU hO;obtain⟨TF,an⟩:∃x,Hid (T.drop (Wn T-cY)=x):=⟨_,rfl⟩
 rw[cT an] at hO;have aA:∀x∈TF,x.1<=9999999999:=λx hx=>hT x (by rw[<-cT an] at hx;exact UR hx)
 have aP:=cU aA;have aQ:Hid (∀(W:V5) (v':V6) (T':Sn.Tb),gK W l j dd n cY v' T'->V7 prog 87 #[V9 (S ⟨l,4,U⟩)] W λe w'=>e=Wd (Z Y (Wn T'))/\w'=W):=λW v' T' h=>Rt.FF l 4 _ _ v' T' W h.tab
 have hl:=h.sh.tab.len;have ao:Hid (nH w O v w j E l dd n cY Q R O v T):=⟨h,fx.refl _ _⟩
 have HS:=cU hs;have aR:=Kp hs h.two.D3.1;have aB:=cU az;have aS:=cU h.two.D3.1;clear h hT aA hs az;go_enter func51,ntmps51;go_wp2_with fail
 go_loopw [17] (λ_ wr=>∃(m:Sn.Tb) (C:V6),Wn m<=1000000000/\kW l wr=Wn m/\Hid (nH w O v wr j E l dd n cY Q R O C m/\m.drop (Wn m-cY)=TF)) (λ_ wr=>kW l wr)
 case atStart=>exact⟨T,v,hl,(cT ao).sf.sh.kW,cT ao,cT an⟩
 case round =>
  clear ao;obtain⟨m,C,aT,aC,y⟩:=hrel;have aD:=cU aC;clear aC;have c3:=(cT y).1.sf.sh.c3;have p:=cU (cT aQ wr.drew C m ((cT y).1.sf.sh.below V3.drew));have z:Hid (nH w O v wr.drew j E l dd n cY Q R O C m):=(cT y).1.below V3.drew;by_cases F:cY<Wn m
  .have aE:(cY:Int)<(Wn m:Int):=by omega
   go_upto_region 0 with fail
   go_region_held3 (λw'=>w'.cell? ⟨l,3,U⟩=S (Z Y (cY:Int)))
    (first|(assumption)|(go_keep;done))
    (first|(go_at_call 87;refine(cT p).mono ?_;rintro e w1 ⟨rfl,aq⟩;obtain rfl:=aq.symm))
   clear p c3;cases m with
   |nil=>exact absurd F (by simp)
   |cons kx T2 =>
    obtain⟨k,x⟩:=kx;have aF:=cU (vC l j dd n cY C T2 k x wr.drew (cT z).sf.sh);have aU:Hid (T2.drop (Wn T2-cY)=TF):=by show _=_;rw[<-JS (T:=[]) F];exact(cT y).2
    rw[Tr] at F aT aE aD;clear y;go_wp2_with fail;refine(cT aF).mono ?_;rintro e w2 ⟨rfl,v2,ai,aj,aG⟩;obtain⟨f1,f2⟩:=(cT z).sf.forget ai aj aG;have o:Hid (nH w O v w2 j E l dd n cY Q R O v2 T2):=⟨f1,(cT z).st.trans f2⟩
    clear ai aj aG f1 f2 aF z;go_wp2;go_roundw
    case rel=>exact⟨T2,v2,by omega,(cT o).sf.sh.kW,cT o,cT aU⟩
    case measure =>
     have V:=cT aD;have h2:=(cT o).sf.sh.kW
     show kW l _<kW l _
     omega
  .have aE:¬(cY:Int)<(Wn m:Int):=by omega
   have aV:m=TF:=by
    have:=(cT y).2;rw[show (Wn m)-cY=0 by omega,List.drop_zero] at this;exact this
   subst aV;have aa:=cU (Pk.IB (cT z).sf.two (cT HS) ak);rw[cT aB] at aa;have s0:=(cT z).sf.sh.c0;obtain⟨L,HL⟩:∃L,Hid (Q.fE=L):=⟨_,rfl⟩
   rw[cT HL] at aa aR hO;obtain⟨M,aH⟩:∃K,Hid (m.map (·.1)=K):=⟨_,rfl⟩
   rw[cT aH] at hO;clear y aB;go_upto_region 0 with fail
   go_region_held3 (λw'=>w'.cell? ⟨l,3,U⟩=S (Z Y (cY:Int)))
    (first|(assumption)|(go_keep;done))
    (first|(go_at_call 87;refine(cT p).mono ?_;rintro e w1 ⟨rfl,aq⟩;obtain rfl:=aq.symm))
   clear p c3;go_wp2_with fail;refine(cT aa).mono ?_;rintro e w3 ⟨vL,rfl,X,aI⟩;have aJ:Hid (nH w O v w3 j E l dd n cY Q R O C m):=(cT z).below aI;obtain⟨pl,cl,rfl⟩:=l5 X;have aK:=cU X;clear X aI aa s0 z;go_wp2_with fail;refine(iU w3).mono ?_;rintro e wm ⟨rfl,u⟩;obtain rfl:=u.symm;go_wp2_with fail;have aL:Hid (nH w O v w3 j E l dd n cY Q R O C m/\ep Q (gone M L 0)=(0,Q)/\Sm Q nn b/\w3.ownsRow 0 9 1 (J pl (Wn L) cl) (Wn L) (Rd.strs L)):=⟨cT aJ,rfl,cT HS,Dk.qQ (cT aK)⟩
   obtain⟨wA,aW⟩:∃wA,wA=wr:=⟨wr,rfl⟩
   subst aW;clear aJ aK
   go_loopw [4,30] (λf i wr=>∃(k:Nat) (r:Rk) (Ok:Nat->Prop),k<=Wn L/\f=.bool (!(gone M L k).isEmpty)/\i=Z Y k/\Hid (nH w O v wr j E l dd n cY r R Ok C m/\ep Q (gone M L k)=(0,r)/\Sm r nn b/\wr.ownsRow 0 9 1 (J pl (Wn L) cl) (Wn L) (Rd.strs L))) (λ_ i _=>Wn L-(intOf i).toNat)
   case atStart=>exact⟨0,Q,O,Tp _,rfl,rfl,aL⟩
   case round =>
    clear aL;obtain⟨k,r,Ok,hk,rfl,rfl,y⟩:=hrel;by_cases ab:k<Wn L
    .have aM:(k:Int)<(Wn L:Int):=by omega
     obtain⟨bg,bh,aX,aN⟩:=dm (cT y).2.2.2;injection aX with aY _ aZ;subst aY aZ;obtain⟨g,rfl,_,_,c0⟩:=aN k (by omega);obtain⟨a,HA⟩:∃a,Hid (L[k]=a):=⟨L[k],cU rfl⟩
     replace c0:wr.cell? ⟨g,k,U⟩=S (H a):=by
      rw[c0,<-cT HA];unfold Rd.strs;rw[Vd,Tw ab];rfl
     have I:=cU (pK l j dd n cY C m a wr (cT y).1.sf.sh (cT aP) (cT y).1.sf.pw);rw[cT aH] at I;clear aN;obtain⟨kb,ad⟩:∃x,Hid (zp M a=x):=⟨_,rfl⟩
     rw[cT ad] at I;cases kb with
     |true =>
      have HG:=cU (LQ ab (by rw[cT HA];exact cT ad));go_wp2_with fail;refine(cT I).mono ?_;rintro e w4 ⟨rfl,G⟩;obtain⟨V,h2,h3,h4⟩:=cT y;have a1:Hid (nH w O v w4 j E l dd n cY r R Ok C m/\ep Q (gone M L (k+1))=(0,r)/\Sm r nn b/\w4.ownsRow 0 9 1 (J (S ⟨g,0,U⟩) (Wn L) cl) (Wn L) (Rd.strs L)):=⟨V.below G,by rw[cT HG];exact h2,h3,de h4 G⟩
      clear y I c0 G V h2 h3 h4;go_wp2;go_roundw
      case rel=>exact⟨k+1,r,Ok,by omega,by rw[cT HG],by go_num,a1⟩
      case measure=>simp[intOf];omega
     |false =>
      have HG:=cU (KW ab (by rw[cT HA];exact cT ad));have ae:=cU (CW ab (by rw[cT HA];exact cT ad));rw[cT HA] at HG ae;have za:a.size<=1048576:=by
       have:=Qk (cT HS) (cT aS) (a:=a) (by rw[cT HL,<-cT HA];exact Uc _);omega
      go_wp2_with fail;refine(cT I).mono ?_;rintro e w4 ⟨rfl,G⟩;obtain⟨V,h2,h3,h4⟩:=cT y;have t:Hid (nH w O v w4 j E l dd n cY r R Ok C m):=V.below G;have ar:=cU (de h4 G);have s0:=(cT t).sf.sh.c0;have au:=cU (Pk.ry a (cT t).sf.two h3 ak za);have av:=cU h3;have HE:=cU h2;have A:Hid (dz r (m7 a)=r.remove a):=rfl;obtain⟨er,B⟩:∃x,Hid ((r.remove a).1=x):=⟨_,rfl⟩
      rw[cT B] at au;clear y I c0 G V h2 h3 h4;go_wp2_with fail;refine(cT au).mono ?_;rintro e w5 ⟨rfl,O5,t5,s5⟩;have s:=cU ((cT t).op t5 s5);have aw:Hid (w5.ownsRow 0 9 1 (J (S ⟨g,0,U⟩) (Wn L) cl) (Wn L) (Rd.strs L)):=Dk.dy (cT ar) s5.kept (λg' a6 a7=>DT (cT t).sf (cT ar) (by decide) g' a6 (Wh a7));clear au t ar t5 s5 s0;by_cases hz:er=0
      .subst hz;have a8:Hid (nH w O v w5 j E l dd n cY (r.remove a).2 R O5 C m/\ep Q (gone M L (k+1))=(0,(r.remove a).2)/\Sm (r.remove a).2 nn b/\w5.ownsRow 0 9 1 (J (S ⟨g,0,U⟩) (Wn L) cl) (Wn L) (Rd.strs L)):=by
        refine⟨cT s,?_,(cT av).remove a,cT aw⟩;rw[cT HG,iD,cT HE,Tg rfl,o9,cT A,<-cT B]
       have ba:Hid ((gone M L (k+1)).isEmpty=Wg):=by show _=_;rw[cT HG];simp
       clear s aw HE A B av ae;go_wp2_with fail;refine(iU w5).mono ?_;rintro e wm ⟨rfl,u⟩;obtain rfl:=u.symm;go_wp2;go_roundw
       case rel=>exact⟨k+1,_,O5,by omega,by rw[cT ba];rfl,by go_num,a8⟩
       case measure=>simp[intOf];omega
      .have HF:Hid (P (.panicked (gE er)) w5):=by
        show P _ _
        obtain⟨rest,hr⟩:=cT ae;have bc:(dz r (m7 a)).1≠0:=by rw[cT A,cT B];exact hz
        rw[<-cT hO,hr,iD,cT HE,Tg rfl,ql bc,cT A];exact⟨λh=>absurd ((cT B).symm.trans h) hz,λ_=>by rw[cT B],O5,C,m,λh=>absurd ((cT B).symm.trans h) hz,(cT s).sf,(cT s).st⟩
       clear s aw HE A B av ae;go_wp2_with fail;refine(jN er hz w5).mono ?_;rintro e wm ⟨rfl,u⟩;obtain rfl:=u.symm;exact⟨rfl,cT HF⟩
    .have aM:¬(k:Int)<(Wn L:Int):=by omega
     have bd:k=Wn L:=by omega
     subst bd;obtain⟨V,h2,h3,h4⟩:=cT y;have o:=cU V;have HE:=cU h2;have s0:=V.sf.sh.c0;have af:=cU (Pk.sP V.sf.two h3 ak);have A:Hid (dz r n9=r.fc):=rfl;have ag:=cU (Ap (K:=M) (L:=L));clear y V h2 h3 h4;cases ax:(gone M L (Wn L)).isEmpty with
     |true =>
      have HF:Hid (P (Wd (Wb #[])) wr):=by
       show P _ _
       have hn:gone M L (Wn L)=[]:=List.isEmpty_iff.1 ax;have he:=cT HE;rw[hn] at he;have hq:r=Q:=(congrArg Prod.snd he).symm;rw[<-cT hO,cT ag,Tg hn];refine⟨λ_=>rfl,λh=>absurd rfl h,Ok,C,m,λ_=>rfl,?_,(cT o).st⟩;have:=(cT o).sf;rw[hq] at this;exact this
      clear o HE af A ag s0;go_wp2;exact Tm (Tl rfl _ _ _) rfl (cT HF)
     |false =>
      have hn:gone M L (Wn L)≠[]:=λe=>by rw[e] at ax;cases ax
      obtain⟨e5,ah⟩:∃x,Hid (r.fc.1=x):=⟨_,rfl⟩
      rw[cT ah] at af;have aO:Hid (ep Q (dU L M)=r.fc):=by
       show _=_
       rw[cT ag,Tf hn,iD,cT HE,Tg rfl,o9];rfl
      clear HE A ag hn;go_wp2_with fail;refine(cT af).mono ?_;rintro e w6 ⟨rfl,O6,t6,s6⟩;have ay:=cU ((cT o).op t6 s6);have HF:Hid (∀en,(e5=0->en=Wd (Wb #[]))->(e5≠0->en=.panicked (gE e5))->P en w6):=by
       show ∀en,_
       intro en k1 k2;rw[<-cT hO,cT aO];exact⟨λh=>k1 ((cT ah).symm.trans h),λh=>by rw[cT ah];exact k2 (λq=>h ((cT ah).trans q)),O6,C,m,λ_=>rfl,(cT ay).sf,(cT ay).st⟩
      clear af t6 s6 s0 o aO ay;by_cases hz:e5=0
      .subst hz;go_wp2_with fail;refine(iU w6).mono ?_;rintro e wm ⟨rfl,u⟩;obtain rfl:=u.symm;go_wp2;exact Tm (Tl rfl _ _ _) rfl (cT HF _ (λ_=>rfl) (λh=>absurd rfl h))
      .go_wp2_with fail;refine(jN e5 hz w6).mono ?_;rintro e wm ⟨rfl,u⟩;obtain rfl:=u.symm;exact⟨rfl,cT HF _ (λh=>absurd h hz) (λ_=>rfl)⟩
end Ru
namespace Ru
open Sp (dt gW)
open Rd (Rk e0)
open Pk (jd Sm fx TP di cX dh)
open Dk (Kept)
def OR(O:Nat->Prop)(b:Nat)(v:V6)(RB k:Nat):Prop:=OO O b v k\/k=RB
variable {w:V5}{Q R:Rk}{T:Sn.Tb}{dd cY n:Nat}{v:V6}
theorem je{b E e:Nat}{O:Nat->Prop}(h:ot w b E e dd n cY Q R O v T){k:Nat}{c:Array V6}{t:TypeId}(j:w.heap[k]?=S (D c t (0,0)))(ht:t∉iX/\t≠113/\t≠181): ¬OO O e v k:=λr=>by
 rcases r with e1|e1
 .exact nV h.two j ht.1 e1
 .rcases e1 with e1|e1
  .subst e1;exact dh j h.sh.tab.blk ht.2.1 rfl
  .obtain⟨m,l,_⟩:=di h.sh.tab.row e1;exact dh j l ht.2.2 rfl
structure uk (w:V5) (D E S dd n cY:Nat) (Q R:Rk) (O:Nat->Prop) (v:V6) (T:Sn.Tb) (FB EB SB RB every dp sv:Nat) (y z:V6):Prop where
 sf:ot w D E S dd n cY Q R O v T
 fb:w.heap[FB]?=some (.cells #[Z Y (dp:Int),y,z] 80 (0,0))
 eb:w.heap[EB]?=some (.cells #[Z Y (every:Int)] 3 (0,0))
 sb:w.heap[SB]?=some (.cells #[V9 (some ⟨S,0,U⟩)] 85 (0,0))
 rb:w.heap[RB]?=some (.cells #[Z Y (dp:Int),Z Y (sv:Int)] 43 (0,0))
 rp:RB≠6
variable {every dp EB sv FB RB SB:Nat}{z y:V6}
theorem uk.below{w':V5}{b E e:Nat}{O:Nat->Prop}(h:uk w b E e dd n cY Q R O v T FB EB SB RB every dp sv y z)(hb:V4 w w'): uk w' b E e dd n cY Q R O v T FB EB SB RB every dp sv y z:=⟨h.sf.below hb,(hb.block _ (cX h.fb)).trans h.fb,(hb.block _ (cX h.eb)).trans h.eb,(hb.block _ (cX h.sb)).trans h.sb,(hb.block _ (cX h.rb)).trans h.rb,h.rp⟩
theorem uk.next{w':V5}{b E j:Nat}{u:Rk}{O m:Nat->Prop}{v':V6}{A:Sn.Tb}(h:uk w b E j dd n cY Q R O v T FB EB SB RB every dp sv y z)(B:ot w' b E j dd n cY u R m v' A)(l:fx w (OO O j v) w' (OO m j v')): uk w' b E j dd n cY u R m v' A FB EB SB RB every dp sv y z/\fx w (OR O j v RB) w' (OR m j v' RB):=by
 refine⟨⟨B,?_,?_,?_,?_,h.rp⟩,⟨l.kept.mono λk _ r C=>r (Wh C),λk r=>?_⟩⟩
 .exact(l.far (cX h.fb) (je h.sf h.fb (by decide))).1.trans h.fb
 .exact(l.far (cX h.eb) (je h.sf h.eb (by decide))).1.trans h.eb
 .exact(l.far (cX h.sb) (je h.sf h.sb (by decide))).1.trans h.sb
 .exact(l.far (cX h.rb) (je h.sf h.rb (by decide))).1.trans h.rb
 .rcases r with e|e
  .rcases l.own k e with e|e
   .exact Wh (Wh e)
   .exact Wi e
  .exact Wh (Wi e)
theorem uk.count{b E j:Nat}{O:Nat->Prop}(h:uk w b E j dd n cY Q R O v T FB EB SB RB every dp sv y z)(m:Int)(r:m=((sv+1:Nat):Int)): uk (w.setCell ⟨RB,1,U⟩ (Z Y m)) b E j dd n cY Q R O v T FB EB SB RB every dp (sv+1) y z/\fx w (OR O j v RB) (w.setCell ⟨RB,1,U⟩ (Z Y m)) (OR O j v RB):=by
 have l:Kept w (w.setCell ⟨RB,1,U⟩ (Z Y m)) (λk=>k≠RB):=(Kept.refl w _).setCell (λl=>l rfl) _;have B:=Tq w RB 1 _ _ (Z Y m) h.rb;have A:∀k,OO O j v k->k≠RB:=λk u e=>je h.sf h.rb (by decide) (e ▸ u)
 refine⟨⟨⟨oY h.sf.two l (λk l=>A k (Wh l)),h.sf.sh.kept l (λk l=>A k (Wi l)),h.sf.apart,h.sf.pw.keep (l.block _ h.sf.pw.lt (λe=>h.rp e.symm)),h.sf.np⟩,?_,?_,?_,?_,h.rp⟩,⟨l.mono λk _ l e=>l (Wi e),λk l=>Wh l⟩⟩
 .exact(l.block _ (cX h.fb) (dh h.fb h.rb (by decide))).trans h.fb
 .exact(l.block _ (cX h.eb) (dh h.eb h.rb (by decide))).trans h.eb
 .exact(l.block _ (cX h.sb) (dh h.sb h.rb (by decide))).trans h.sb
 .rw[B,r];rfl
theorem JX(b E j dd n cY:Nat)(Q R:Rk)(O:Nat->Prop)(v:V6)(T:Sn.Tb)(FB EB SB RB every dp sv:Nat)(y z:V6)(step:Nat)(p:Option Addr)(cap:Nat)(all:Int)(w:V5)(h:uk w b E j dd n cY Q R O v T FB EB SB RB every dp sv y z)(he:0<every)(B:every<=50)(K:step<=9999999999)(L:dp<=9999999999)(r:¬(dp<step/\step%every=0)):V7 prog 52 #[Wc #[Z Y (step:Int),J p n cap,Z Y all],V9 (S ⟨FB,0,U⟩),V9 (S ⟨EB,0,U⟩),V9 (S ⟨SB,0,U⟩),V9 (S ⟨RB,0,U⟩)] w λe C=>e=Wd (Wb #[])/\V4 w C:=by
 have M:w.cell? ⟨FB,0,U⟩=S (Z Y (dp:Int)):=by rw[Ti w _ 0 _ _ _ h.fb];rfl
 have F:w.cell? ⟨EB,0,U⟩=S (Z Y (every:Int)):=by rw[Ti w _ 0 _ _ _ h.eb];rfl
 have G:=cX h.fb;have I:=cX h.eb;have A:Hid (∀o,V4 w (w.alloc o)):=λo=>(Th _ w).alloc V2 o
 clear h;by_cases u:dp<step
 .have l:(dp:Int)<(step:Int):=by omega
  have m:¬step%every=0:=λe=>r ⟨u,e⟩
  have P:((step:Int)%(every:Int) == 0)=Wg:=Tt.2 λe=>m (by
   have V:((step%every:Nat):Int)=0:=by rw[Int.natCast_emod];exact e
   omega)
  go_enter func52,ntmps52;go_wp2;exact Tm (Tl rfl _ _ _) rfl ⟨rfl,cT A _⟩
 .have l:¬(dp:Int)<(step:Int):=by omega
  go_enter func52,ntmps52;go_wp2;exact Tm (Tl rfl _ _ _) rfl ⟨rfl,cT A _⟩
theorem GL{k:Nat}{x:Sn.Ce}(h:∀y∈T,y.1<k): Sn.dD T k=Wg/\Sn.gJ T k x=T++[(k,x)]:=by
 have b:Sn.dD T k=Wg:=by
  cases j:Sn.dD T k with
  |false=>rfl
  |true=>obtain⟨e,l⟩:=Sn.iP.1 j;exact absurd (h _ l) (by simp)
 refine⟨b,?_⟩;have m:Sn.dv T k=Wn T:=by
  unfold Sn.dv;rw[VL.2 (λy r=>by simpa [Sn.lt] using h y r)]
 unfold Sn.gJ;rw[m,Ut,List.drop_length]
def uc(Q:Rk)(c:Sp.Cfg)(n step dd:Nat)(K:List Nat)(cY sv:Nat):Int × Nat × Rk:=if (ep Q (eM c n step dd)).1≠0 then ((ep Q (eM c n step dd)).1,sv,(ep Q (eM c n step dd)).2)
 else ((ep (ep Q (eM c n step dd)).2 (fF ((K++[step]).take (Wn K+1-cY)))).1,sv+1,(ep (ep Q (eM c n step dd)).2 (fF ((K++[step]).take (Wn K+1-cY)))).2)
def E9(w:V5)(b E j dd n cY:Nat)(R:Rk)(O:Nat->Prop)(v:V6)(K:List Nat)(step:Nat)(FB EB SB RB every dp:Nat)(y z:V6)(r:Int × Nat × Rk)(e:Ending)(w':V5):Prop:=(r.1=0->e=Wd (Wb #[]))/\(r.1≠0->e=.panicked (gE r.1))/\∃l m u,(r.1=0->u.map (·.1)=(K++[step]).drop (Wn K+1-cY))/\uk w' b E j dd n cY r.2.2 R l m u FB EB SB RB every dp r.2.1 y z/\fx w (OR O j v RB) w' (OR l j m RB)
theorem Kc(j E l dd n cY nn b:Nat)(Q R:Rk)(O:Nat->Prop)(v:V6)(T:Sn.Tb)(FB EB SB RB every dp sv:Nat)(y z:V6)(step:Nat)(p:Option Addr)(cap:Nat)(c:Sp.Cfg)(w:V5)(h:uk w j E l dd n cY Q R O v T FB EB SB RB every dp sv y z)(he:0<every)(aG:every<=50)(hs:step<=9999999999)(hf:dp<step)(aa:step%every=0)(hv:kA w p c n)(hn:n<=64)(aw:0<n)(hj:dd<4294967296)(hT:∀x∈T,x.1<step)(ab:Sm Q nn b)(ad:nn+8<=1000000000)(ax:1000<=b)(hb:b<=2097152)(ay:Wn T<1000000000)(hm:cY<=1000000000)(aH:sv<=1000000000):V7 prog 52 #[Wc #[Z Y (step:Int),J p n cap,Z Y c.all],V9 (S ⟨FB,0,U⟩),V9 (S ⟨EB,0,U⟩),V9 (S ⟨SB,0,U⟩),V9 (S ⟨RB,0,U⟩)] w (E9 w j E l dd n cY R O v (T.map (·.1)) step FB EB SB RB every dp y z (uc Q c n step dd (T.map (·.1)) cY sv)):=by
 generalize s:E9 w j E l dd n cY R O v (T.map (·.1)) step FB EB SB RB every dp y z (uc Q c n step dd (T.map (·.1)) cY sv)=P;replace s:=cU s;obtain⟨ae,af⟩:=GL (x:=⟨p,n,cap,c.all⟩) hT;have A:=gA.save c n step dd ab hn ax;have ag:Hid (∀W,W=w.alloc (D #[Z Y (step:Int),J p n cap,Z Y c.all] 80)->W.heap[w.heap.size]?=S (D #[Z Y (step:Int),J p n cap,Z Y c.all] 80 (0,0))/\V4 w W):=by
  show ∀W,_
  rintro W rfl;exact⟨Tk w _,(Th _ w).alloc V2 _⟩
 have f0:w.cell? ⟨FB,0,U⟩=S (Z Y (dp:Int)):=by rw[Ti w _ 0 _ _ _ h.fb];rfl
 have az:w.cell? ⟨EB,0,U⟩=S (Z Y (every:Int)):=by rw[Ti w _ 0 _ _ _ h.eb];rfl
 have s0:w.cell? ⟨SB,0,U⟩=S (V9 (S ⟨l,0,U⟩)):=by rw[Ti w _ 0 _ _ _ h.sb];rfl
 have aI:=cX h.fb;have aJ:=cX h.eb;have aK:=cX h.sb;have M:Hid (∀W,V4 w W->V7 prog 53 #[V9 (S ⟨l,0,U⟩),Wc #[Z Y (step:Int),J p n cap,Z Y c.all]] W (mS W j E l dd n cY R O v (λT'=>T'=T++[(step,⟨p,n,cap,c.all⟩)]) (ep Q (eM c n step dd)))):=λW hW=>by
  have:=Jy j E l dd n cY (nn+8) b step Q R O v T p cap c W (h.sf.below hW) (hv.below hW) hn aw hj hs A ad hb ay;rw[ae,Tf (by decide),af] at this;exact this
 have m:=cU h;have aA:=cU A;have HT:Hid (∀x∈T++[(step,(⟨p,n,cap,c.all⟩:Sn.Ce))],x.1<=9999999999):=λx hx=>by
  rcases TB.1 hx with e|e
  .have:=hT x e;omega
  .rw[TL.1 e];exact hs
 have aF:(dp:Int)<(step:Int):=by omega
 have hq:((step:Int)%(every:Int) == 0)=We:=by rw[<-Int.natCast_emod,aa];rfl
 clear h hv A ae af ab hT;obtain⟨r1,V⟩:∃r,Hid (ep Q (eM c n step dd)=r):=⟨_,rfl⟩
 rw[cT V] at M;unfold uc at s;rw[cT V] at s;go_enter func52,ntmps52;go_wp2_with fail;generalize hW:Wl _ _=W0;obtain⟨aB,C⟩:=cT ag W0 hW.symm;clear hW ag;have ah:=cU ((cT m).below C);have F:Hid (fx w (OR O l v RB) W0 (OR O l v RB)):=fx.below _ C;refine(cT M W0 C).mono ?_;rintro e g ⟨k1,k2,O1,v1,T1,hG,ai,aj⟩;obtain⟨ak,G⟩:=(cT ah).next ai aj
 have u:=cU ak;have B:=cU ((cT F).trans G);clear ak G ai aj M aB C ah F m f0 az s0;by_cases X:r1.1=0
 .obtain rfl:=k1 X;have aC:T1=T++[(step,⟨p,n,cap,c.all⟩)]:=hG X;subst aC;have aD:Hid (Sm r1.2 (nn+8) b):=by rw[<-cT V];exact(cT aA).all
  have aL:g.cell? ⟨RB,1,U⟩=S (Z Y (sv:Int)):=by rw[Ti g _ 1 _ _ _ (cT u).rb];rfl
  have aM:g.frozen? ⟨RB,1,U⟩=Wg:=by simp[World.frozen?,(cT u).rb]
  have s1:g.cell? ⟨SB,0,U⟩=S (V9 (S ⟨l,0,U⟩)):=by rw[Ti g _ 0 _ _ _ (cT u).sb];rfl
  have aN:SB≠RB:=dh (cT u).sb (cT u).rb (by decide);obtain⟨an,I⟩:=(cT u).count ((sv:Int)+1) (by omega);have q:=cU an;have K:=cU ((cT B).trans I);clear an I u B k1 k2 hG;go_wp2_with fail;generalize World.setCell _ _ _=w2 at q K ⊢;have aE:(T++[(step,(⟨p,n,cap,c.all⟩:Sn.Ce))]).length=(T.map (·.1)).length+1:=by simp
  have ao:(T++[(step,(⟨p,n,cap,c.all⟩:Sn.Ce))]).map (·.1)=T.map (·.1)++[step]:=by simp
  have t:=Je j E l dd n cY (nn+8) b r1.2 R O1 v1 (T++[(step,⟨p,n,cap,c.all⟩)]) w2 (cT q).sf (cT HT) (gA.tK (λo ho=>(uG _ o ho).1) (cT aD)) ad hm;rw[ao,aE] at t;refine t.mono ?_;rintro e w3 ⟨k1,k2,O3,v3,T3,hG,aq,ar⟩;obtain⟨au,L⟩:=(cT q).next aq ar
  have HF:Hid (P e w3):=by
   show P _ _
   rw[<-cT s,Tf (by rw[X];simp)];refine⟨k1,k2,O3,v3,T3,λh=>?_,au,(cT K).trans L⟩;rw[hG h,List.map_drop,ao]
  by_cases av:(ep r1.2 (fF ((T.map (·.1)++[step]).take ((T.map (·.1)).length+1-cY)))).1=0
  .obtain rfl:=k1 av;clear t hG aq ar au L k1 k2;go_wp2;exact Tm (Tl rfl _ _ _) rfl (cT HF)
  .obtain rfl:=k2 av;exact⟨rfl,cT HF⟩
 .obtain rfl:=k2 X;have HF:Hid (P (.panicked (gE r1.1)) g):=by
   show P _ _
   rw[<-cT s,Tg X];exact⟨λh=>absurd h X,λ_=>rfl,O1,v1,T1,λh=>absurd h X,cT u,cT B⟩
  exact⟨rfl,cT HF⟩
end Ru
namespace Ru
open Sp (Pg Ed Cfg nG quiet lK fi gy eY iM)
open Rd (Rk e0)
open Pk (jd Sm fx TP di cX dh)
open Dk (Kept)
variable {every dp s cap sv dd n:Nat}{P:Pg}{out:Out}{Es:List Ed}{c:Cfg}{Q:Rk}
theorem Jx{keep g:Nat}{K:List Nat}(h:rz P Es cap every keep dd n dp (g+1) s c K sv Q=out){e:Int}(he:gy cap c s=e)(l:e≠0):((out.res.outcome:Int)=e/\(out.res.step:Int)=(s:Int)/\(out.res.dG:Int)=0/\out.res.dJ=c.val)/\out.saved=sv/\out.e=0/\out.R=Q:=by
 rw[rz] at h;unfold gy at he;by_cases b:quiet c s=We
 .rw[Tg b] at h he;rw[<-h,<-he];exact⟨⟨O,O,O,O⟩,O,O,O⟩
 .rw[Tf b] at h he;by_cases j:cap<=s
  .rw[Tg j] at h he;rw[<-h,<-he];exact⟨⟨O,O,O,O⟩,O,O,O⟩
  .rw[Tf j] at he;exact absurd he.symm l
def PJ(P:Pg)(Es:List Ed)(cap every keep dd n dp g s sv:Nat)(c:Cfg)(K:List Nat)(Q:Rk)(o:Except Nat Sp.Acc)(out:Out):Prop:=match o with
 |.error i=>out=⟨⟨3,s,i,c.val⟩,sv,0,Q⟩
 |.ok a=>rz P Es cap every keep dd n dp g (s+1) (fi P n a) K sv Q=out
theorem E6{keep g:Nat}{K:List Nat}(h:rz P Es cap every keep dd n dp (g+1) s c K sv Q=out)(he:gy cap c s=0):s<cap/\(¬(dp<s/\s%every=0)->PJ P Es cap every keep dd n dp g s sv c K Q (lK P Es c s n) out)/\
  ((dp<s/\s%every=0)->((uc Q c n s dd K keep sv).1≠0->out=⟨fO,(uc Q c n s dd K keep sv).2.1,(uc Q c n s dd K keep sv).1,(uc Q c n s dd K keep sv).2.2⟩)/\
     ((uc Q c n s dd K keep sv).1=0->PJ P Es cap every keep dd n dp g s (uc Q c n s dd K keep sv).2.1 c ((K++[s]).drop (Wn K+1-keep)) (uc Q c n s dd K keep sv).2.2 (lK P Es c s n) out)):=by
 rw[rz] at h;unfold gy at he;by_cases m:quiet c s=We
 .rw[Tg m] at he;exact absurd he (by decide)
 .rw[Tf m] at h he;by_cases r:cap<=s
  .rw[Tg r] at he;exact absurd he (by decide)
  .rw[Tf r] at h;refine⟨by omega,λhd=>?_,λhd=>?_⟩
   .rw[Tf hd] at h;unfold PJ;cases b:lK P Es c s n with
    |error i=>rw[b] at h;exact h.symm
    |ok a=>rw[b] at h;exact h
   .rw[Tg hd] at h;unfold uc;by_cases l:(ep Q (eM c n s dd)).1≠0
    .rw[Tg l] at h ⊢;exact⟨λ_=>h.symm,λe=>absurd e l⟩
    .rw[Tf l] at h ⊢;by_cases j:(ep (ep Q (eM c n s dd)).2 (fF ((K++[s]).take (Wn K+1-keep)))).1≠0
     .rw[Tg j] at h;exact⟨λ_=>h.symm,λe=>absurd e j⟩
     .rw[Tf j] at h;refine⟨λe=>absurd e j,λ_=>?_⟩;unfold PJ;cases b:lK P Es c s n with
      |error i=>rw[b] at h;exact h.symm
      |ok a=>rw[b] at h;exact h
variable {w:V5}{T:Sn.Tb}{v:V6}
theorem uk.not{b E j cY:Nat}{R:Rk}{O:Nat->Prop}{FB m r RB:Nat}{y z:V6}(h:uk w b E j dd n cY Q R O v T FB m r RB every dp sv y z){k:Nat}{c:Array V6}{t:TypeId}(l:w.heap[k]?=S (D c t (0,0)))(ht:(t∉iX/\t≠113/\t≠181)/\t≠43): ¬OR O j v RB k:=λu=>by
 rcases u with e|e
 .exact je h.sf l ht.1 e
 .subst e;exact dh l h.rb ht.2 rfl
theorem uk.set{b E j cY:Nat}{R:Rk}{O:Nat->Prop}{FB r u RB:Nat}{y z:V6}(h:uk w b E j dd n cY Q R O v T FB r u RB every dp sv y z){K:Nat}(C:¬OO O j v K)(m:K≠FB/\K≠r/\K≠u/\K≠RB/\K≠6)(i:Nat)(x:V6): uk (w.setCell ⟨K,i,U⟩ x) b E j dd n cY Q R O v T FB r u RB every dp sv y z:=by
 have l:Kept w (w.setCell ⟨K,i,U⟩ x) (λk=>k≠K):=(Kept.refl w _).setCell (λl=>l rfl) _;have B:∀k,OO O j v k->k≠K:=λk A e=>C (e ▸ A)
 exact⟨⟨oY h.sf.two l (λk l=>B k (Wh l)),h.sf.sh.kept l (λk l=>B k (Wi l)),h.sf.apart,h.sf.pw.keep (l.block _ h.sf.pw.lt (λe=>m.2.2.2.2 e.symm)),h.sf.np⟩,(l.block _ (cX h.fb) (λe=>m.1 e.symm)).trans h.fb,(l.block _ (cX h.eb) (λe=>m.2.1 e.symm)).trans h.eb,(l.block _ (cX h.sb) (λe=>m.2.2.1 e.symm)).trans h.sb,(l.block _ (cX h.rb) (λe=>m.2.2.2.1 e.symm)).trans h.rb,h.rp⟩
structure Rc where
 (D E S dd n cY FB EB SB RB every dp:Nat)
 (R:Rk)
 (y z:V6)
abbrev Rc.I(r:Rc)(w:V5)(Q:Rk)(O:Nat->Prop)(v:V6)(T:Sn.Tb)(sv:Nat):Prop:=uk w r.D r.E r.S r.dd r.n r.cY Q r.R O v T r.FB r.EB r.SB r.RB r.every r.dp sv r.y r.z
structure GI (r:Rc) (w:V5) (O0:Nat->Prop) (v0:V6) (nn b:Nat) (P:Pg) (Es:List Ed) (cZ:Nat) (out:Out) (jc:Array V6) (wr:V5) (s:Nat) (c:Cfg) (p:Option Addr) (cap:Nat) (Q:Rk) (O:Nat->Prop) (v:V6) (T:Sn.Tb) (sv:Nat):Prop where
 jb:wr.heap[N (E w)]?=S (D jc 75 (0,0))
 cb:wr.heap[N (E w)+1]?=S (D #[Z Y (s:Int),J p r.n cap,Z Y c.all] 80 (0,0))
 ob:wr.heap[N (E w)+1+1]?=S (D #[Z .u8 0,Z Y 0,Z Y 0,J U 0 0] 32 (0,0))
 row:wr.ownsRow 0 104 4 (J p r.n cap) r.n (jk c.val c.fD c.iH c.jf r.n)
 ok:eY r.n c
 rs:r.I wr Q O v T sv
 st:fx w (OR O0 r.S v0 r.RB) wr (OR O r.S v r.RB)
 go:rz P Es cZ r.every r.cY r.dd r.n r.dp ((cZ-s)+1) s c (T.map (·.1)) sv Q=out
 sm:Sm Q (nn+8*sv) b
 NT:sv+r.dp<=s
 key:∀x∈T,x.1<=r.dp\/x.1<s
 len:Wn T<=r.cY
 lt:r.FB<N (E w)/\r.EB<N (E w)/\r.SB<N (E w)/\r.RB<N (E w)/\6<N (E w)
theorem GI.below{r:Rc}{O0 O:Nat->Prop}{v0:V6}{nn b:Nat}{cZ:Nat}{jc:Array V6}{wr w':V5}{p:Option Addr}(h:GI r w O0 v0 nn b P Es cZ out jc wr s c p cap Q O v T sv)(hb:V4 wr w'): GI r w O0 v0 nn b P Es cZ out jc w' s c p cap Q O v T sv:=⟨(hb.block _ (cX h.jb)).trans h.jb,(hb.block _ (cX h.cb)).trans h.cb,(hb.block _ (cX h.ob)).trans h.ob,de h.row hb,h.ok,h.rs.below hb,h.st.trans (fx.below _ hb),h.go,h.sm,h.NT,h.key,h.len,h.lt⟩
end Ru
namespace Ru
open Sp (Pg Ed Cfg nG quiet lK fi gy eY iM)
open Rd (Rk e0)
open Pk (jd Sm fx TP di cX dh)
open Dk (Kept)
structure Ma (r:Rc) (w:V5) (O0:Nat->Prop) (v0:V6) (nn b:Nat) (P:Pg) (Es:List Ed) (cZ:Nat) (out:Out) (jc:Array V6) (wr:V5) (s:Nat) (c:Cfg) (p:Option Addr) (cap:Nat) (Q:Rk) (O:Nat->Prop) (v:V6) (T:Sn.Tb) (sv:Nat):Prop where
 jb:wr.heap[N (E w)]?=S (D jc 75 (0,0))
 cb:wr.heap[N (E w)+1]?=S (D #[Z Y (s:Int),J p r.n cap,Z Y c.all] 80 (0,0))
 ob:wr.heap[N (E w)+1+1]?=S (D #[Z .u8 0,Z Y 0,Z Y 0,J U 0 0] 32 (0,0))
 row:wr.ownsRow 0 104 4 (J p r.n cap) r.n (jk c.val c.fD c.iH c.jf r.n)
 ok:eY r.n c
 rs:r.I wr Q O v T sv
 st:fx w (OR O0 r.S v0 r.RB) wr (OR O r.S v r.RB)
 go:PJ P Es cZ r.every r.cY r.dd r.n r.dp (cZ-s) s sv c (T.map (·.1)) Q (lK P Es c s r.n) out
 sm:Sm Q (nn+8*sv) b
 NT:sv+r.dp<=s+1
 key:∀x∈T,x.1<=r.dp\/x.1<s+1
 len:Wn T<=r.cY
 lt:r.FB<N (E w)/\r.EB<N (E w)/\r.SB<N (E w)/\r.RB<N (E w)/\6<N (E w)
section
variable {r : Rc} {w : World} {O0 O : Nat → Prop} {v0 v : Value} {nn b : Nat} {P : Pg} {Es : List Ed} {cZ s cap sv : Nat} {out : Out} {jc : Array Value} {wr w' : World} {c : Cfg} {p : Option Addr} {Q : Rk} {T : Sn.Tb}
theorem Ma.below(h:Ma r w O0 v0 nn b P Es cZ out jc wr s c p cap Q O v T sv)(hb:V4 wr w'):Ma r w O0 v0 nn b P Es cZ out jc w' s c p cap Q O v T sv:=⟨(hb.block _ (cX h.jb)).trans h.jb,(hb.block _ (cX h.cb)).trans h.cb,(hb.block _ (cX h.ob)).trans h.ob,de h.row hb,h.ok,h.rs.below hb,h.st.trans (fx.below _ hb),h.go,h.sm,h.NT,h.key,h.len,h.lt⟩
theorem GI.OG(h:GI r w O0 v0 nn b P Es cZ out jc wr s c p cap Q O v T sv)(he:gy cZ c s=0)(hd:¬(r.dp<s/\s%r.every=0)):Ma r w O0 v0 nn b P Es cZ out jc wr s c p cap Q O v T sv:=⟨h.jb,h.cb,h.ob,h.row,h.ok,h.rs,h.st,(E6 h.go he).2.1 hd,h.sm,by have:=h.NT;omega,λx j=>by rcases h.key x j with e | e <;> omega,h.len,h.lt⟩
theorem GI.due{B:Nat->Prop}{v':V6}{A:Sn.Tb}(h:GI r w O0 v0 nn b P Es cZ out jc wr s c p cap Q O v T sv)(he:gy cZ c s=0)(hd:r.dp<s/\s%r.every=0)(m:(uc Q c r.n s r.dd (T.map (·.1)) r.cY sv).1=0)(C:A.map (·.1)=(T.map (·.1)++[s]).drop ((T.map (·.1)).length+1-r.cY))(M:r.I w' (uc Q c r.n s r.dd (T.map (·.1)) r.cY sv).2.2 B v' A (uc Q c r.n s r.dd (T.map (·.1)) r.cY sv).2.1)(u:fx wr (OR O r.S v r.RB) w' (OR B r.S v' r.RB))(R:r.n<=64)(hb:1000<=b):Ma r w O0 v0 nn b P Es cZ out jc w' s c p cap (uc Q c r.n s r.dd (T.map (·.1)) r.cY sv).2.2 B v' A (uc Q c r.n s r.dd (T.map (·.1)) r.cY sv).2.1:=by
 have F:=((E6 h.go he).2.2 hd).2 m;have z:(uc Q c r.n s r.dd (T.map (·.1)) r.cY sv).2.1=sv+1:=by
  unfold uc at m ⊢;split at m
  .rename_i l;exact absurd m l
  .rename_i l;rw[Tf l]
 have G:Sm (uc Q c r.n s r.dd (T.map (·.1)) r.cY sv).2.2 (nn+8*(sv+1)) b:=by
  have V:=gA.save c r.n s r.dd h.sm R hb;unfold uc at m ⊢;split at m
  .rename_i l;exact absurd m l
  .rename_i l;rw[Tf l];exact(gA.tK (λo W=>(uG _ o W).1) (V.all.mono (by omega) V2)).all
 have j:∀{k:Nat} {c:Array V6} {t:TypeId},wr.heap[k]?=S (D c t (0,0))->((t∉iX/\t≠113/\t≠181)/\t≠43)->w'.heap[k]?=S (D c t (0,0)):=λ{k c t} K X=>(u.far (cX K) (h.rs.not K X)).1.trans K
 refine⟨j h.jb (by decide),j h.cb (by decide),j h.ob (by decide),?_,h.ok,M,h.st.trans u,by rw[C];exact F,by rw[z];exact G,by rw[z];have:=h.NT;omega,λx q=>?_,?_,h.lt⟩
 .refine Dk.dy h.row u.kept (λg i f=>?_);obtain⟨aa,l,_⟩:=di h.row i;exact h.rs.not l (by decide) f
 .have L:x.1∈A.map (·.1):=Uu.2 ⟨x,q,rfl⟩;rw[C] at L;rcases TB.1 (UR L) with e|e
  .obtain⟨y,hy,e⟩:=Uu.1 e;have:=h.key y hy;omega
  .have:=TL.1 e;omega
 .have:=congrArg List.length C;rw[Ue,Us,TT,Ue] at this;simp only[Tr,UB] at this;have:=h.len;omega
theorem Ma.next{a:Sp.Acc}{q:Option Addr}{k B:Nat}(o:Obj)(h:Ma r w O0 v0 nn b P Es cZ out jc wr s c p cap Q O v T sv)(L:lK P Es c s r.n=.ok a)(hl:s<cZ)(M:eY r.n (fi P r.n a))(m:wr.ownsRow B 104 4 (J q r.n k) r.n (jk (fi P r.n a).val (fi P r.n a).fD (fi P r.n a).iH (fi P r.n a).jf r.n)):GI r w O0 v0 nn b P Es cZ out jc ((fM wr (N (E w)+1) (Z Y ((s:Int)+1)) (J q r.n k) (Z Y a.all)).alloc o) (s+1) (fi P r.n a) q k Q O v T sv:=by
 have A:rz P Es cZ r.every r.cY r.dd r.n r.dp (cZ-s) (s+1) (fi P r.n a) (T.map (·.1)) sv Q=out:=by
  have:=h.go;rw[L] at this;exact this
 have C:N (E w)+1≠r.FB/\(N (E w))+1≠r.EB/\(N (E w))+1≠r.SB/\(N (E w))+1≠r.RB/\(N (E w))+1≠6:=by have:=h.lt;omega
 have F:¬OO O r.S v (N (E w)+1):=je h.rs.sf h.cb (by decide);have R:=(((h.rs.set F C 0 (Z Y ((s:Int)+1))).set F C 1 (J q r.n k)).set F C 2 (Z Y a.all))
 have G:∀j,j≠(N (E w))+1->(fM wr (N (E w)+1) (Z Y ((s:Int)+1)) (J q r.n k) (Z Y a.all)).heap[j]?=wr.heap[j]?:=λj u=>by
  unfold fM;rw[Tv _ _ _ j u,Tv _ _ _ j u,Tv _ _ _ j u]
 have V:(fM wr (N (E w)+1) (Z Y ((s:Int)+1)) (J q r.n k) (Z Y a.all)).heap.size=N (E wr):=by unfold fM;simp
 have W:Below (fM wr (N (E w)+1) (Z Y ((s:Int)+1)) (J q r.n k) (Z Y a.all)).heap.size (fM wr (N (E w)+1) (Z Y ((s:Int)+1)) (J q r.n k) (Z Y a.all)) ((fM wr (N (E w)+1) (Z Y ((s:Int)+1)) (J q r.n k) (Z Y a.all)).alloc o):=V3.alloc V2 _;have y:(fM wr (N (E w)+1) (Z Y ((s:Int)+1)) (J q r.n k) (Z Y a.all)).heap[N (E w)+1]?=S (D #[Z Y ((s:Int)+1),J q r.n k,Z Y a.all] 80 (0,0)):=by
  have X:=fa (i:=2) (fa (i:=1) (fa (i:=0) h.cb (Z Y ((s:Int)+1))) (J q r.n k)) (Z Y a.all);unfold fM;simpa using X
 have l:Kept wr (fM wr (N (E w)+1) (Z Y ((s:Int)+1)) (J q r.n k) (Z Y a.all)) (λj=>j≠(N (E w))+1):=(((Kept.refl wr _).setCell (λz=>z rfl) _).setCell (λz=>z rfl) _).setCell (λz=>z rfl) _;have I:fx w (OR O0 r.S v0 r.RB) (fM wr (N (E w)+1) (Z Y ((s:Int)+1)) (J q r.n k) (Z Y a.all)) (OR O r.S v r.RB):=by
  refine⟨⟨l.os.trans h.st.kept.os,l.tape.trans h.st.kept.tape,l.output.trans h.st.kept.output,To h.st.kept.size l.size,λj u x=>?_⟩,h.st.own⟩;rw[G j (by omega)];exact h.st.kept.block j u x
 have K:GI r w O0 v0 nn b P Es cZ out jc (fM wr (N (E w)+1) (Z Y ((s:Int)+1)) (J q r.n k) (Z Y a.all)) (s+1) (fi P r.n a) q k Q O v T sv:=by
  refine⟨(G _ (by omega)).trans h.jb,?_,(G _ (by omega)).trans h.ob,?_,M,R,I,?_,h.sm,by have:=h.NT;omega,h.key,h.len,h.lt⟩
  .rw[y];rfl
  .refine Dk.dy (Dk.qQ m) l (λg f e=>?_);obtain⟨t,hc,_⟩:=di m f;exact dh hc h.cb (by decide) e
  .rw[show cZ-(s+1)+1=cZ-s by omega];exact A
 exact K.below W
end
def DC(r:Rc)(O0:Nat->Prop)(v0:V6)(out:Out)(w:V5)(e:Ending)(w':V5):Prop:=(out.e=0->∃sl,e=Wd (Wc #[Z .u8 out.res.outcome,Z Y out.res.step,Z Y out.res.dG,sl])/\w'.ownsRow (N (E w)) 2 1 sl (Wn out.res.dJ) (out.res.dJ.map (Z Y)))/\(out.e≠0->e=.panicked (gE out.e))/\
 ∃j l m,r.I w' out.R j l m out.saved/\fx w (OR O0 r.S v0 r.RB) w' (OR j r.S l r.RB)
theorem Dy{r:Rc}{O0 O:Nat->Prop}{v0 v:V6}{out:Out}{w y:V5}{T:Sn.Tb}{o s i:Int}{V:List Int}{p:Option Addr}{n k B:Nat}(M:(out.res.outcome:Int)=o/\(out.res.step:Int)=s/\(out.res.dG:Int)=i/\out.res.dJ=V/\(Wn V)=n)(he:out.e=0)(L:r.I y out.R O v T out.saved)(l:fx w (OR O0 r.S v0 r.RB) y (OR O r.S v r.RB))(G:y.heap[N (E w)+1+1]?=S (D #[Z .u8 0,Z Y 0,Z Y 0,J U 0 0] 32 (0,0)))(K:y.ownsRow B 2 1 (J p n k) n (V.map (Z Y)))(X:N (E w)+1+1<B)(x:r.FB<N (E w)/\r.EB<N (E w)/\r.SB<N (E w)/\r.RB<N (E w)/\6<N (E w)):DC r O0 v0 out w (Wd (Wc #[Z .u8 o,Z Y s,Z Y i,J p n k])) (j9 y (N (E w)+1+1) (Z .u8 o) (Z Y s) (Z Y i) (J p n k)):=by
 obtain⟨q,f,t,g,e5⟩:=M;have A:N (E w)+1+1≠r.FB/\(N (E w))+1+1≠r.EB/\(N (E w))+1+1≠r.SB/\(N (E w))+1+1≠r.RB/\(N (E w))+1+1≠6:=by omega
 have C:¬OO O r.S v (N (E w)+1+1):=je L.sf G (by decide);refine⟨λ_=>⟨J p n k,by rw[q,f,t],?_⟩,λh=>absurd he h,O,v,T,(((L.set C A 0 _).set C A 1 _).set C A 2 _).set C A 3 _,?_⟩
 .rw[g,e5];have F:∀{W:V5} (j:Nat) (u:V6),W.ownsRow B 2 1 (J p n k) n (V.map (Z Y))->(W.setCell ⟨N (E w)+1+1,j,U⟩ u).ownsRow B 2 1 (J p n k) n (V.map (Z Y)):=λj u h=>TA h (a:=⟨N (E w)+1+1,j,U⟩) X u
  exact fB (F 3 _ (F 2 _ (F 1 _ (F 0 _ K)))) (by omega)
 .have m:Kept y (j9 y (N (E w)+1+1) (Z .u8 o) (Z Y s) (Z Y i) (J p n k)) (λj=>j≠(N (E w))+1+1):=((((Kept.refl y _).setCell (λz=>z rfl) _).setCell (λz=>z rfl) _).setCell (λz=>z rfl) _).setCell (λz=>z rfl) _;refine⟨⟨m.os.trans l.kept.os,m.tape.trans l.kept.tape,m.output.trans l.kept.output,To l.kept.size m.size,λj hj K=>?_⟩,l.own⟩;rw[m.block j (by have:=l.kept.size;omega) (by omega)];exact l.kept.block j hj K
end Ru
namespace Ru
open Sp (Pg Ed Cfg nG quiet lK fi gy eY iM)
open Rd (Rk e0)
open Pk (jd Sm fx TP di cX dh)
open Dk (Kept)
theorem NC(r:Rc)(B:Nat)(pf:Option Addr)(kf:Nat)(pe:Option Addr)(ke cZ:Nat)(P:Pg)(Es:List Ed)(p:Option Addr)(cap:Nat)(c0:Cfg)(z f:Addr)(out:Out)(nn b:Nat)(Q:Rk)(O:Nat->Prop)(v:V6)(T:Sn.Tb)(w:V5)(hI:r.I w Q O v T 0)(aH:∀W O' v',fx w (OR O r.S v r.RB) W (OR O' r.S v' r.RB)->jH W B P/\j6 W z f/\Ht W pe r.n Es)(aI:w.ownsRow 0 104 4 (J p r.n cap) r.n (jk c0.val c0.fD c0.iH c0.jf r.n))(aP:eY r.n c0)(hj:iM P Es r.n)(hl:cZ<=200)(aQ:r.dd<4294967296)(aR:0<r.every)(aJ:r.every<=50)(aS:r.dp<=4294967295)(aT:Sm Q nn b)(bF:nn+2000<=1000000000)(aU:1000<=b)(bA:b<=2097152)(hm:r.cY<=5)(hT:∀x∈T,x.1<=r.dp)(aV:Wn T<=r.cY)(aK:rz P Es cZ r.every r.cY r.dd r.n r.dp ((cZ-r.dp)+1) r.dp c0 (T.map (·.1)) 0 Q=out):V7 prog 25 #[Wc (dY B pf r.n kf pe ke cZ),gz r.dp p r.n cap c0.all,.func (.func 52) #[] #[V9 (S ⟨r.FB,0,U⟩),V9 (S ⟨r.EB,0,U⟩),V9 (S ⟨r.SB,0,U⟩),V9 (S ⟨r.RB,0,U⟩)]] w (DC r O v out w):=by
 generalize hO:DC r O v out w=PP;replace hO:=cU hO;have HJ:=cU hj;have aW:=cU aH;have g:=hj.FW;have aX:=cU (jj w (dY B pf r.n kf pe ke cZ) #[Z Y (r.dp:Int),J p r.n cap,Z Y c0.all] #[Z .u8 0,Z Y 0,Z Y 0,J U 0 0] 75 80 32);have aY:r.FB<N (E w)/\r.EB<N (E w)/\r.SB<N (E w)/\r.RB<N (E w)/\6<N (E w):=⟨cX hI.fb,cX hI.eb,cX hI.sb,cX hI.rb,hI.sf.pw.lt⟩
 have aZ:Hid (∀W,V4 w W->W.heap[N (E w)]?=S (D (dY B pf r.n kf pe ke cZ) 75 (0,0))->W.heap[N (E w)+1]?=S (D #[Z Y (r.dp:Int),J p r.n cap,Z Y c0.all] 80 (0,0))->W.heap[N (E w)+1+1]?=S (D #[Z .u8 0,Z Y 0,Z Y 0,J U 0 0] 32 (0,0))->GI r w O v nn b P Es cZ out (dY B pf r.n kf pe ke cZ) W r.dp c0 p cap Q O v T 0):=λW hb h1 h2 h3 =>
  ⟨h1,h2,h3,de aI hb,aP,hI.below hb,fx.below _ hb,aK,aT,by omega,λx hx=>Wh (hT x hx),aV,aY⟩
 have aq:Hid (∀(args:Array V6) (w:V5),(callFunc 41 args).run prog w=.ok (.enter 41 args) w):=da func41 (by kernel_rfl) (by kernel_rfl);clear hI aH aI aP hj aK aT hT aV aY;unfold gz;unfold dY at *;go_enter func25,ntmps25;go_wp2_with fail;generalize hW:Wl (Wl _ _) _=W0;obtain⟨a1,a6,a7,a8,bB⟩:=cT aX W0 hW.symm;have ba:=cU (cT aZ W0 a8 a1 a6 a7);clear hW aX a1 a6 a7 aZ a8 bB
 go_loopw [7] (λ_ wr=>∃(s:Nat) (c:Cfg) (p:Option Addr) (cap:Nat) (Q:Rk) (O1:Nat->Prop) (v1:V6) (T:Sn.Tb) (sv:Nat),s<=4294967295/\Hid (GI r w O v nn b P Es cZ out #[V9 (S ⟨B,0,U⟩),J pf r.n kf,J pe r.n ke,Z Y (cZ:Int)] wr s c p cap Q O1 v1 T sv)) (λ_ wr=>cZ+1-sC (N (E w)+1) wr)
 case atStart=>exact⟨r.dp,c0,p,cap,Q,O,v,T,0,aS,ba⟩
 case round =>
  clear ba aS;obtain⟨s,c,p,cap,Q,O1,v1,T,sv,hs,HI⟩:=hrel;have bc:=(cT HI).st.kept.size;obtain⟨j0,j1,j2,j3⟩:=fQ (B:=B) (pf:=pf) (n:=r.n) (kf:=kf) (pe:=pe) (ke:=ke) (cZ:=cZ) (cT HI).jb;obtain⟨k0,k1,k2,_⟩:=dR (cT HI).cb;have bd:Hid (sC (N (E w)+1) wr=s):=by show _=_;rw[nk k0];rfl
  have C:kA wr p c r.n:=by
   obtain⟨p',aa,e,hv⟩:=gV (all:=c.all) (cT HI).row;injection e with e1 _ e3;subst e1;exact hv
  have aG:=cU (pending B pf r.n kf pe ke cZ s p r.n cap c wr C (cT HI).ok.lv g hs hl);unfold gz dY at aG;have bg:=Bd cZ c s;obtain⟨en,ao⟩:∃en,Hid (Sp.gy cZ c s=en):=⟨_,rfl⟩
  rw[cT ao] at aG bg;clear C;go_wp2_with fail;refine(cT aG).mono ?_;rintro e w2 ⟨rfl,aL⟩;have l:=cU ((cT HI).below aL);have bC:N (E w)+1+1<N (E w2):=cX (cT l).ob;clear j0 j1 j2 j3 k0 k1 k2 aG aL HI bc;obtain⟨k0,k1,k2,_⟩:=dR (cT l).cb;by_cases c1:en=0
  .subst c1;obtain⟨aM,_,aN⟩:=E6 (cT l).go (cT ao);have bD:0<r.n:=by
    have h1:=cT ao;unfold Sp.gy at h1;have hq:¬Sp.quiet c s=We:=λhq=>by rw[Tg hq] at h1;exact absurd h1 (by decide)
    rcases Nat.eq_zero_or_pos r.n with h0|h0
    .exact absurd (by unfold Sp.quiet;rw[(cT l).ok.lv,h0];rfl) hq
    .exact h0
   clear bg;by_cases hd:r.dp<s/\s%r.every=0
   .have C:kA w2 p c r.n:=by
     obtain⟨p',aa,e,hv⟩:=gV (all:=c.all) (cT l).row;injection e with e1 _ e3;subst e1;exact hv
    have bE:=(cT l).NT;have ar:=cU (Kc r.D r.E r.S r.dd r.n r.cY (nn+8*sv) b Q r.R O1 v1 T r.FB r.EB r.SB r.RB r.every r.dp sv r.y r.z s p cap c w2 (cT l).rs aR aJ (by omega) hd.1 hd.2 C g bD aQ (λx hx=>by rcases(cT l).key x hx with e | e <;> omega) (cT l).sm (by omega) aU bA (by have:=(cT l).len;omega) (by omega) (by omega));have bh:=cU (aN hd);clear C aN;go_wp2_with fail;refine(cT ar).mono ?_;rintro e w3 ⟨q1,q2,O3,v3,T3,bj,aO,au⟩;by_cases hz:(uc Q c r.n s r.dd (T.map (·.1)) r.cY sv).1=0
    .obtain rfl:=q1 hz;have t:=cU ((cT l).due (cT ao) hd hz (bj hz) aO au g aU);obtain⟨Q3,av⟩:∃q,Hid ((uc Q c r.n s r.dd (T.map (·.1)) r.cY sv).2.2=q):=⟨_,rfl⟩
     obtain⟨ab,aw⟩:∃q,Hid ((uc Q c r.n s r.dd (T.map (·.1)) r.cY sv).2.1=q):=⟨_,rfl⟩
     rw[cT av,cT aw] at t;clear q1 q2 bj aO au ar bh l k0 k1 k2 av aw hz bE hd;obtain⟨j0,j1,j2,j3⟩:=fQ (B:=B) (pf:=pf) (n:=r.n) (kf:=kf) (pe:=pe) (ke:=ke) (cZ:=cZ) (cT t).jb;obtain⟨k0,k1,k2,_⟩:=dR (cT t).cb;have C:kA w3 p c r.n:=by
      obtain⟨p',aa,e,hv⟩:=gV (all:=c.all) (cT t).row;injection e with e1 _ e3;subst e1;exact hv
     obtain⟨dP,dE,dB⟩:=cT aW w3 O3 v3 (cT t).st;have G:=cU (Ks B pf r.n kf pe ke cZ P Es p cap s c z f w3 dP dE dB C (cT t).ok (cT HJ) (by omega));unfold gz dY at G;obtain⟨o,ad⟩:∃o,Hid (Sp.lK P Es c s r.n=o):=⟨_,rfl⟩
     rw[cT ad] at G;clear C dP dE dB;go_wp2_with fail;cases o with
     |error i =>
      refine(cT G).mono ?_;rintro e w4 ⟨L,rfl⟩;have m:=cU ((cT t).below L);have ag:Hid (((out.res.outcome:Int)=3/\(out.res.step:Int)=(s:Int)/\(out.res.dG:Int)=(i:Int)/\out.res.dJ=c.val/\(Wn c.val)=r.n)/\out.saved=ab/\out.e=0/\out.R=Q3):=by
       have h:out=⟨⟨3,s,i,c.val⟩,ab,0,Q3⟩:=by have:=(cT m).go;rw[cT ad] at this;exact this
       rw[h];exact⟨⟨rfl,rfl,rfl,rfl,(cT m).ok.lv⟩,rfl,rfl,rfl⟩
      clear j0 j1 j2 j3 k0 k1 k2 t L G;go_upto_region 7 with fail;generalize ax:Wl _ _=w5;have ay:V4 w4 w5:=by rw[<-ax];exact V3.alloc V2 _
      have K:=cU ((cT m).below ay);obtain⟨k0,k1,k2,_⟩:=dR (cT K).cb;have ah:N (E w)+1+1<N (E w5):=cX (cT K).ob;have az:N (E w)+1<N (E w5):=by omega
      have aA:=cU (cT K).ob;have ai:kA w5 p c r.n:=by
       obtain⟨p',aa,e,hv⟩:=gV (all:=c.all) (cT K).row;injection e with e1 _ e3;subst e1;exact hv
      have aj:Hid (∀W,V4 w5 W->V7 prog 41 #[Wc #[Z Y (s:Int),J p r.n cap,Z Y c.all]] W λe w'=>V4 W w'/\∃v,e=Wd v/\w'.ownsRow (N (E w5)) 2 1 v r.n (c.val.map (Z Y))):=by
       show ∀W,_
       intro W hW;refine(rS s p r.n cap c W (ai.below hW) (cT K).ok.lv g).mono ?_;rintro e w' ⟨h1,v,h2,h3⟩;exact⟨h1,v,h2,fB h3 hW.size⟩
      clear ax ay ai m
      go_region_law (refine du (by rfl) _ _ _ (by rfl) 41 (by rfl) _ (by rfl) (cT aq) (cT aj _ (by first|exact Th _ _|exact V3.drew)) ?_;rintro e u ⟨A,vv,rfl,M⟩;obtain⟨V,X,ae,_⟩:=dm M;subst ae;dsimp only;have F:V4 w5 u:=(by first|exact A|exact V3.drew.trans (A.mono V2));have q0:u.cell? ⟨N (E w)+1,0,U⟩=S (Z Y (s:Int)):=(F.cell (p:=⟨N (E w)+1,0,U⟩) az).trans k0;have j:=(F.block (N (E w)+1+1) ah).trans (cT aA);have r0:u.cell? ⟨N (E w)+1+1,0,U⟩=S (Z .u8 0):=(by simp[Wj,j]);have bk:u.frozen? ⟨N (E w)+1+1,0,U⟩=Wg:=(by simp[World.frozen?,j]);have r1:u.cell? ⟨N (E w)+1+1,1,U⟩=S (Z Y 0):=(by simp[Wj,j]);have bn:u.frozen? ⟨N (E w)+1+1,1,U⟩=Wg:=(by simp[World.frozen?,j]);have r2:u.cell? ⟨N (E w)+1+1,2,U⟩=S (Z Y 0):=(by simp[Wj,j]);have bo:u.frozen? ⟨N (E w)+1+1,2,U⟩=Wg:=(by simp[World.frozen?,j]);have r3:u.cell? ⟨N (E w)+1+1,3,U⟩=S (J U 0 0):=(by simp[Wj,j]);have bp:u.frozen? ⟨N (E w)+1+1,3,U⟩=Wg:=(by simp[World.frozen?,j]);have aB:=cU F;have aC:=cU M;clear F A M j)
      all_goals
       have aD:Hid (PP (Wd (Wc #[Z .u8 3,Z Y (s:Int),Z Y (i:Int),J V r.n X])) (j9 u (N (E w)+1+1) (Z .u8 3) (Z Y (s:Int)) (Z Y (i:Int)) (J V r.n X))):=by
        show PP _ _
        rw[<-cT hO];obtain⟨q1,q2,q3,q4⟩:=cT ag;have hq:=(cT K).below (cT aB);have ak:=hq.rs;rw[<-q2,<-q4] at ak;exact Dy q1 q3 ak hq.st hq.ob (cT aC) ah hq.lt
       first
        | (go_wp2;exact Tj (v := Wc #[Z .u8 3,Z Y (s:Int),Z Y (i:Int),J V r.n X]) (by simp[results,results25,go_sem,r0,r1,r2,r3]) rfl (cT aD))
        |trace_state
     |ok a =>
      refine(cT G).mono ?_;rintro e w4 ⟨L,sl,rfl,an⟩;obtain⟨pn,kn,ae,_⟩:=dm an;subst ae;have m:=cU ((cT t).below L);have aE:Sp.eY r.n (Sp.fi P r.n a):=Sp.qP (cT HJ) (Sp.sT (cT HJ) lQ (cT m).ok (by omega) r.n V2 a (cT ad));have aF:Hid (∀o,GI r w O v nn b P Es cZ out #[V9 (S ⟨B,0,U⟩),J pf r.n kf,J pe r.n ke,Z Y (cZ:Int)] ((fM w4 (N (E w)+1) (Z Y ((s:Int)+1)) (J pn r.n kn) (Z Y a.all)).alloc o) (s+1) (Sp.fi P r.n a) pn kn Q3 O3 v3 T3 ab):=λo=>Ma.next o (cT m) (cT ad) aM aE an
      clear j0 j1 j2 j3 k0 k1 k2;obtain⟨k0,k1,k2,af⟩:=dR (cT m).cb;have f0:=af 0;have f1:=af 1;have f2:=af 2;have bq:N (E w)+1<N (E w4):=cX (cT m).cb;clear an L t G m af;go_wp2;go_roundw
      case rel=>exact⟨s+1,_,pn,kn,Q3,O3,v3,T3,ab,by omega,cU (cT aF _)⟩
      case measure =>
       have h1:=cT bd;have h2:=nk (dR (cT aF (D #[Z Y ((s:Int)+1),J pn r.n kn,Z Y a.all] 80)).cb).1;unfold fM at h2;rw[h1,h2];omega
    .obtain rfl:=q2 hz;have HF:Hid (PP (.panicked (gE (uc Q c r.n s r.dd (T.map (·.1)) r.cY sv).1)) w3):=by
      show PP _ _
      rw[<-cT hO,(cT bh).1 hz];exact⟨λh=>absurd h hz,λ_=>rfl,O3,v3,T3,aO,(cT l).st.trans au⟩
     exact⟨rfl,cT HF⟩
   .have ar:=cU (JX r.D r.E r.S r.dd r.n r.cY Q r.R O1 v1 T r.FB r.EB r.SB r.RB r.every r.dp sv r.y r.z s p cap c.all w2 (cT l).rs aR aJ (by omega) (by have:=(cT l).NT;omega) hd);have br:=cU ((cT l).OG (cT ao) hd);clear aN hd;go_wp2_with fail;refine(cT ar).mono ?_;rintro e w3 ⟨rfl,bs⟩;have t:=cU ((cT br).below bs);clear br bs ar l k0 k1 k2;obtain⟨Q3,av⟩:∃q,Hid (Q=q):=⟨_,rfl⟩
    obtain⟨ab,aw⟩:∃q,Hid (sv=q):=⟨_,rfl⟩
    obtain⟨O3,bu⟩:∃q,Hid (O1=q):=⟨_,rfl⟩
    obtain⟨v3,bw⟩:∃q,Hid (v1=q):=⟨_,rfl⟩
    obtain⟨T3,bx⟩:∃q,Hid (T=q):=⟨_,rfl⟩
    rw[cT av,cT aw,cT bu,cT bw,cT bx] at t;clear av aw bu bw bx;obtain⟨j0,j1,j2,j3⟩:=fQ (B:=B) (pf:=pf) (n:=r.n) (kf:=kf) (pe:=pe) (ke:=ke) (cZ:=cZ) (cT t).jb;obtain⟨k0,k1,k2,_⟩:=dR (cT t).cb;have C:kA w3 p c r.n:=by
     obtain⟨p',aa,e,hv⟩:=gV (all:=c.all) (cT t).row;injection e with e1 _ e3;subst e1;exact hv
    obtain⟨dP,dE,dB⟩:=cT aW w3 O3 v3 (cT t).st;have G:=cU (Ks B pf r.n kf pe ke cZ P Es p cap s c z f w3 dP dE dB C (cT t).ok (cT HJ) (by omega));unfold gz dY at G;obtain⟨o,ad⟩:∃o,Hid (Sp.lK P Es c s r.n=o):=⟨_,rfl⟩
    rw[cT ad] at G;clear C dP dE dB;go_wp2_with fail;cases o with
    |error i =>
     refine(cT G).mono ?_;rintro e w4 ⟨L,rfl⟩;have m:=cU ((cT t).below L);have ag:Hid (((out.res.outcome:Int)=3/\(out.res.step:Int)=(s:Int)/\(out.res.dG:Int)=(i:Int)/\out.res.dJ=c.val/\(Wn c.val)=r.n)/\out.saved=ab/\out.e=0/\out.R=Q3):=by
      have h:out=⟨⟨3,s,i,c.val⟩,ab,0,Q3⟩:=by have:=(cT m).go;rw[cT ad] at this;exact this
      rw[h];exact⟨⟨rfl,rfl,rfl,rfl,(cT m).ok.lv⟩,rfl,rfl,rfl⟩
     clear j0 j1 j2 j3 k0 k1 k2 t L G;go_upto_region 7 with fail;generalize ax:Wl _ _=w5;have ay:V4 w4 w5:=by rw[<-ax];exact V3.alloc V2 _
     have K:=cU ((cT m).below ay);obtain⟨k0,k1,k2,_⟩:=dR (cT K).cb;have ah:N (E w)+1+1<N (E w5):=cX (cT K).ob;have az:N (E w)+1<N (E w5):=by omega
     have aA:=cU (cT K).ob;have ai:kA w5 p c r.n:=by
      obtain⟨p',aa,e,hv⟩:=gV (all:=c.all) (cT K).row;injection e with e1 _ e3;subst e1;exact hv
     have aj:Hid (∀W,V4 w5 W->V7 prog 41 #[Wc #[Z Y (s:Int),J p r.n cap,Z Y c.all]] W λe w'=>V4 W w'/\∃v,e=Wd v/\w'.ownsRow (N (E w5)) 2 1 v r.n (c.val.map (Z Y))):=by
      show ∀W,_
      intro W hW;refine(rS s p r.n cap c W (ai.below hW) (cT K).ok.lv g).mono ?_;rintro e w' ⟨h1,v,h2,h3⟩;exact⟨h1,v,h2,fB h3 hW.size⟩
     clear ax ay ai m
     go_region_law (refine du (by rfl) _ _ _ (by rfl) 41 (by rfl) _ (by rfl) (cT aq) (cT aj _ (by first|exact Th _ _|exact V3.drew)) ?_;rintro e u ⟨A,vv,rfl,M⟩;obtain⟨V,X,ae,_⟩:=dm M;subst ae;dsimp only;have F:V4 w5 u:=(by first|exact A|exact V3.drew.trans (A.mono V2));have q0:u.cell? ⟨N (E w)+1,0,U⟩=S (Z Y (s:Int)):=(F.cell (p:=⟨N (E w)+1,0,U⟩) az).trans k0;have j:=(F.block (N (E w)+1+1) ah).trans (cT aA);have r0:u.cell? ⟨N (E w)+1+1,0,U⟩=S (Z .u8 0):=(by simp[Wj,j]);have bk:u.frozen? ⟨N (E w)+1+1,0,U⟩=Wg:=(by simp[World.frozen?,j]);have r1:u.cell? ⟨N (E w)+1+1,1,U⟩=S (Z Y 0):=(by simp[Wj,j]);have bn:u.frozen? ⟨N (E w)+1+1,1,U⟩=Wg:=(by simp[World.frozen?,j]);have r2:u.cell? ⟨N (E w)+1+1,2,U⟩=S (Z Y 0):=(by simp[Wj,j]);have bo:u.frozen? ⟨N (E w)+1+1,2,U⟩=Wg:=(by simp[World.frozen?,j]);have r3:u.cell? ⟨N (E w)+1+1,3,U⟩=S (J U 0 0):=(by simp[Wj,j]);have bp:u.frozen? ⟨N (E w)+1+1,3,U⟩=Wg:=(by simp[World.frozen?,j]);have aB:=cU F;have aC:=cU M;clear F A M j)
     all_goals
      have aD:Hid (PP (Wd (Wc #[Z .u8 3,Z Y (s:Int),Z Y (i:Int),J V r.n X])) (j9 u (N (E w)+1+1) (Z .u8 3) (Z Y (s:Int)) (Z Y (i:Int)) (J V r.n X))):=by
       show PP _ _
       rw[<-cT hO];obtain⟨q1,q2,q3,q4⟩:=cT ag;have hq:=(cT K).below (cT aB);have ak:=hq.rs;rw[<-q2,<-q4] at ak;exact Dy q1 q3 ak hq.st hq.ob (cT aC) ah hq.lt
      first
       | (go_wp2;exact Tj (v := Wc #[Z .u8 3,Z Y (s:Int),Z Y (i:Int),J V r.n X]) (by simp[results,results25,go_sem,r0,r1,r2,r3]) rfl (cT aD))
       |trace_state
    |ok a =>
     refine(cT G).mono ?_;rintro e w4 ⟨L,sl,rfl,an⟩;obtain⟨pn,kn,ae,_⟩:=dm an;subst ae;have m:=cU ((cT t).below L);have aE:Sp.eY r.n (Sp.fi P r.n a):=Sp.qP (cT HJ) (Sp.sT (cT HJ) lQ (cT m).ok (by omega) r.n V2 a (cT ad));have aF:Hid (∀o,GI r w O v nn b P Es cZ out #[V9 (S ⟨B,0,U⟩),J pf r.n kf,J pe r.n ke,Z Y (cZ:Int)] ((fM w4 (N (E w)+1) (Z Y ((s:Int)+1)) (J pn r.n kn) (Z Y a.all)).alloc o) (s+1) (Sp.fi P r.n a) pn kn Q3 O3 v3 T3 ab):=λo=>Ma.next o (cT m) (cT ad) aM aE an
     clear j0 j1 j2 j3 k0 k1 k2;obtain⟨k0,k1,k2,af⟩:=dR (cT m).cb;have f0:=af 0;have f1:=af 1;have f2:=af 2;have bq:N (E w)+1<N (E w4):=cX (cT m).cb;clear an L t G m af;go_wp2;go_roundw
     case rel=>exact⟨s+1,_,pn,kn,Q3,O3,v3,T3,ab,by omega,cU (cT aF _)⟩
     case measure =>
      have h1:=cT bd;have h2:=nk (dR (cT aF (D #[Z Y ((s:Int)+1),J pn r.n kn,Z Y a.all] 80)).cb).1;unfold fM at h2;rw[h1,h2];omega
  .have bG:(en != 0)=We:=by rw[UZ];exact c1
   obtain⟨e1,e2,e3,e4⟩:=Jx (cT l).go (cT ao) c1;have ag:Hid (((out.res.outcome:Int)=en/\(out.res.step:Int)=(s:Int)/\(out.res.dG:Int)=0/\out.res.dJ=c.val/\(Wn c.val)=r.n)/\out.saved=sv/\out.e=0/\out.R=Q):=⟨⟨e1.1,e1.2.1,e1.2.2.1,e1.2.2.2,(cT l).ok.lv⟩,e2,e3,e4⟩
   have C:kA w2 p c r.n:=by
    obtain⟨p',aa,e,hv⟩:=gV (all:=c.all) (cT l).row;injection e with e1 _ e3;subst e1;exact hv
   have aj:Hid (∀W,V4 w2 W->V7 prog 41 #[Wc #[Z Y (s:Int),J p r.n cap,Z Y c.all]] W λe w'=>V4 W w'/\∃v,e=Wd v/\w'.ownsRow (N (E w2)) 2 1 v r.n (c.val.map (Z Y))):=by
    show ∀W,_
    intro W hW;refine(rS s p r.n cap c W (C.below hW) (cT l).ok.lv g).mono ?_;rintro e w' ⟨h1,v,h2,h3⟩;exact⟨h1,v,h2,fB h3 hW.size⟩
   have az:N (E w)+1<N (E w2):=by omega
   have ah:N (E w)+1+1<N (E w2):=bC;have aA:=cU (cT l).ob;clear e1 e2 e3 e4 c1 C;go_upto_region 3 with fail
   go_region_law (refine du (by rfl) _ _ _ (by rfl) 41 (by rfl) _ (by rfl) (cT aq) (cT aj _ (by first|exact Th _ _|exact V3.drew)) ?_;rintro e u ⟨A,vv,rfl,M⟩;obtain⟨V,X,ae,_⟩:=dm M;subst ae;dsimp only;have F:V4 w2 u:=(by first|exact A|exact V3.drew.trans (A.mono V2));have q0:u.cell? ⟨N (E w)+1,0,U⟩=S (Z Y (s:Int)):=(F.cell (p:=⟨N (E w)+1,0,U⟩) az).trans k0;have j:=(F.block (N (E w)+1+1) ah).trans (cT aA);have r0:u.cell? ⟨N (E w)+1+1,0,U⟩=S (Z .u8 0):=(by simp[Wj,j]);have bk:u.frozen? ⟨N (E w)+1+1,0,U⟩=Wg:=(by simp[World.frozen?,j]);have r1:u.cell? ⟨N (E w)+1+1,1,U⟩=S (Z Y 0):=(by simp[Wj,j]);have bn:u.frozen? ⟨N (E w)+1+1,1,U⟩=Wg:=(by simp[World.frozen?,j]);have r2:u.cell? ⟨N (E w)+1+1,2,U⟩=S (Z Y 0):=(by simp[Wj,j]);have bo:u.frozen? ⟨N (E w)+1+1,2,U⟩=Wg:=(by simp[World.frozen?,j]);have r3:u.cell? ⟨N (E w)+1+1,3,U⟩=S (J U 0 0):=(by simp[Wj,j]);have bp:u.frozen? ⟨N (E w)+1+1,3,U⟩=Wg:=(by simp[World.frozen?,j]);have aB:=cU F;have aC:=cU M;clear F A M j)
   all_goals
    have aD:Hid (PP (Wd (Wc #[Z .u8 en,Z Y (s:Int),Z Y 0,J V r.n X])) (j9 u (N (E w)+1+1) (Z .u8 en) (Z Y (s:Int)) (Z Y 0) (J V r.n X))):=by
     show PP _ _
     rw[<-cT hO];obtain⟨q1,q2,q3,q4⟩:=cT ag;have hq:=(cT l).below (cT aB);have ak:=hq.rs;rw[<-q2,<-q4] at ak;exact Dy q1 q3 ak hq.st hq.ob (cT aC) ah hq.lt
    first
     | (go_wp2;exact Tj (v := Wc #[Z .u8 en,Z Y (s:Int),Z Y 0,J V r.n X]) (by simp[results,results25,go_sem,r0,r1,r2,r3]) rfl (cT aD))
     |trace_state
end Ru
namespace Ru
open Rd (Rk e0)
open Pk (jd Sm fx TP di cX dh)
open Dk (Kept)
theorem qA(v:V6)(b:TypeId)(w:V5):(Instr.typeAssert (.iface 120 v) b 120 We).run prog w=.ok (Wb #[v,.bool We]) w:=by
 simp[Instr.typeAssert,run_underlying underlying120]
theorem AN(p:Addr)(w:V5):CallsD prog 49 #[V9 (S p)] .returning w λe j l=>e=Wd (Wb #[])/\j=.returning/\l=w:=by
 refine callsD_of_wpS func49 O λb m hu=>?_
 simp only[ntmps49,US,Tr,UB,Nat.reduceAdd,Nat.reduceSub,U1,U2,U4,U5,Ul,TZ];apply wpS_seq;apply wpS_region;simp[wpOpsS,go_sem,recoverD,hu,ntmps49,Exit.thenS];refine wpS_of_wp ?_;go_wp2;exact⟨rfl,b.mode,by cases b;rfl,Wb #[],Tl O _ _ _,O,hu,O⟩
theorem B7(g:Nat)(x e:Int)(w:V5)(b:w.cell? ⟨g,0,U⟩=S (Z Y x))(y:w.frozen? ⟨g,0,U⟩=Wg):CallsD prog 49 #[V9 (S ⟨g,0,U⟩)] (.panicking (gE e)) w λj l m =>
   j=Wd (Wb #[])/\l=.panicking [{ v := .iface 120 (Wc #[Z Y e]),recovered:=true }]/\∃o,m=(w.setCell ⟨g,0,U⟩ (Z Y e)).alloc o:=by
 unfold gE;have z:g<N (E w):=Tu w _ b;refine callsD_of_wpS func49 O λA B hu=>?_
 simp only[ntmps49,US,Tr,UB,Nat.reduceAdd,Nat.reduceSub,U1,U2,U4,U5,Ul,TZ];apply wpS_seq;apply wpS_region;simp[wpOpsS,go_sem,recoverD,hu,ntmps49,Exit.thenS];refine wpS_of_wp ?_;have r:=λ(u:TypeId) (W:V5)=>qA (Wc #[Z Y e]) u W
 go_wp2;exact⟨O,_,O,Wb #[],Tl O _ _ _,O,O,_,O⟩
end Ru
namespace Ru
open Rd (Rk e0)
open Pk (jd Sm fx TP di cX dh)
open Dk (Kept)
structure Qw (W:V5) (XB RB GB:Nat) (a b c:Int) (p:Option Addr) (n k:Nat) (dp sv:Nat) (er:Int):Prop where
 x:W.heap[XB]?=S (D #[Z .u8 a,Z Y b,Z Y c,J p n k] 32 (0,0))
 r:W.heap[RB]?=S (D #[Z Y (dp:Int),Z Y (sv:Int)] 43 (0,0))
 g:W.heap[GB]?=S (D #[Z Y er] 33 (0,0))
def mX(a b c:Int)(p:Option Addr)(n k:Nat)(dp sv:Nat)(er:Int):V6 := Wb #[Wc #[Z .u8 a,Z Y b,Z Y c,J p n k],Wc #[Z Y (dp:Int),Z Y (sv:Int)],Z Y er]
variable {dp XB GB sv k n RB:Nat}{c er a b:Int}{W:V5}{p:Option Addr}{tmps:Array V6}
theorem tC(e:tmps[6]?=S (V9 (S ⟨XB,0,U⟩)))(j:tmps[7]?=S (V9 (S ⟨RB,0,U⟩)))(l:tmps[8]?=S (V9 (S ⟨GB,0,U⟩)))(h:Qw W XB RB GB a b c p n k dp sv er):(results f32 tmps).run prog W=.ok (mX a b c p n k dp sv er) W:=by
 have m:W.cell? ⟨XB,0,U⟩=S (Z .u8 a):=by rw[Ti W _ 0 _ _ _ h.x];rfl
 have u:W.cell? ⟨XB,1,U⟩=S (Z Y b):=by rw[Ti W _ 1 _ _ _ h.x];rfl
 have y:W.cell? ⟨XB,2,U⟩=S (Z Y c):=by rw[Ti W _ 2 _ _ _ h.x];rfl
 have z:W.cell? ⟨XB,3,U⟩=S (J p n k):=by rw[Ti W _ 3 _ _ _ h.x];rfl
 have A:W.cell? ⟨RB,0,U⟩=S (Z Y (dp:Int)):=by rw[Ti W _ 0 _ _ _ h.r];rfl
 have B:W.cell? ⟨RB,1,U⟩=S (Z Y (sv:Int)):=by rw[Ti W _ 1 _ _ _ h.r];rfl
 have C:W.cell? ⟨GB,0,U⟩=S (Z Y er):=by rw[Ti W _ 0 _ _ _ h.g];rfl
 clear h;unfold mX
 simp_all [results,results32,go_sem,Value.oneCell']
def Qu(GB:Nat):Deferred:={ target := .fn (.func 49) #[V9 (S ⟨GB,0,U⟩)],args := #[] }
theorem pz{O:Ending->V5->Prop}(z:tmps[6]?=S (V9 (S ⟨XB,0,U⟩)))(A:tmps[7]?=S (V9 (S ⟨RB,0,U⟩)))(B:tmps[8]?=S (V9 (S ⟨GB,0,U⟩))){e:Int}(h:Qw W XB RB GB a b c p n k dp sv er)(C:∀o,O (Wd (mX a b c p n k dp sv e)) ((W.setCell ⟨GB,0,U⟩ (Z Y e)).alloc o)): Leaves prog f32 tmps O [Qu GB] (.panicking (gE e)) W:=by
 have F:W.cell? ⟨GB,0,U⟩=S (Z Y er):=by rw[Ti W _ 0 _ _ _ h.g];rfl
 have G:W.frozen? ⟨GB,0,U⟩=Wg:=by simp[World.frozen?,h.g]
 refine leaves_cons (f:=49) (args := #[V9 (S ⟨GB,0,U⟩)]) (by simp[Qu]) (by simp[go_sem,Qu]) ?_;refine(B7 GB er e W F G).mono ?_;rintro L M I ⟨rfl,rfl,o,rfl⟩;have u:∀{j:Nat} {l:Array V6} {t:TypeId},W.heap[j]?=S (D l t (0,0))->j≠GB->((W.setCell ⟨GB,0,U⟩ (Z Y e)).alloc o).heap[j]?=S (D l t (0,0)):=λ{j l t} y m=>by
  rw[TD _ _ _ (by simpa using cX y),Tv W _ _ j m];exact y
 have K:Qw ((W.setCell ⟨GB,0,U⟩ (Z Y e)).alloc o) XB RB GB a b c p n k dp sv e:=by
  refine⟨u h.x (dh h.x h.g (by decide)),u h.r (dh h.r h.g (by decide)),?_⟩;rw[TD _ _ _ (by simpa using cX h.g),Tq W GB 0 _ _ _ h.g];rfl
 exact⟨_,tC z A B K,C o⟩
theorem At{O:Ending->V5->Prop}(e:tmps[6]?=S (V9 (S ⟨XB,0,U⟩)))(j:tmps[7]?=S (V9 (S ⟨RB,0,U⟩)))(l:tmps[8]?=S (V9 (S ⟨GB,0,U⟩)))(h:Qw W XB RB GB a b c p n k dp sv er)(m:O (Wd (mX a b c p n k dp sv er)) W): Leaves prog f32 tmps O [Qu GB] .returning W:=by
 refine leaves_cons (f:=49) (args := #[V9 (S ⟨GB,0,U⟩)]) (by simp[Qu]) (by simp[go_sem,Qu]) ?_;refine(AN ⟨GB,0,U⟩ W).mono ?_;rintro u y r ⟨rfl,rfl,rfl⟩;exact⟨_,tC e j l h,m⟩
end Ru
namespace Ru
open Sp (Pg Ed Cfg nG quiet lK fi gy eY iM)
open Rd (Rk e0)
open Pk (jd Sm fx TP di cX dh)
open Dk (Kept)
theorem xq{w w':V5}{O l:Nat->Prop}{b RB:Nat}{v v':V6}(h:fx w (OR O b v RB) w' (OR l b v' RB))(m:N (E w)<=RB):fx w (OO O b v) w' (OO l b v'):=⟨⟨h.kept.os,h.kept.tape,h.kept.output,h.kept.size,λk j r=>h.kept.block k j (λe=>by rcases e with e | e;exact r e;omega)⟩,λk j=>by
  rcases h.own k (Wh j) with e|e
  .rcases e with e|e
   .exact Wh e
   .exact Wi (by omega)
  .exact Wi e⟩
def EP(P:Pg)(Es:List Ed)(cZ every cY dd n dp:Nat)(b:Cfg)(K:List Nat)(Q:Rk):Out:=if (ep Q (dU Q.fE K)).1≠0 then ⟨fO,0,(ep Q (dU Q.fE K)).1,(ep Q (dU Q.fE K)).2⟩
 else rz P Es cZ every cY dd n dp ((cZ-dp)+1) dp b K 0 (ep Q (dU Q.fE K)).2
def ME(b E j dd n cY dp:Nat)(R:Rk)(O:Nat->Prop)(v:V6)(out:Out)(w:V5)(e:Ending)(w':V5):Prop:=(∃p m k,e=Wd (mX out.res.outcome out.res.step out.res.dG p m k dp out.saved out.e)/\w'.ownsRow w.heap.size 2 1 (J p m k) (Wn out.res.dJ) (out.res.dJ.map (Z Y)))/\
 ∃l r u,ot w' b E j dd n cY out.R R l r u/\fx w (OO O j v) w' (OO l j r)
theorem MU(w:V5)(jc:Array V6)(b every:Nat):∀W,W=(((((w.alloc (D jc 75)).alloc (D #[V9 (S ⟨b,0,U⟩)] 85)).alloc (D #[Z Y (every:Int)] 3)).alloc (D #[Z .u8 0,Z Y 0,Z Y 0,J U 0 0] 32)).alloc (D #[Z Y 0,Z Y 0] 43)).alloc (D #[Z Y 0] 33)->
  (W.heap[N (E w)]?=S (D jc 75 (0,0))/\W.heap[N (E w)+1]?=S (D #[V9 (S ⟨b,0,U⟩)] 85 (0,0))/\W.heap[N (E w)+1+1]?=S (D #[Z Y (every:Int)] 3 (0,0))/\W.heap[N (E w)+1+1+1]?=S (D #[Z .u8 0,Z Y 0,Z Y 0,J U 0 0] 32 (0,0))/\W.heap[N (E w)+1+1+1+1]?=S (D #[Z Y 0,Z Y 0] 43 (0,0))/\W.heap[N (E w)+1+1+1+1+1]?=S (D #[Z Y 0] 33 (0,0)))/\V4 w W/\(N (E W))=N (E w)+6:=by
 rintro W rfl;have a:∀(W:V5) (o:Obj) (j:Nat),j<N (E W)->(W.alloc o).heap[j]?=W.heap[j]?:=λW o j h=>TD W o j h
 have n:∀(W:V5) (o:Obj) (j:Nat),j=N (E W)->(W.alloc o).heap[j]?=S o:=λW o j h=>by rw[h];exact UO W o
 refine⟨⟨?_,?_,?_,?_,?_,?_⟩,?_,by simp⟩
 .rw[a _ _ _ (by simp <;> omega),a _ _ _ (by simp <;> omega),a _ _ _ (by simp <;> omega),a _ _ _ (by simp <;> omega),a _ _ _ (by simp),n _ _ _ rfl]
 .rw[a _ _ _ (by simp <;> omega),a _ _ _ (by simp <;> omega),a _ _ _ (by simp <;> omega),a _ _ _ (by simp),n _ _ _ (by simp)]
 .rw[a _ _ _ (by simp <;> omega),a _ _ _ (by simp <;> omega),a _ _ _ (by simp),n _ _ _ (by simp)]
 .rw[a _ _ _ (by simp <;> omega),a _ _ _ (by simp),n _ _ _ (by simp)]
 .rw[a _ _ _ (by simp),n _ _ _ (by simp)]
 .rw[n _ _ _ (by simp)]
 .exact(((((((Th _ w).alloc V2 _).alloc (by simp) _).alloc (by simp <;> omega) _).alloc (by simp <;> omega) _).alloc (by simp <;> omega) _).alloc (by simp <;> omega) _)
theorem JT(P:Pg)(b:List Int):jk b [] [] (List.replicate (Wn b) (Sp.eT P.pq)) (Wn b)=jk (Sp.fX P b).val (Sp.fX P b).fD (Sp.fX P b).iH (Sp.fX P b).jf (Wn b):=by
 have h:∀k,k<=Wn b->jk b [] [] (List.replicate (Wn b) (Sp.eT P.pq)) k=jk b (List.replicate (Wn b) Wg) (List.replicate (Wn b) 0) (List.replicate (Wn b) (Sp.eT P.pq)) k:=by
  intro k
  induction k with
  |zero=>intro _;rfl
  |succ k j =>
   intro l;rw[mq,mq,j (by omega)];have e:k<Wn b:=by omega
   simp[List.getD,List.getElem?_replicate,e]
 exact h (Wn b) V2
end Ru
end Go.Proofs.YtgkkdpegcieakaaGreatDoor
