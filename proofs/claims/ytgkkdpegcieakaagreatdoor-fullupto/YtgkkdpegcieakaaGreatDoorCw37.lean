import Derived.Test.YtgkkdpegcieakaaGreatDoorCw36
set_option linter.all false
set_option maxRecDepth 100000
set_option maxHeartbeats 16000000
namespace Go.Proofs.YtgkkdpegcieakaaGreatDoor
open Go.Proofs.Tryz
open Value renaming int→Z,slice→J,string→H,pointer→WV,tuple→WX,agg→WY
open Ending renaming returned→WZ
open Obj renaming cells→D
open Option renaming none→U,some→S
open Or renaming inl→Xa,inr→Xb
open List renaming length→Xg
open IntKind renaming i64→Y
open Go renaming World→WR,Value→WS,Calls→WT
open Go.RowKit
namespace Ru
open Sp (dq gX)
open Rd (Rk e0)
open Pk (iV Sm fj TP dh cV de)
open Dk (Kept)
variable {Q R:Rk}{w' w:WR}
theorem oz{b E:Nat}{O m:Nat->Prop}(h:iV w b E Q R O)(r:Kept w w' m)(u:∀k,O k->m k): iV w' b E Q R O:=by
 obtain⟨d,j,y,z,A,C,F,G,I,l⟩:=h;exact⟨d,j,y,z,A,C.kept r (λk e=>u k ((l k).2 (Xa e))),F,Pk.GM.kept G r (λk e=>u k ((l k).2 (Xb e))),I,l⟩
structure n7 (w0:WR) (O0:Nat->Prop) (v0:WS) (w:WR) (D E S da n cX:Nat) (Q R:Rk) (O:Nat->Prop) (v:WS) (T:Sn.Tb) (B X:Nat) (bc xc:Array WS):Prop where
 sf:ou w D E S da n cX Q R O v T
 bb:w.heap[B]?=some (.cells bc 80 (0,0))
 xb:w.heap[X]?=some (.cells xc 176 (0,0))
 nb:¬OO O S v B
 nx:¬OO O S v X
 st:fj w0 (OO O0 S v0) w (OO O S v)
variable {T:Sn.Tb}{cX X n da B:Nat}{bc xc:Array WS}{v v0:WS}{w0:WR}{O0:Nat->Prop}
theorem n7.below{O:Nat->Prop}{b E e:Nat}(h:n7 w0 O0 v0 w b E e da n cX Q R O v T B X bc xc)(hb:WQ w w'): n7 w0 O0 v0 w' b E e da n cX Q R O v T B X bc xc:=⟨h.sf.below hb,(hb.block _ (cV h.bb)).trans h.bb,(hb.block _ (cV h.xb)).trans h.xb,h.nb,h.nx,h.st.trans (fj.below _ hb)⟩
theorem n7.next{O j:Nat->Prop}{v':WS}{b E e:Nat}{m:Rk}{r:Sn.Tb}(h:n7 w0 O0 v0 w b E e da n cX Q R O v T B X bc xc)(u:ou w' b E e da n cX m R j v' r)(l:fj w (OO O e v) w' (OO j e v')): n7 w0 O0 v0 w' b E e da n cX m R j v' r B X bc xc:=by
 obtain⟨y,_,z⟩:=l.far (cV h.bb) h.nb;obtain⟨A,_,C⟩:=l.far (cV h.xb) h.nx;exact⟨u,y.trans h.bb,A.trans h.xb,z,C,h.st.trans l⟩
theorem n7.op{O l:Nat->Prop}{e E j:Nat}{m:Rk}(h:n7 w0 O0 v0 w e E j da n cX Q R O v T B X bc xc)(h2:iV w' e E m R l)(r:fj w O w' l): n7 w0 O0 v0 w' e E j da n cX m R l v T B X bc xc:=by
 obtain⟨a,b⟩:=h.sf.op h2 r;exact h.next a b
theorem ou.add{b E l:Nat}{O:Nat->Prop}{v':WS}{z:Sn.Tb}(h:ou w b E l da n cX Q R O v T)(A:Rt.dN w w' l 4 (Mn b da n cX v) 113 v v' z)(G:Sn.di z)(I:Xg z<=1000000000): ou w' b E l da n cX Q R O v' z/\fj w (OO O l v) w' (OO O l v'):=by
 have C:=h.sh.new A G I;have u:Kept w w' (λk=>¬qC l v k):=A.kept.mono λj _ F=>⟨λe=>F (Xa e),λe=>F (Xb e)⟩
 have r:∀k,qC l v' k->qC l v k\/w.heap.size<=k:=λk m=>by
  rcases m with e|e
  .exact Xa (Xa e)
  .rcases A.new with q|⟨g,q,V⟩
   .rw[q] at e;exact Xa (Xb e)
   .rw[q] at e;have:g=k:=Ut e;exact Xb (by omega)
 have y:fj w (OO O l v) w' (OO O l v'):=⟨u.mono λk _ m L=>m (Xb L),λk m=>by
  rcases m with e|e
  .exact Xa (Xa e)
  .rcases r k e with e|e
   .exact Xa (Xb e)
   .exact Xb e⟩
 obtain⟨M,_,N⟩:=y.far h.pw.lt h.np;refine⟨⟨oz h.two u (λk m=>h.apart k m),C,λk m P=>?_,h.pw.keep M,N⟩,y⟩;rcases r k P with e|e
 .exact h.apart k m e
 .have:=h.two.lt m;omega
theorem I0{W:WR}{O:Nat->Prop}{b E j:Nat}{f:Nat}{args:Array WS}{r:Int × Rk}(A:n7 w0 O0 v0 W b E j da n cX Q R O v T B X bc xc)(C:WT prog f args W (mI W b E j da n cX R O v (λl=>l=T) r))(z:r.1=0):WT prog f args W λe w'=>e=WZ (WX #[])/\∃m u,n7 w0 O0 v0 w' b E j da n cX r.2 R m u T B X bc xc:=by
 refine C.mono ?_;rintro e w' ⟨F,_,m,u,l,G,I,L⟩;have y:l=T:=G z;subst y;exact⟨F z,m,u,A.next I L⟩
theorem LI{W:WR}{O:Nat->Prop}{b E j:Nat}{f:Nat}{args:Array WS}{r:Int × Rk}{G:Sn.Tb->Prop}(y:n7 w0 O0 v0 W b E j da n cX Q R O v T B X bc xc)(z:WT prog f args W (mI W b E j da n cX R O v G r))(A:r.1≠0):WT prog f args W λe w'=>e=.panicked (gE r.1)/\∃l m u,ou w' b E j da n cX r.2 R l m u/\fj w0 (OO O0 j v0) w' (OO l j m):=by
 refine z.mono ?_;rintro e w' ⟨_,C,l,m,u,L,F,I⟩;exact⟨C A,l,m,u,F,y.st.trans I⟩
theorem nh(c:UInt8){step:Nat}(h:step<=9999999999):(nm c step).size<=1048576:=by
 have:=Bn step h;rw[jH];omega
theorem J3(j E l da n cX nn b step:Nat)(Q R:Rk)(O:Nat->Prop)(v:WS)(T:Sn.Tb)(p:Option Addr)(cap:Nat)(c:Sp.Cfg)(w:WR)(h:ou w j E l da n cX Q R O v T)(hv:kg w p c n)(hn:n<=64)(bp:0<n)(hj:da<4294967296)(hs:step<=9999999999)(hp:gB Q (eK c n step da) nn b)(aA:nn<=1000000000)(hb:b<=2097152)(hT:Xg T<1000000000):WT prog 53 #[WV (S ⟨l,0,U⟩),gy step p n cap c.all] w (mI w j E l da n cX R O v (λT'=>T'=if Sn.dF T step=true then T else Sn.gJ T step ⟨p,n,cap,c.all⟩) (eh Q (eK c n step da))):=by
 generalize hO:mI w j E l da n cX R O v (λT'=>T'=if Sn.dF T step=true then T else Sn.gJ T step ⟨p,n,cap,c.all⟩) (eh Q (eK c n step da))=P;replace hO:=cT hO;have m:=cT h;have ay:Hid (∀W,WQ w W->WT prog 93 #[WY #[Z .u32 da,Z Y n],WY #[Z Y (step:Int),J p n cap,Z Y c.all]] W λe w'=>e=WZ (WY (EK step c.all da c n step))/\WQ W w'):=λW C=>vp da n step p n cap c W (hv.below C) hn bp hj hs
 obtain⟨o1,aN⟩:∃o,Hid (eO (nm 118 step) (vB c n)=o):=⟨_,rfl⟩
 obtain⟨o2,aO⟩:∃o,Hid (eO (nm 109 step) (mB c n)=o):=⟨_,rfl⟩
 obtain⟨o3,aP⟩:∃o,Hid (eO tN (kB step c.all da (gX (dq (vB c n))) (gX (dq (mB c n))))=o):=⟨_,rfl⟩
 have aV:eK c n step da=o1++(o2++(o3++[⟨4,tN,nm 99 step⟩,nS])):=by
  unfold eK;rw[cS aN,cS aO,cS aP];simp only[UO]
 rw[aV] at hp hO;have aW:=hp.fst;have aX:=cT aW;have ad:=cT hp;have sV:(dq (vB c n)).size<=1048576:=by rw[Sp.ey,fA];omega
 have sM:(dq (mB c n)).size<=1048576:=by rw[Sp.ey,ga];omega
 have sK:(dq (kB step c.all da (gX (dq (vB c n))) (gX (dq (mB c n))))).size<=1048576:=by rw[Sp.ey,l5];decide
 have ao:Hid (∀(W:WR) (N:Rk) (u:Nat->Prop) (z:WS),ou W j E l da n cX N R u z T->gB N o1 nn b->WT prog 94 #[WV (S ⟨l,0,U⟩),H (nm 118 step),H (dq (vB c n))] W (mI W j E l da n cX R u z (λT'=>T'=T) (eh N o1))):=λW N u z h1 h2=>by
  have:=tg j E l da n cX nn b N R u z T (nm 118 step) (vB c n) W h1 (by rw[cS aN];exact h2) aA hb (nh _ hs) sV;rw[cS aN] at this;exact this
 have aq:Hid (∀(W:WR) (N:Rk) (u:Nat->Prop) (z:WS),ou W j E l da n cX N R u z T->gB N o2 nn b->WT prog 94 #[WV (S ⟨l,0,U⟩),H (nm 109 step),H (dq (mB c n))] W (mI W j E l da n cX R u z (λT'=>T'=T) (eh N o2))):=λW N u z h1 h2=>by
  have:=tg j E l da n cX nn b N R u z T (nm 109 step) (mB c n) W h1 (by rw[cS aO];exact h2) aA hb (nh _ hs) sM;rw[cS aO] at this;exact this
 have az:Hid (∀(W:WR) (N:Rk) (u:Nat->Prop) (z:WS),ou W j E l da n cX N R u z T->gB N o3 nn b->WT prog 94 #[WV (S ⟨l,0,U⟩),H ⟨#[116]⟩,H (dq (kB step c.all da (gX (dq (vB c n))) (gX (dq (mB c n)))))] W (mI W j E l da n cX R u z (λT'=>T'=T) (eh N o3))):=λW N u z h1 h2=>by
  have:=tg j E l da n cX nn b N R u z T tN (kB step c.all da (gX (dq (vB c n))) (gX (dq (mB c n)))) W h1 (by rw[cS aP];exact h2) aA hb (by decide) sK;rw[cS aP] at this;exact this
 unfold EK at ay;obtain⟨V,HV⟩:∃x,Hid (dq (vB c n)=x):=⟨_,rfl⟩
 obtain⟨M,HM⟩:∃x,Hid (dq (mB c n)=x):=⟨_,rfl⟩
 obtain⟨r,HK⟩:∃x,Hid (dq (kB step c.all da (gX (dq (vB c n))) (gX (dq (mB c n))))=x):=⟨_,rfl⟩
 rw[cS HK,cS HM,cS HV] at ay;rw[cS HV] at ao;rw[cS HM] at aq;rw[cS HK] at az;obtain⟨N1,aY⟩:∃x,Hid (nm 118 step=x):=⟨_,rfl⟩
 obtain⟨N2,aZ⟩:∃x,Hid (nm 109 step=x):=⟨_,rfl⟩
 obtain⟨t,aQ⟩:∃x,Hid (nm 99 step=x):=⟨_,rfl⟩
 rw[cS aY] at ao;rw[cS aZ] at aq;rw[cS aQ] at hO ad;have zN:t.size<=1048576:=by rw[<-cS aQ];exact nh _ hs
 have aH:Hid (∀W,fI W->WT prog 82 #[Z Y (step:Int)] W λe w'=>e=WZ (H N1)/\WQ W w'):=λW h=>by rw[<-cS aY];exact kO step W hs h
 have aI:Hid (∀W,fI W->WT prog 81 #[Z Y (step:Int)] W λe w'=>e=WZ (H N2)/\WQ W w'):=λW h=>by rw[<-cS aZ];exact iW step W hs h
 have aJ:Hid (∀W,fI W->WT prog 79 #[Z Y (step:Int)] W λe w'=>e=WZ (H t)/\WQ W w'):=λW h=>by rw[<-cS aQ];exact kN step W hs h
 have a1:Hid (∀W,W=w.alloc (D #[Z Y (step:Int),J p n cap,Z Y c.all] 80)->W.heap[w.heap.size]?=S (D #[Z Y (step:Int),J p n cap,Z Y c.all] 80 (0,0))/\WQ w W):=by
  show ∀W,_
  rintro W rfl;exact⟨T9 w _,(T4 _ w).alloc WN _⟩
 clear h hv hp aW aV sV sM sK;unfold gy;go_enter func53,ntmps53;go_upto_region 1 with fail;generalize C:World.alloc _ _=F;obtain⟨g,aa⟩:=cS a1 F C.symm;clear C a1
 go_cut [3,4] from 2 (λy x wx=>∃X,y=WV (S ⟨w.heap.size,0,U⟩)/\x=WV (S ⟨X,0,U⟩)/\Hid (n7 w O v wx j E l da n cX Q R O v T w.heap.size X #[Z Y (step:Int),J p n cap,Z Y c.all] #[H r,H M,H V]))
 case first =>
  have aw:=(cS m).sh.below aa;have j1:=aw.c1;have j2:=aw.c2;have b0:F.cell? ⟨w.heap.size,0,U⟩=S (Z Y (step:Int)):=by rw[T5 F _ 0 _ _ _ g];rfl
  have b1:F.cell? ⟨w.heap.size,1,U⟩=S (J p n cap):=by rw[T5 F _ 1 _ _ _ g];rfl
  have b2:F.cell? ⟨w.heap.size,2,U⟩=S (Z Y c.all):=by rw[T5 F _ 2 _ _ _ g];rfl
  have bA:l<F.heap.size:=aw.lt;have bq:w.heap.size<F.heap.size:=cV g;have br:Hid (∀W,W=F.drew->WT prog 93 #[WY #[Z .u32 da,Z Y n],WY #[Z Y (step:Int),J p n cap,Z Y c.all]] W λe w'=>e=WZ (WY #[H r,H M,H V])/\Hid (n7 w O v (w'.alloc (D #[H r,H M,H V] 176)) j E l da n cX Q R O v T w.heap.size w'.heap.size #[Z Y (step:Int),J p n cap,Z Y c.all] #[H r,H M,H V])):=by
   show ∀W,_
   rintro W rfl;refine(cS ay _ aa.drew).mono ?_;rintro e w' ⟨rfl,hb⟩;refine⟨rfl,?_⟩;have hB:WQ w w':=aa.drew.trans (hb.mono aa.drew.size);have hA:WQ w' (w'.alloc (D #[H r,H M,H V] 176)):=WO.alloc WN _;have a6:=hB.trans (hA.mono hB.size)
   show n7 _ _ _ _ _ _ _ _ _ _ _ _ _ _ _ _ _ _ _
   refine⟨(cS m).below a6,?_,T9 w' _,λhq=>?_,λhq=>?_,fj.below _ a6⟩
   .rw[hA.block _ (by have:=hb.size;have:=cV g;exact Ux this ‹_›),hb.block _ (cV g)];exact g
   .have:=(cS m).lt hq;omega
   .have:=(cS m).lt hq;have:=hB.size;omega
  have bs:Hid (∀W,W=(F.alloc (D #[H ⟨#[]⟩,H ⟨#[]⟩,H ⟨#[]⟩] 176)).drew->WT prog 93 #[WY #[Z .u32 da,Z Y n],WY #[Z Y (step:Int),J p n cap,Z Y c.all]] W λe w'=>e=WZ (WY #[H r,H M,H V])/\(w'.cell? ⟨F.heap.size,0,U⟩=S (H ⟨#[]⟩)/\w'.cell? ⟨F.heap.size,1,U⟩=S (H ⟨#[]⟩)/\w'.cell? ⟨F.heap.size,2,U⟩=S (H ⟨#[]⟩))/\(w'.frozen? ⟨F.heap.size,0,U⟩=false/\w'.frozen? ⟨F.heap.size,1,U⟩=false/\w'.frozen? ⟨F.heap.size,2,U⟩=false)/\Hid (n7 w O v (((w'.setCell ⟨F.heap.size,0,U⟩ (H r)).setCell ⟨F.heap.size,1,U⟩ (H M)).setCell ⟨F.heap.size,2,U⟩ (H V)) j E l da n cX Q R O v T w.heap.size F.heap.size #[Z Y (step:Int),J p n cap,Z Y c.all] #[H r,H M,H V])):=by
   show ∀W,_
   intro W C;have aB:WQ F W:=by rw[C];exact(WO.alloc WN _).drew
   have a7:W.heap[F.heap.size]?=S (D #[H ⟨#[]⟩,H ⟨#[]⟩,H ⟨#[]⟩] 176 (0,0)):=by rw[C];exact T9 F _
   clear C;have aR:=aa.trans (aB.mono aa.size);refine(cS ay _ aR).mono ?_;rintro e w' ⟨rfl,hb⟩;have ar:=(hb.block _ (cV a7)).trans a7;have hB:WQ w w':=aR.trans (hb.mono aR.size);refine⟨rfl,⟨by rw[T5 w' _ 0 _ _ _ ar];rfl,by rw[T5 w' _ 1 _ _ _ ar];rfl,by rw[T5 w' _ 2 _ _ _ ar];rfl⟩,⟨by simp[World.frozen?,ar],by simp[World.frozen?,ar],by simp[World.frozen?,ar]⟩,?_⟩
   show n7 _ _ _ _ _ _ _ _ _ _ _ _ _ _ _ _ _ _ _
   have bu:WQ F w':=aB.trans (hb.mono aB.size);have a8:WQ F (((w'.setCell ⟨F.heap.size,0,U⟩ (H r)).setCell ⟨F.heap.size,1,U⟩ (H M)).setCell ⟨F.heap.size,2,U⟩ (H V)):=((bu.setCell (p:=⟨F.heap.size,0,U⟩) WN _).setCell (p:=⟨F.heap.size,1,U⟩) WN _).setCell (p:=⟨F.heap.size,2,U⟩) WN _;have hS:=aa.trans (a8.mono aa.size);refine⟨(cS m).below hS,(a8.block _ bq).trans g,?_,λhq=>?_,λhq=>?_,fj.below _ hS⟩
   .have h1:=Ue w' F.heap.size 0 _ _ (H r) ar;have h2:=Ue _ F.heap.size 1 _ _ (H M) h1;have h3:=Ue _ F.heap.size 2 _ _ (H V) h2;rw[h3];rfl
   .have:=(cS m).lt hq;omega
   .have:=(cS m).lt hq;have:=aa.size;omega
  clear ay ao aq az aH aI aJ g aw ad aX hO
  go_region_with (first
  |(go_at_call 93;refine((cS br) _ rfl).mono ?_;rintro e w1 ⟨rfl,HR⟩)
  |(go_at_call 93;refine((cS bs) _ rfl).mono ?_;rintro e w1 ⟨rfl,⟨k0,k1,k2⟩,⟨g0,g1,g2⟩,HR⟩))
  all_goals
   go_wp2
   go_meet
   exact⟨_,rfl,rfl,HR⟩
 case rest =>
 obtain⟨X,rfl,rfl,A⟩:=hcut;obtain⟨Q1,aK⟩:∃x,Q=x:=⟨_,rfl⟩
 have ax:Hid (eh Q (o1++(o2++(o3++[⟨4,tN,t⟩,nS])))=eh Q1 (o1++(o2++(o3++[⟨4,tN,t⟩,nS])))):=by show _=_;rw[aK]
 rw[aK] at A;replace ad:Hid (gB Q1 (o1++(o2++(o3++[⟨4,tN,t⟩,nS]))) nn b):=by show gB _ _ _ _;rw[<-aK];exact cS ad
 obtain⟨O1,v1,A⟩:∃O1 v1,Hid (n7 w O v wc j E l da n cX Q1 R O1 v1 T w.heap.size X #[Z Y (step:Int),J p n cap,Z Y c.all] #[H r,H M,H V]):=⟨O,v,A⟩
 clear aX m aK ay aa g;have aC:wc.heap[w.heap.size]?=S (D #[Z Y (step:Int),J p n cap,Z Y c.all] 80 (0,0)):=(cS A).bb;have ae:wc.heap[X]?=S (D #[H r,H M,H V] 176 (0,0)):=(cS A).xb;have z0:wc.cell? ⟨w.heap.size,0,U⟩=S (Z Y (step:Int)):=by rw[T5 wc _ 0 _ _ _ aC];rfl
 have z1:wc.cell? ⟨X,2,U⟩=S (H V):=by rw[T5 wc _ 2 _ _ _ ae];rfl
 clear aC ae;have hd:Hid (n7 w O v wc.drew j E l da n cX Q1 R O1 v1 T w.heap.size X #[Z Y (step:Int),J p n cap,Z Y c.all] #[H r,H M,H V]):=(cS A).below WO.drew;have CT:∀{N:Rk} {u:Nat->Prop} {z:WS} {w':WR},n7 w O v w' j E l da n cX N R u z T w.heap.size X #[Z Y (step:Int),J p n cap,Z Y c.all] #[H r,H M,H V]->w'.cell? ⟨w.heap.size,0,U⟩=S (Z Y (step:Int))/\w'.cell? ⟨X,2,U⟩=S (H V):=λ{N u z w'} h=>⟨by rw[T5 w' _ 0 _ _ _ h.bb];rfl,by rw[T5 w' _ 2 _ _ _ h.xb];rfl⟩
 have HA:Hid (∀W,Hid (n7 w O v W j E l da n cX Q1 R O1 v1 T w.heap.size X #[Z Y (step:Int),J p n cap,Z Y c.all] #[H r,H M,H V])->WT prog 82 #[Z Y (step:Int)] W λe w'=>e=WZ (H N1)/\(w'.cell? ⟨w.heap.size,0,U⟩=S (Z Y (step:Int))/\w'.cell? ⟨X,2,U⟩=S (H V))/\Hid (n7 w O v w' j E l da n cX Q1 R O1 v1 T w.heap.size X #[Z Y (step:Int),J p n cap,Z Y c.all] #[H r,H M,H V])):=λW C=>(cS aH W (cS C).sf.pw).mono λe w' ⟨he,hb⟩=>⟨he,CT ((cS C).below hb),(cS C).below hb⟩
 have I:=cT (cS ad).fst;by_cases G:(eh Q1 o1).1=0
 .have HB:Hid (∀W,Hid (n7 w O v W j E l da n cX Q1 R O1 v1 T w.heap.size X #[Z Y (step:Int),J p n cap,Z Y c.all] #[H r,H M,H V])->WT prog 94 #[WV (S ⟨l,0,U⟩),H N1,H V] W λe w'=>e=WZ (WX #[])/\(w'.cell? ⟨w.heap.size,0,U⟩=S (Z Y (step:Int))/\w'.cell? ⟨X,2,U⟩=S (H V))/\∃u z,Hid (n7 w O v w' j E l da n cX (eh Q1 o1).2 R u z T w.heap.size X #[Z Y (step:Int),J p n cap,Z Y c.all] #[H r,H M,H V])):=λW C=>(I0 (cS C) (cS ao W Q1 O1 v1 (cS C).sf (cS I)) G).mono λe w' ⟨he,u,z,h⟩=>⟨he,CT h,u,z,h⟩
  have af:Hid (eh Q (o1++(o2++(o3++[⟨4,tN,t⟩,nS])))=eh (eh Q1 o1).2 (o2++(o3++[⟨4,tN,t⟩,nS]))):=by show _=_;rw[cS ax,iC,T0 G]
  have aD:=cT ((cS ad).snd G);clear CT ad I A ax ao aH;go_wp2_with fail
  go_region_held3 (λw'=>w'.cell? ⟨w.heap.size,0,U⟩=S (Z Y (step:Int))/\w'.cell? ⟨X,2,U⟩=S (H V))
   (first|(exact⟨by assumption,by assumption⟩)|(go_keep;done))
   (first
    |(go_at_call 82;refine((cS HA) _ (by assumption)).mono ?_;rintro e w1 ⟨rfl,⟨k0,k1⟩,ag⟩)
    |(go_at_call 94;refine((cS HB) _ (by assumption)).mono ?_;rintro e au ⟨rfl,⟨y0,y1⟩,O2,v2,A⟩))
  clear z0 z1 hd HA HB k0 k1 ag y0 y1 G;obtain⟨Q2,ba⟩:∃q,Hid ((eh Q1 o1).2=q):=⟨_,rfl⟩
  rw[cS ba] at A af aD;clear ba;have aC:au.heap[w.heap.size]?=S (D #[Z Y (step:Int),J p n cap,Z Y c.all] 80 (0,0)):=(cS A).bb;have ae:au.heap[X]?=S (D #[H r,H M,H V] 176 (0,0)):=(cS A).xb;have z0:au.cell? ⟨w.heap.size,0,U⟩=S (Z Y (step:Int)):=by rw[T5 au _ 0 _ _ _ aC];rfl
  have z1:au.cell? ⟨X,1,U⟩=S (H M):=by rw[T5 au _ 1 _ _ _ ae];rfl
  clear aC ae;have hd:Hid (n7 w O v au.drew j E l da n cX Q2 R O2 v2 T w.heap.size X #[Z Y (step:Int),J p n cap,Z Y c.all] #[H r,H M,H V]):=(cS A).below WO.drew;have CT:∀{N:Rk} {u:Nat->Prop} {z:WS} {w':WR},n7 w O v w' j E l da n cX N R u z T w.heap.size X #[Z Y (step:Int),J p n cap,Z Y c.all] #[H r,H M,H V]->w'.cell? ⟨w.heap.size,0,U⟩=S (Z Y (step:Int))/\w'.cell? ⟨X,1,U⟩=S (H M):=λ{N u z w'} h=>⟨by rw[T5 w' _ 0 _ _ _ h.bb];rfl,by rw[T5 w' _ 1 _ _ _ h.xb];rfl⟩
  have HA:Hid (∀W,Hid (n7 w O v W j E l da n cX Q2 R O2 v2 T w.heap.size X #[Z Y (step:Int),J p n cap,Z Y c.all] #[H r,H M,H V])->WT prog 81 #[Z Y (step:Int)] W λe w'=>e=WZ (H N2)/\(w'.cell? ⟨w.heap.size,0,U⟩=S (Z Y (step:Int))/\w'.cell? ⟨X,1,U⟩=S (H M))/\Hid (n7 w O v w' j E l da n cX Q2 R O2 v2 T w.heap.size X #[Z Y (step:Int),J p n cap,Z Y c.all] #[H r,H M,H V])):=λW C=>(cS aI W (cS C).sf.pw).mono λe w' ⟨he,hb⟩=>⟨he,CT ((cS C).below hb),(cS C).below hb⟩
  have I:=cT (cS aD).fst;by_cases G:(eh Q2 o2).1=0
  .have HB:Hid (∀W,Hid (n7 w O v W j E l da n cX Q2 R O2 v2 T w.heap.size X #[Z Y (step:Int),J p n cap,Z Y c.all] #[H r,H M,H V])->WT prog 94 #[WV (S ⟨l,0,U⟩),H N2,H M] W λe w'=>e=WZ (WX #[])/\(w'.cell? ⟨w.heap.size,0,U⟩=S (Z Y (step:Int))/\w'.cell? ⟨X,1,U⟩=S (H M))/\∃u z,Hid (n7 w O v w' j E l da n cX (eh Q2 o2).2 R u z T w.heap.size X #[Z Y (step:Int),J p n cap,Z Y c.all] #[H r,H M,H V])):=λW C=>(I0 (cS C) (cS aq W Q2 O2 v2 (cS C).sf (cS I)) G).mono λe w' ⟨he,u,z,h⟩=>⟨he,CT h,u,z,h⟩
   have ah:Hid (eh Q (o1++(o2++(o3++[⟨4,tN,t⟩,nS])))=eh (eh Q2 o2).2 (o3++[⟨4,tN,t⟩,nS])):=by show _=_;rw[cS af,iC,T0 G]
   have aE:=cT ((cS aD).snd G);clear CT aD I A af aq aI;go_upto_region 3 with fail
   go_region_held3 (λw'=>w'.cell? ⟨w.heap.size,0,U⟩=S (Z Y (step:Int))/\w'.cell? ⟨X,1,U⟩=S (H M))
    (first|(exact⟨by assumption,by assumption⟩)|(go_keep;done))
    (first
     |(go_at_call 81;refine((cS HA) _ (by assumption)).mono ?_;rintro e w1 ⟨rfl,⟨k0,k1⟩,ag⟩)
     |(go_at_call 94;refine((cS HB) _ (by assumption)).mono ?_;rintro e aF ⟨rfl,⟨y0,y1⟩,O3,v3,A⟩))
   clear z0 z1 hd HA HB k0 k1 ag y0 y1 G;obtain⟨Q3,bd⟩:∃q,Hid ((eh Q2 o2).2=q):=⟨_,rfl⟩
   rw[cS bd] at A ah aE;clear bd;have ae:aF.heap[X]?=S (D #[H r,H M,H V] 176 (0,0)):=(cS A).xb;have z1:aF.cell? ⟨X,0,U⟩=S (H r):=by rw[T5 aF _ 0 _ _ _ ae];rfl
   clear ae;have I:=cT (cS aE).fst;by_cases G:(eh Q3 o3).1=0
   .have HB:=cT (I0 (cS A) (cS az aF Q3 O3 v3 (cS A).sf (cS I)) G);have ai:Hid (eh Q (o1++(o2++(o3++[⟨4,tN,t⟩,nS])))=eh (eh Q3 o3).2 [⟨4,tN,t⟩,nS]):=by show _=_;rw[cS ah,iC,T0 G]
    have aG:=cT ((cS aE).snd G);clear aE I A ah az;go_wp2_with fail;refine(cS HB).mono ?_;rintro e aS ⟨rfl,O4,v4,A⟩;replace A:=cT A;clear HB G z1;obtain⟨Q4,bg⟩:∃q,Hid ((eh Q3 o3).2=q):=⟨_,rfl⟩
    rw[cS bg] at A ai aG;clear bg;have s0:=(cS A).sf.sh.c0;have z0:aS.cell? ⟨w.heap.size,0,U⟩=S (Z Y (step:Int)):=by rw[T5 aS _ 0 _ _ _ (cS A).bb];rfl
    have hd:Hid (n7 w O v aS.drew j E l da n cX Q4 R O4 v4 T w.heap.size X #[Z Y (step:Int),J p n cap,Z Y c.all] #[H r,H M,H V]):=(cS A).below WO.drew;have CT:∀{N:Rk} {u:Nat->Prop} {z:WS} {w':WR},n7 w O v w' j E l da n cX N R u z T w.heap.size X #[Z Y (step:Int),J p n cap,Z Y c.all] #[H r,H M,H V]->w'.cell? ⟨l,0,U⟩=S (WV (S ⟨j,0,U⟩))/\w'.cell? ⟨w.heap.size,0,U⟩=S (Z Y (step:Int)):=λ{N u z w'} h=>⟨h.sf.sh.c0,by rw[T5 w' _ 0 _ _ _ h.bb];rfl⟩
    have HA:Hid (∀W,Hid (n7 w O v W j E l da n cX Q4 R O4 v4 T w.heap.size X #[Z Y (step:Int),J p n cap,Z Y c.all] #[H r,H M,H V])->WT prog 79 #[Z Y (step:Int)] W λe w'=>e=WZ (H t)/\(w'.cell? ⟨l,0,U⟩=S (WV (S ⟨j,0,U⟩))/\w'.cell? ⟨w.heap.size,0,U⟩=S (Z Y (step:Int)))/\Hid (n7 w O v w' j E l da n cX Q4 R O4 v4 T w.heap.size X #[Z Y (step:Int),J p n cap,Z Y c.all] #[H r,H M,H V])):=λW C=>(cS aJ W (cS C).sf.pw).mono λe w' ⟨he,hb⟩=>⟨he,CT ((cS C).below hb),(cS C).below hb⟩
    have aL:Hid (∀W,Hid (n7 w O v W j E l da n cX Q4 R O4 v4 T w.heap.size X #[Z Y (step:Int),J p n cap,Z Y c.all] #[H r,H M,H V])->WT prog 95 #[WV (S ⟨j,0,U⟩),H ⟨#[116]⟩,H t] W λe w'=>e=WZ (Z Y (Q4.rename tN t).1)/\(w'.cell? ⟨l,0,U⟩=S (WV (S ⟨j,0,U⟩))/\w'.cell? ⟨w.heap.size,0,U⟩=S (Z Y (step:Int)))/\∃u,Hid (n7 w O v w' j E l da n cX (Q4.rename tN t).2 R u v4 T w.heap.size X #[Z Y (step:Int),J p n cap,Z Y c.all] #[H r,H M,H V])):=λW C=>(Pk.Kc tN t (cS C).sf.two (cS aG).head aA (by decide) zN).mono λe w' ⟨he,u,h2,hs⟩=>⟨he,CT ((cS C).op h2 hs),u,(cS C).op h2 hs⟩
    have L:Hid (dz Q4 ⟨4,tN,t⟩=Q4.rename tN t):=rfl;obtain⟨e4,ab⟩:∃x,Hid ((Q4.rename tN t).1=x):=⟨_,rfl⟩
    rw[cS ab] at aL;by_cases G:e4=0
    .subst G;have aj:Hid (eh Q (o1++(o2++(o3++[⟨4,tN,t⟩,nS])))=eh (Q4.rename tN t).2 [nS]):=by show _=_;rw[cS ai,oZ (by rw[cS L];exact cS ab),cS L]
     have aT:Hid (gB (Q4.rename tN t).2 [nS] nn b):=(cS aG).tail (by rw[cS L];exact cS ab);clear CT aG A ai aJ ab L;go_upto_region 5 with fail
     go_region_held3 (λw'=>w'.cell? ⟨l,0,U⟩=S (WV (S ⟨j,0,U⟩))/\w'.cell? ⟨w.heap.size,0,U⟩=S (Z Y (step:Int)))
      (first|(exact⟨by assumption,by assumption⟩)|(go_keep;done))
      (first
       |(go_at_call 79;refine((cS HA) _ (by assumption)).mono ?_;rintro e w1 ⟨rfl,⟨k0,k1⟩,ag⟩)
       |(go_at_call 95;refine((cS aL) _ (by assumption)).mono ?_;rintro e bh ⟨rfl,⟨y0,y1⟩,O5,A⟩)
       |(go_at_call 89;refine(iT _).mono ?_;rintro e wm ⟨rfl,av⟩;obtain rfl:=av.symm))
     clear s0 z0 hd HA aL k0 k1 ag y0 y1;obtain⟨Q5,bj⟩:∃q,Hid ((Q4.rename tN t).2=q):=⟨_,rfl⟩
     rw[cS bj] at A aj aT;clear bj;have s0:=(cS A).sf.sh.c0;have aU:=cT (Pk.sk (cS A).sf.two (cS aT).head aA);have L:Hid (dz Q5 nS=Q5.fa):=rfl;obtain⟨e5,ak⟩:∃x,Hid (Q5.fa.1=x):=⟨_,rfl⟩
     rw[cS ak] at aU;go_wp2_with fail;refine(cS aU).mono ?_;rintro e s ⟨rfl,O6,t6,s6⟩;have an:=cT ((cS A).op t6 s6);clear aU t6 s6 s0 A aT;by_cases G:e5=0
     .subst G;have HR:Hid (eh Q (o1++(o2++(o3++[⟨4,tN,t⟩,nS])))=(0,Q5.fa.2)):=by
       show _=_
       rw[cS aj,o8,cS L,<-cS ak]
      have x0:s.cell? ⟨w.heap.size,0,U⟩=S (Z Y (step:Int)):=by rw[T5 s _ 0 _ _ _ (cS an).bb];rfl
      have x1:s.cell? ⟨w.heap.size,1,U⟩=S (J p n cap):=by rw[T5 s _ 1 _ _ _ (cS an).bb];rfl
      have x2:s.cell? ⟨w.heap.size,2,U⟩=S (Z Y c.all):=by rw[T5 s _ 2 _ _ _ (cS an).bb];rfl
      have bw:Hid (∀W,W=s.drew->WT prog 46 #[WV (S ⟨l,4,U⟩),Z Y (step:Int),WY #[Z Y (step:Int),J p n cap,Z Y c.all]] W λe w'=>(∃bb,e=WZ (.bool bb))/\(w'.cell? ⟨w.heap.size,0,U⟩=S (Z Y (step:Int))/\w'.cell? ⟨w.heap.size,1,U⟩=S (J p n cap)/\w'.cell? ⟨w.heap.size,2,U⟩=S (Z Y c.all))/\Hid (P (WZ (WX #[])) w')):=by
       show ∀W,_
       intro W C;have aB:WQ s W:=by rw[C];exact WO.drew
       have hI:=(cS an).below aB;refine(Rt.n8 l 4 (Mn j da n cX v4) 113 v4 T step ⟨p,n,cap,c.all⟩ W hI.sf.sh.tab hI.sf.sh.ne).mono ?_;rintro e w' ⟨he,z,hn⟩;have bk:Sn.di (if Sn.dF T step=true then T else Sn.gJ T step ⟨p,n,cap,c.all⟩):=by
        split
        .exact hI.sf.sh.tab.me
        .rename_i hq;exact Sn.iq hI.sf.sh.tab.me (by simpa using hq)
       have bn:(if Sn.dF T step=true then T else Sn.gJ T step ⟨p,n,cap,c.all⟩).length<=1000000000:=by
        split
        .exact hI.sf.sh.tab.len
        .rw[Sn.iP];omega
       obtain⟨hq,hs⟩:=hI.sf.add hn bk bn;have aM:=hI.next hq hs
       refine⟨⟨_,he⟩,⟨by rw[T5 w' _ 0 _ _ _ aM.bb];rfl,by rw[T5 w' _ 1 _ _ _ aM.bb];rfl,by rw[T5 w' _ 2 _ _ _ aM.bb];rfl⟩,?_⟩
       show P _ _
       rw[<-cS hO,cS HR];exact⟨λ_=>rfl,λh=>absurd rfl h,O6,z,_,λ_=>rfl,hq,aM.st⟩
      clear an aj HR L ak;go_wp2_with fail;refine(iT s).mono ?_;rintro e wm ⟨rfl,av⟩;obtain rfl:=av.symm;go_upto_region 7 with fail
      go_region_held3 (λw'=>w'.cell? ⟨w.heap.size,0,U⟩=S (Z Y (step:Int))/\w'.cell? ⟨w.heap.size,1,U⟩=S (J p n cap)/\w'.cell? ⟨w.heap.size,2,U⟩=S (Z Y c.all))
       (first|(exact⟨by assumption,by assumption,by assumption⟩)|(go_keep;done))
       (first|(go_at_call 46;refine((cS bw) _ rfl).mono ?_;rintro e w7 ⟨⟨bb,rfl⟩,⟨y0,y1,y2⟩,HF⟩))
      all_goals
       go_wp2;exact Ub (Ua rfl _ _ _) rfl (cS HF)
     .have HF:Hid (P (.panicked (gE e5)) s):=by
       show P _ _
       have bo:(dz Q5 nS).1≠0:=by rw[cS L,cS ak];exact G
       rw[<-cS hO,cS aj,o8,cS L];exact⟨λh=>absurd ((cS ak).symm.trans h) G,λ_=>by rw[cS ak],O6,v4,T,λh=>absurd ((cS ak).symm.trans h) G,(cS an).sf,(cS an).st⟩
      clear an aj L ak;go_wp2_with fail;refine(jV e5 G s).mono ?_;rintro e wm ⟨rfl,av⟩;obtain rfl:=av.symm;exact⟨rfl,cS HF⟩
    .have HF:Hid (∀w' u,n7 w O v w' j E l da n cX (Q4.rename tN t).2 R u v4 T w.heap.size X #[Z Y (step:Int),J p n cap,Z Y c.all] #[H r,H M,H V]->P (.panicked (gE e4)) w'):=by
      show ∀w' u,_
      intro w' u h;have bo:(dz Q4 ⟨4,tN,t⟩).1≠0:=by rw[cS L,cS ab];exact G
      rw[<-cS hO,cS ai,qH bo,cS L];exact⟨λh=>absurd ((cS ab).symm.trans h) G,λ_=>by rw[cS ab],u,v4,T,λh=>absurd ((cS ab).symm.trans h) G,h.sf,h.st⟩
     clear CT aG A ai aJ ab L;go_upto_region 5 with fail
     go_region_with (first
     |(go_at_call 79;refine((cS HA) _ (by assumption)).mono ?_;rintro e w1 ⟨rfl,⟨k0,k1⟩,ag⟩)
     |(go_at_call 95;refine((cS aL) _ (by assumption)).mono ?_;rintro e bh ⟨rfl,⟨y0,y1⟩,O5,bx⟩)
     |(go_at_call 89;refine(jV e4 G _).mono ?_;rintro e wm ⟨rfl,av⟩;obtain rfl:=av.symm;refine jA prog bh ⟨rfl,cS HF _ _ (cS bx)⟩ ?_))
     all_goals trivial
   .have HB:=cT (LI (cS A) (cS az aF Q3 O3 v3 (cS A).sf (cS I)) G);have HF:Hid (∀w',(∃u z T',ou w' j E l da n cX (eh Q3 o3).2 R u z T'/\fj w (OO O l v) w' (OO u l z))->P (.panicked (gE (eh Q3 o3).1)) w'):=by
     show ∀w',_
     rintro w' ⟨u,z,T',h1,h2⟩;rw[<-cS hO,cS ah,iC,TZ G];exact⟨λh=>absurd h G,λ_=>rfl,u,z,T',λh=>absurd h G,h1,h2⟩
    clear aE I A ah az;go_wp2_with fail;refine(cS HB).mono ?_;rintro e w4 ⟨rfl,hq⟩;exact⟨rfl,cS HF w4 hq⟩
  .have HB:Hid (∀W,Hid (n7 w O v W j E l da n cX Q2 R O2 v2 T w.heap.size X #[Z Y (step:Int),J p n cap,Z Y c.all] #[H r,H M,H V])->WT prog 94 #[WV (S ⟨l,0,U⟩),H N2,H M] W λe w'=>e=.panicked (gE (eh Q2 o2).1)/\Hid (P (.panicked (gE (eh Q2 o2).1)) w')):=λW C=>(LI (cS C) (cS aq W Q2 O2 v2 (cS C).sf (cS I)) G).mono λe w' ⟨he,u,z,T',h1,h2⟩=>⟨he,by
    show P _ _
    rw[<-cS hO,cS af,iC,TZ G];exact⟨λh=>absurd h G,λ_=>rfl,u,z,T',λh=>absurd h G,h1,h2⟩⟩
   clear CT aD I A af aq aI;go_upto_region 3 with fail
   go_region_with (first
   |(go_at_call 81;refine((cS HA) _ (by assumption)).mono ?_;rintro e w1 ⟨rfl,⟨k0,k1⟩,ag⟩)
   |(go_at_call 94;refine((cS HB) _ (by assumption)).mono ?_;rintro e w2 ⟨rfl,HF⟩;refine jA prog w2 ⟨rfl,cS HF⟩ ?_))
   all_goals trivial
 .have HB:Hid (∀W,Hid (n7 w O v W j E l da n cX Q1 R O1 v1 T w.heap.size X #[Z Y (step:Int),J p n cap,Z Y c.all] #[H r,H M,H V])->WT prog 94 #[WV (S ⟨l,0,U⟩),H N1,H V] W λe w'=>e=.panicked (gE (eh Q1 o1).1)/\Hid (P (.panicked (gE (eh Q1 o1).1)) w')):=λW C=>(LI (cS C) (cS ao W Q1 O1 v1 (cS C).sf (cS I)) G).mono λe w' ⟨he,u,z,T',h1,h2⟩=>⟨he,by
   show P _ _
   rw[<-cS hO,cS ax,iC,TZ G];exact⟨λh=>absurd h G,λ_=>rfl,u,z,T',λh=>absurd h G,h1,h2⟩⟩
  clear CT ad I A ax ao aH;go_wp2_with fail
  go_region_with (first
  |(go_at_call 82;refine((cS HA) _ (by assumption)).mono ?_;rintro e w1 ⟨rfl,⟨k0,k1⟩,ag⟩)
  |(go_at_call 94;refine((cS HB) _ (by assumption)).mono ?_;rintro e w2 ⟨rfl,HF⟩;refine jA prog w2 ⟨rfl,cS HF⟩ ?_))
  all_goals trivial
end Ru
namespace Ru
open Rd (Rk e0)
open Pk (iV Sm fj TP dh cV de)
open Dk (Kept)
structure nI (w0:WR) (O0:Nat->Prop) (v0:WS) (w:WR) (D E S da n cX:Nat) (Q R:Rk) (O:Nat->Prop) (v:WS) (T:Sn.Tb):Prop where
 sf:ou w D E S da n cX Q R O v T
 st:fj w0 (OO O0 S v0) w (OO O S v)
variable {T:Sn.Tb}{w' w:WR}{v:WS}{Q R:Rk}{n da cX:Nat}
theorem nI.below{j:WR}{O0 O:Nat->Prop}{v0:WS}{b E e:Nat}(h:nI j O0 v0 w b E e da n cX Q R O v T)(hb:WQ w w'): nI j O0 v0 w' b E e da n cX Q R O v T:=⟨h.sf.below hb,h.st.trans (fj.below _ hb)⟩
theorem nI.op{m:WR}{O0 O l:Nat->Prop}{v0:WS}{e E j:Nat}{r:Rk}(h:nI m O0 v0 w e E j da n cX Q R O v T)(h2:iV w' e E r R l)(u:fj w O w' l): nI m O0 v0 w' e E j da n cX r R l v T:=by
 obtain⟨a,b⟩:=h.sf.op h2 u;exact⟨a,h.st.trans b⟩
theorem ou.forget{b E j:Nat}{O:Nat->Prop}{v':WS}{z:Sn.Tb}(h:ou w b E j da n cX Q R O v T)(y:gG w' j b da n cX v' z)(r:Kept w w' (λk=>¬qC j v k))(A:∀g,v'.ownBlock=S g->v.ownBlock=S g\/w.heap.size<=g): ou w' b E j da n cX Q R O v' z/\fj w (OO O j v) w' (OO O j v'):=by
 have m:∀k,qC j v' k->qC j v k\/w.heap.size<=k:=λk l=>by
  rcases l with e|e
  .exact Xa (Xa e)
  .rcases A k e with q|q
   .exact Xa (Xb q)
   .exact Xb q
 have u:fj w (OO O j v) w' (OO O j v'):=⟨r.mono λk _ l B=>l (Xb B),λk l=>by
  rcases l with e|e
  .exact Xa (Xa e)
  .rcases m k e with e|e
   .exact Xa (Xb e)
   .exact Xb e⟩
 obtain⟨C,_,F⟩:=u.far h.pw.lt h.np;refine⟨⟨oz h.two r (λk l=>h.apart k l),y,λk l G=>?_,h.pw.keep C,F⟩,u⟩;rcases m k G with e|e
 .exact h.apart k l e
 .have:=h.two.lt l;omega
def zx(cX:Nat)(T:Sn.Tb):List Oq:=((T.map (·.1)).take (Xg T-cX)).flatMap drop1++[nS]
theorem KT{k:Nat}{x:Sn.Ce}(h:cX<((k,x)::T).length): zx cX ((k,x)::T)=mU (nm 99 k)::mU (nm 109 k)::mU (nm 118 k)::zx cX T:=by
 unfold zx;rw[Uf] at h ⊢;rw[show (Xg T)+1-cX=(Xg T-cX)+1 by omega,U4,VF,V9]
 rfl
theorem ND(h:Xg T<=cX): zx cX T=[nS]:=by
 unfold zx;rw[show (Xg T)-cX=0 by omega,List.take_zero];rfl
theorem L7(h:cX<Xg T): fx ((T.map (·.1)).take (Xg T-cX))=zx cX T:=by
 unfold fx zx;rw[TZ];intro e;have:=congrArg List.length e;rw[Vj,UX] at this;simp at this;omega
def kV(b:Nat)(w:WR):Nat:=match w.cell? ⟨b,4,U⟩ with
 |some (J _ n _)=>n
 |_=>0
theorem gG.kV{b e:Nat}(h:gG w b e da n cX v T): kV b w=Xg T:=by
 obtain⟨p,j,l,_⟩:=Rt.dS h.tab.row;unfold Ru.kV;rw[h.tab.cell,l]
theorem KY(j E l da n cX nn b:Nat)(Q R:Rk)(O:Nat->Prop)(v:WS)(T:Sn.Tb)(w:WR)(h:ou w j E l da n cX Q R O v T)(hT:∀x∈T,x.1<=9999999999)(hp:gB Q (fx ((T.map (·.1)).take (Xg T-cX))) nn b)(ah:nn<=1000000000)(hm:cX<=1000000000):WT prog 54 #[WV (S ⟨l,0,U⟩)] w (mI w j E l da n cX R O v (λT'=>T'=T.drop (Xg T-cX)) (eh Q (fx ((T.map (·.1)).take (Xg T-cX))))):=by
 generalize hO:mI w j E l da n cX R O v (λT'=>T'=T.drop (Xg T-cX)) (eh Q (fx ((T.map (·.1)).take (Xg T-cX))))=P;replace hO:=cT hO;have hl:=h.sh.tab.len;have c3:=h.sh.c3;have ai:Hid (∀(W:WR) (v':WS) (T':Sn.Tb),gG W l j da n cX v' T'->WT prog 87 #[WV (S ⟨l,4,U⟩)] W λe w'=>e=WZ (Z Y (Xg T'))/\w'=W):=λW v' T' h=>Rt.Fv l 4 _ _ v' T' W h.tab
 have m:=cT h;have HP:=cT hp;have az:=cT hT;clear h hp hT;by_cases aO:Xg T<=cX
 .have HF:Hid (P (WZ (WX #[])) w.drew):=by
   show P _ _
   rw[<-cS hO,show (Xg T)-cX=0 by omega,List.take_zero];exact⟨λ_=>rfl,λh=>absurd rfl h,O,v,T,λ_=>rfl,(cS m).below WO.drew,fj.below _ WO.drew⟩
  have t:=cT (cS ai w.drew v T ((cS m).sh.below WO.drew));have aj:(Xg T:Int)<=(cX:Int):=by omega
  clear ai m HP az;go_enter func54,ntmps54;go_upto_region 0 with fail
  go_region_held3 (λw'=>w'.cell? ⟨l,3,U⟩=S (Z Y (cX:Int)))
   (first|(assumption)|(go_keep;done))
   (first|(go_at_call 87;refine(cS t).mono ?_;rintro e w1 ⟨rfl,aa⟩;obtain rfl:=aa.symm))
  all_goals
   go_wp2;exact T8 (Ua rfl _ _ _) rfl (cS HF)
 .have aJ:cX<Xg T:=by omega
  have aj:¬(Xg T:Int)<=(cX:Int):=by omega
  have t:=cT (cS ai w.drew v T ((cS m).sh.below WO.drew));have av:Hid (nI w O v w.drew j E l da n cX Q R O v T):=⟨(cS m).below WO.drew,fj.below _ WO.drew⟩
  have aA:=L7 aJ;rw[aA] at HP hO;clear m aA;go_enter func54,ntmps54;go_upto_region 0 with fail
  go_region_held3 (λw'=>w'.cell? ⟨l,3,U⟩=S (Z Y (cX:Int)))
   (first|(assumption)|(go_keep;done))
   (first|(go_at_call 87;refine(cS t).mono ?_;rintro e w1 ⟨rfl,aa⟩;obtain rfl:=aa.symm))
  clear t c3;go_wp2_with fail
  go_loopw [2] (λ_ wr=>∃(s:Sn.Tb) (Q1:Rk) (O1:Nat->Prop) (v1:WS),(cX<=Xg s/\(Xg s)<=1000000000)/\kV l wr=Xg s/\Hid (nI w O v wr j E l da n cX Q1 R O1 v1 s/\eh Q (zx cX T)=eh Q1 (zx cX s)/\gB Q1 (zx cX s) nn b/\(∃A,T=A++s))) (λ_ wr=>kV l wr)
  case atStart=>exact⟨T,Q,O,v,⟨by omega,hl⟩,(cS av).sf.sh.kV,cS av,rfl,cS HP,[],rfl⟩
  case round =>
   clear av HP;obtain⟨s,Q1,O1,v1,⟨aK,aL⟩,aB,HI⟩:=hrel;have aC:=cT aB;clear aB;have c3:=(cS HI).1.sf.sh.c3;have t:=cT (cS ai wr.drew v1 s ((cS HI).1.sf.sh.below WO.drew));by_cases ab:cX<Xg s
   .have aj:(cX:Int)<(Xg s:Int):=by omega
    have p:Hid (nI w O v wr.drew j E l da n cX Q1 R O1 v1 s):=(cS HI).1.below WO.drew;go_upto_region 1 with fail
    go_region_held3 (λw'=>w'.cell? ⟨l,3,U⟩=S (Z Y (cX:Int)))
     (first|(assumption)|(go_keep;done))
     (first|(go_at_call 87;refine(cS t).mono ?_;rintro e w1 ⟨rfl,aa⟩;obtain rfl:=aa.symm))
    clear t c3;cases s with
    |nil=>exact absurd ab (by simp)
    |cons kx C =>
     obtain⟨k,x⟩:=kx;obtain⟨_,ad,ae,A,hA⟩:=cS HI;rw[KT ab] at ad ae;have hk:k<=9999999999:=(cS az) (k,x) (by rw[hA];exact Uq.2 (Xb UI))
     have aD:=cT (v8 l j da n cX v1 C k x wr.drew (cS p).sf.sh);have aM:Hid (∃A,T=A++C):=⟨A++[(k,x)],by rw[hA,UO];rfl⟩
     rw[Uf] at ab aL aK aj aC;have y:=cT ad;have z:=cT ae;have ak:Hid (∀W,fI W->WT prog 79 #[Z Y (k:Int)] W λe w'=>e=WZ (H (nm 99 k))/\WQ W w'):=λW h=>kN k W hk h
     have an:Hid (∀W,fI W->WT prog 81 #[Z Y (k:Int)] W λe w'=>e=WZ (H (nm 109 k))/\WQ W w'):=λW h=>iW k W hk h
     have ao:Hid (∀W,fI W->WT prog 82 #[Z Y (k:Int)] W λe w'=>e=WZ (H (nm 118 k))/\WQ W w'):=λW h=>kO k W hk h
     have aE:=nh 99 hk;have aF:=nh 109 hk;have aG:=nh 118 hk;generalize nm 99 k=N1 at y z ak aE;generalize nm 109 k=N2 at y z an aF;generalize nm 118 k=o at y z ao aG;clear ad ae hA HI;go_wp2_with fail;refine(cS aD).mono ?_;rintro e w2 ⟨rfl,L,ar,au,aH⟩;obtain⟨f1,f2⟩:=(cS p).sf.forget ar au aH;obtain⟨Q2,aw⟩:∃q,Q1=q:=⟨_,rfl⟩
     obtain⟨O2,aI⟩:∃q,O1=q:=⟨_,rfl⟩
     have V:Hid (nI w O v w2 j E l da n cX Q2 R O2 L C):=by show nI _ _ _ _ _ _ _ _ _ _ _ _ _ _ _;rw[<-aw,<-aI];exact⟨f1,(cS p).st.trans f2⟩
     rw[aw] at y z;clear ar au aH f1 f2 aD p aw aI;have s0:=(cS V).sf.sh.c0;have hd:Hid (nI w O v w2.drew j E l da n cX Q2 R O2 L C):=(cS V).below WO.drew;have HA:Hid (∀W,Hid (nI w O v W j E l da n cX Q2 R O2 L C)->WT prog 79 #[Z Y (k:Int)] W λe w'=>e=WZ (H N1)/\(w'.cell? ⟨l,0,U⟩=S (WV (S ⟨j,0,U⟩)))/\Hid (nI w O v w' j E l da n cX Q2 R O2 L C)):=λW M=>(cS ak W (cS M).sf.pw).mono λe w' ⟨he,hb⟩=>⟨he,((cS M).below hb).sf.sh.c0,(cS M).below hb⟩
     have G:Hid (∀W,Hid (nI w O v W j E l da n cX Q2 R O2 L C)->WT prog 91 #[WV (S ⟨j,0,U⟩),H N1] W λe w'=>e=WZ (Z Y (Q2.remove N1).1)/\(w'.cell? ⟨l,0,U⟩=S (WV (S ⟨j,0,U⟩)))/\∃I,Hid (nI w O v w' j E l da n cX (Q2.remove N1).2 R I L C)):=λW M=>(Pk.qY N1 (cS M).sf.two (cS z).head ah aE).mono λe w' ⟨he,I,h2,hs⟩=>⟨he,((cS M).op h2 hs).sf.sh.c0,I,(cS M).op h2 hs⟩
     have u:Hid (dz Q2 (mU N1)=Q2.remove N1):=rfl;obtain⟨er,r⟩:∃x,Hid ((Q2.remove N1).1=x):=⟨_,rfl⟩
     rw[cS r] at G;by_cases X:er=0
     .subst X;have B:Hid (eh Q (zx cX T)=eh (Q2.remove N1).2 (mU N2::mU o::zx cX C)):=by show _=_;rw[cS y,oZ (by rw[cS u];exact cS r),cS u]
      have N:Hid (gB (Q2.remove N1).2 (mU N2::mU o::zx cX C) nn b):=(cS z).tail (by rw[cS u];exact cS r);clear z V y ak r u;go_upto_region 3 with fail
      go_region_held3 (λw'=>w'.cell? ⟨l,0,U⟩=S (WV (S ⟨j,0,U⟩)))
       (first|(assumption)|(go_keep;done))
       (first
        |(go_at_call 79;refine((cS HA) _ (by assumption)).mono ?_;rintro e wa ⟨rfl,ka,g⟩)
        |(go_at_call 91;refine((cS G) _ (by assumption)).mono ?_;rintro e w3 ⟨rfl,y0,O3,V⟩)
        |(go_at_call 89;refine(iT _).mono ?_;rintro e wm ⟨rfl,F⟩;obtain rfl:=F.symm))
      clear s0 hd HA G ka g y0;obtain⟨Q3,HQ⟩:∃q,Hid ((Q2.remove N1).2=q):=⟨_,rfl⟩
      rw[cS HQ] at V B N;clear HQ;have y:=B;have z:=N;clear B N;have s0:=(cS V).sf.sh.c0;have hd:Hid (nI w O v w3.drew j E l da n cX Q3 R O3 L C):=(cS V).below WO.drew;have HA:Hid (∀W,Hid (nI w O v W j E l da n cX Q3 R O3 L C)->WT prog 81 #[Z Y (k:Int)] W λe w'=>e=WZ (H N2)/\(w'.cell? ⟨l,0,U⟩=S (WV (S ⟨j,0,U⟩)))/\Hid (nI w O v w' j E l da n cX Q3 R O3 L C)):=λW M=>(cS an W (cS M).sf.pw).mono λe w' ⟨he,hb⟩=>⟨he,((cS M).below hb).sf.sh.c0,(cS M).below hb⟩
      have G:Hid (∀W,Hid (nI w O v W j E l da n cX Q3 R O3 L C)->WT prog 91 #[WV (S ⟨j,0,U⟩),H N2] W λe w'=>e=WZ (Z Y (Q3.remove N2).1)/\(w'.cell? ⟨l,0,U⟩=S (WV (S ⟨j,0,U⟩)))/\∃I,Hid (nI w O v w' j E l da n cX (Q3.remove N2).2 R I L C)):=λW M=>(Pk.qY N2 (cS M).sf.two (cS z).head ah aF).mono λe w' ⟨he,I,h2,hs⟩=>⟨he,((cS M).op h2 hs).sf.sh.c0,I,(cS M).op h2 hs⟩
      have u:Hid (dz Q3 (mU N2)=Q3.remove N2):=rfl;obtain⟨er,r⟩:∃x,Hid ((Q3.remove N2).1=x):=⟨_,rfl⟩
      rw[cS r] at G;by_cases X:er=0
      .subst X;have B:Hid (eh Q (zx cX T)=eh (Q3.remove N2).2 (mU o::zx cX C)):=by show _=_;rw[cS y,oZ (by rw[cS u];exact cS r),cS u]
       have N:Hid (gB (Q3.remove N2).2 (mU o::zx cX C) nn b):=(cS z).tail (by rw[cS u];exact cS r);clear z V y an r u;go_upto_region 4 with fail
       go_region_held3 (λw'=>w'.cell? ⟨l,0,U⟩=S (WV (S ⟨j,0,U⟩)))
        (first|(assumption)|(go_keep;done))
        (first
         |(go_at_call 81;refine((cS HA) _ (by assumption)).mono ?_;rintro e wa ⟨rfl,ka,g⟩)
         |(go_at_call 91;refine((cS G) _ (by assumption)).mono ?_;rintro e w4 ⟨rfl,y0,O4,V⟩)
         |(go_at_call 89;refine(iT _).mono ?_;rintro e wm ⟨rfl,F⟩;obtain rfl:=F.symm))
       clear s0 hd HA G ka g y0;obtain⟨Q4,HQ⟩:∃q,Hid ((Q3.remove N2).2=q):=⟨_,rfl⟩
       rw[cS HQ] at V B N;clear HQ;have y:=B;have z:=N;clear B N;have s0:=(cS V).sf.sh.c0;have hd:Hid (nI w O v w4.drew j E l da n cX Q4 R O4 L C):=(cS V).below WO.drew;have HA:Hid (∀W,Hid (nI w O v W j E l da n cX Q4 R O4 L C)->WT prog 82 #[Z Y (k:Int)] W λe w'=>e=WZ (H o)/\(w'.cell? ⟨l,0,U⟩=S (WV (S ⟨j,0,U⟩)))/\Hid (nI w O v w' j E l da n cX Q4 R O4 L C)):=λW M=>(cS ao W (cS M).sf.pw).mono λe w' ⟨he,hb⟩=>⟨he,((cS M).below hb).sf.sh.c0,(cS M).below hb⟩
       have G:Hid (∀W,Hid (nI w O v W j E l da n cX Q4 R O4 L C)->WT prog 91 #[WV (S ⟨j,0,U⟩),H o] W λe w'=>e=WZ (Z Y (Q4.remove o).1)/\(w'.cell? ⟨l,0,U⟩=S (WV (S ⟨j,0,U⟩)))/\∃I,Hid (nI w O v w' j E l da n cX (Q4.remove o).2 R I L C)):=λW M=>(Pk.qY o (cS M).sf.two (cS z).head ah aG).mono λe w' ⟨he,I,h2,hs⟩=>⟨he,((cS M).op h2 hs).sf.sh.c0,I,(cS M).op h2 hs⟩
       have u:Hid (dz Q4 (mU o)=Q4.remove o):=rfl;obtain⟨er,r⟩:∃x,Hid ((Q4.remove o).1=x):=⟨_,rfl⟩
       rw[cS r] at G;by_cases X:er=0
       .subst X;have B:Hid (eh Q (zx cX T)=eh (Q4.remove o).2 (zx cX C)):=by show _=_;rw[cS y,oZ (by rw[cS u];exact cS r),cS u]
        have N:Hid (gB (Q4.remove o).2 (zx cX C) nn b):=(cS z).tail (by rw[cS u];exact cS r);clear z V y ao r u;go_upto_region 5 with fail
        go_region_held3 (λw'=>w'.cell? ⟨l,0,U⟩=S (WV (S ⟨j,0,U⟩)))
         (first|(assumption)|(go_keep;done))
         (first
          |(go_at_call 82;refine((cS HA) _ (by assumption)).mono ?_;rintro e wa ⟨rfl,ka,g⟩)
          |(go_at_call 91;refine((cS G) _ (by assumption)).mono ?_;rintro e w5 ⟨rfl,y0,O5,V⟩)
          |(go_at_call 89;refine(iT _).mono ?_;rintro e wm ⟨rfl,F⟩;obtain rfl:=F.symm))
        clear s0 hd HA G ka g y0;obtain⟨Q5,HQ⟩:∃q,Hid ((Q4.remove o).2=q):=⟨_,rfl⟩
        rw[cS HQ] at V B N;clear HQ;have y:=B;have z:=N;clear B N;go_wp2;go_roundw
        case rel=>exact⟨C,Q5,O5,L,⟨by omega,by omega⟩,(cS V).sf.sh.kV,cS V,cS y,cS z,cS aM⟩
        case measure =>
         have h1:=cS aC;have h2:=(cS V).sf.sh.kV
         show kV l _<kV l _
         omega
       .have HF:Hid (∀w' I,nI w O v w' j E l da n cX (Q4.remove o).2 R I L C->P (.panicked (gE er)) w'):=by
         show ∀w' I,_
         intro w' I h;have af:(dz Q4 (mU o)).1≠0:=by rw[cS u,cS r];exact X
         rw[<-cS hO,cS y,qH af,cS u];exact⟨λh=>absurd ((cS r).symm.trans h) X,λ_=>by rw[cS r],I,L,C,λh=>absurd ((cS r).symm.trans h) X,h.sf,h.st⟩
        clear z V y ao r u;go_upto_region 5 with fail
        go_region_with (first
        |(go_at_call 82;refine((cS HA) _ (by assumption)).mono ?_;rintro e wa ⟨rfl,ka,g⟩)
        |(go_at_call 91;refine((cS G) _ (by assumption)).mono ?_;rintro e w5 ⟨rfl,y0,O5,ag⟩)
        |(go_at_call 89;refine(jV er X _).mono ?_;rintro e wm ⟨rfl,F⟩;obtain rfl:=F.symm;refine jA prog w5 ⟨rfl,cS HF _ _ (cS ag)⟩ ?_))
        all_goals trivial
      .have HF:Hid (∀w' I,nI w O v w' j E l da n cX (Q3.remove N2).2 R I L C->P (.panicked (gE er)) w'):=by
        show ∀w' I,_
        intro w' I h;have af:(dz Q3 (mU N2)).1≠0:=by rw[cS u,cS r];exact X
        rw[<-cS hO,cS y,qH af,cS u];exact⟨λh=>absurd ((cS r).symm.trans h) X,λ_=>by rw[cS r],I,L,C,λh=>absurd ((cS r).symm.trans h) X,h.sf,h.st⟩
       clear z V y an r u;go_upto_region 4 with fail
       go_region_with (first
       |(go_at_call 81;refine((cS HA) _ (by assumption)).mono ?_;rintro e wa ⟨rfl,ka,g⟩)
       |(go_at_call 91;refine((cS G) _ (by assumption)).mono ?_;rintro e w4 ⟨rfl,y0,O4,ag⟩)
       |(go_at_call 89;refine(jV er X _).mono ?_;rintro e wm ⟨rfl,F⟩;obtain rfl:=F.symm;refine jA prog w4 ⟨rfl,cS HF _ _ (cS ag)⟩ ?_))
       all_goals trivial
     .have HF:Hid (∀w' I,nI w O v w' j E l da n cX (Q2.remove N1).2 R I L C->P (.panicked (gE er)) w'):=by
       show ∀w' I,_
       intro w' I h;have af:(dz Q2 (mU N1)).1≠0:=by rw[cS u,cS r];exact X
       rw[<-cS hO,cS y,qH af,cS u];exact⟨λh=>absurd ((cS r).symm.trans h) X,λ_=>by rw[cS r],I,L,C,λh=>absurd ((cS r).symm.trans h) X,h.sf,h.st⟩
      clear z V y ak r u;go_upto_region 3 with fail
      go_region_with (first
      |(go_at_call 79;refine((cS HA) _ (by assumption)).mono ?_;rintro e wa ⟨rfl,ka,g⟩)
      |(go_at_call 91;refine((cS G) _ (by assumption)).mono ?_;rintro e w3 ⟨rfl,y0,O3,ag⟩)
      |(go_at_call 89;refine(jV er X _).mono ?_;rintro e wm ⟨rfl,F⟩;obtain rfl:=F.symm;refine jA prog w3 ⟨rfl,cS HF _ _ (cS ag)⟩ ?_))
      all_goals trivial
   .have aj:¬(cX:Int)<(Xg s:Int):=by omega
    obtain⟨hj,ad,ae,A,hA⟩:=cS HI;rw[ND (cX:=cX) (T:=s) (by omega)] at ad ae;have p:Hid (nI w O v wr.drew j E l da n cX Q1 R O1 v1 s):=hj.below WO.drew;have aN:Hid (T.drop (Xg T-cX)=s):=by
     show _=_
     rw[hA,UG,show (Xg A)+Xg s-cX=Xg A by omega,List.drop_left]
    have ax:=cT (Pk.sk (cS p).sf.two ae.head ah);have u:Hid (dz Q1 nS=Q1.fa):=rfl;obtain⟨e5,aq⟩:∃x,Hid (Q1.fa.1=x):=⟨_,rfl⟩
    rw[cS aq] at ax;have y:=cT ad;have s0:=(cS p).sf.sh.c0;clear ad ae hA hj HI;go_upto_region 1 with fail
    go_region_held3 (λw'=>w'.cell? ⟨l,3,U⟩=S (Z Y (cX:Int)))
     (first|(assumption)|(go_keep;done))
     (first|(go_at_call 87;refine(cS t).mono ?_;rintro e w1 ⟨rfl,aa⟩;obtain rfl:=aa.symm))
    clear t c3;go_wp2_with fail;refine(cS ax).mono ?_;rintro e w6 ⟨rfl,O6,t6,s6⟩;have ay:=cT ((cS p).op t6 s6);have HF:Hid (∀en,(e5=0->en=WZ (WX #[]))->(e5≠0->en=.panicked (gE e5))->P en w6):=by
     show ∀en,_
     intro en k1 k2;rw[<-cS hO,cS y,o8,cS u];exact⟨λh=>k1 ((cS aq).symm.trans h),λh=>by rw[cS aq];exact k2 (λq=>h ((cS aq).trans q)),O6,v1,s,λ_=>(cS aN).symm,(cS ay).sf,(cS ay).st⟩
    clear ax t6 s6 s0 p y ay;by_cases X:e5=0
    .subst X;go_wp2_with fail;refine(iT w6).mono ?_;rintro e wm ⟨rfl,F⟩;obtain rfl:=F.symm;go_wp2;exact Ub (Ua rfl _ _ _) rfl (cS HF _ (λ_=>rfl) (λh=>absurd rfl h))
    .go_wp2_with fail;refine(jV e5 X w6).mono ?_;rintro e wm ⟨rfl,F⟩;obtain rfl:=F.symm;exact⟨rfl,cS HF _ (λh=>absurd h X) (λ_=>rfl)⟩
end Ru
namespace Ru
open Rd (Rk e0)
open Pk (iV Sm fj TP dh cV de)
open Dk (Kept)
theorem CV{w:WR}{b E j da n cX:Nat}{Q R:Rk}{O:Nat->Prop}{v:WS}{T:Sn.Tb}(h:ou w b E j da n cX Q R O v T){B e s m:Nat}{u:WS}{z:List WS}(A:w.ownsRow B e s u m z)(he:e∉iH/\e≠113/\e≠181):∀g,u.ownBlock=S g->¬OO O j v g:=λg C F=>by
 obtain⟨G,l,_⟩:=dh A C;rcases F with e1|e1
 .exact mM h.two l he.1 e1
 .rcases e1 with e1|e1
  .subst e1;exact de l h.sh.tab.blk he.2.1 rfl
  .obtain⟨y,r,_⟩:=dh h.sh.tab.row e1;exact de l r he.2.2 rfl
theorem QB{Q:Rk}{n b:Nat}(h:Sm Q n b)(e:Q.Ok){a:WU}(ha:a∈Q.fD):a.size<=12:=by
 unfold Rk.fD at ha;split at ha
 .cases ha
 .obtain⟨p,j,rfl⟩:=Ve.1 ha;exact Pk.Sm.Qb h (Xg Q.dW) p ((Rd.gq (e.eC _)).1 j)
def gone(K:List Nat)(L:List WU)(k:Nat):List Oq:=((L.take k).filter λa=>!yL K a).map mU
variable {L:List WU}{k:Nat}
theorem Ni{K:List Nat}(h:k<Xg L)(b:yL K L[k]=true): gone K L (k+1)=gone K L k:=by
 unfold gone;rw[Vf h,VB,List.filter_cons_of_neg (by simp[b])];simp
theorem Jv{K:List Nat}(h:k<Xg L)(b:yL K L[k]=false): gone K L (k+1)=gone K L k++[mU L[k]]:=by
 unfold gone;rw[Vf h,VB,List.filter_cons_of_pos (by simp[b])];simp
theorem Ck{K:List Nat}: dR L K=if gone K L (Xg L)=[] then [] else gone K L (Xg L)++[nS]:=by
 unfold gone dR;rw[Vd]
theorem D8{K:List Nat}(h:k<Xg L)(j:yL K L[k]=false): ∃rest,dR L K=gone K L k++(mU L[k]::rest):=by
 have e:L=L.take k++L[k]::L.drop (k+1):=by rw[<-UJ h,U7]
 have b:gone K L (Xg L)=gone K L k++(mU L[k]::((L.drop (k+1)).filter λa=>!yL K a).map mU):=by
  unfold gone;rw[Vd]
  conv=>lhs;rw[e]
  rw[VB,List.filter_cons_of_pos (by simp[j]),Vn,U4]
 rw[Ck,TZ (by rw[b];simp),b];exact⟨_,by rw[UO];rfl⟩
theorem IZ{T b:Sn.Tb}{x:Nat × Sn.Ce}{cX:Nat}(h:cX<(x::b).length):(x::b).drop ((x::b).length-cX)=b.drop (Xg b-cX):=by
 rw[Uf] at h ⊢;rw[show (Xg b)+1-cX=(Xg b-cX)+1 by omega,V3]
theorem xK(j E l da n cX nn b:Nat)(Q R:Rk)(O:Nat->Prop)(v:WS)(T:Sn.Tb)(w:WR)(h:ou w j E l da n cX Q R O v T)(hT:∀x∈T,x.1<=9999999999)(hs:Sm Q nn b)(ak:nn<=1000000000)(hm:cX<=1000000000)(az:Q.nD=0):WT prog 51 #[WV (S ⟨l,0,U⟩)] w (mI w j E l da n cX R O v (λT'=>T'=T.drop (Xg T-cX)) (eh Q (dR Q.fD ((T.drop (Xg T-cX)).map (·.1))))):=by
 generalize hO:mI w j E l da n cX R O v (λT'=>T'=T.drop (Xg T-cX)) (eh Q (dR Q.fD ((T.drop (Xg T-cX)).map (·.1))))=P;replace hO:=cT hO;obtain⟨TF,an⟩:∃x,Hid (T.drop (Xg T-cX)=x):=⟨_,rfl⟩
 rw[cS an] at hO;have aA:∀x∈TF,x.1<=9999999999:=λx hx=>hT x (by rw[<-cS an] at hx;exact VC hx)
 have aP:=cT aA;have aQ:Hid (∀(W:WR) (v':WS) (T':Sn.Tb),gG W l j da n cX v' T'->WT prog 87 #[WV (S ⟨l,4,U⟩)] W λe w'=>e=WZ (Z Y (Xg T'))/\w'=W):=λW v' T' h=>Rt.Fv l 4 _ _ v' T' W h.tab
 have hl:=h.sh.tab.len;have ao:Hid (nI w O v w j E l da n cX Q R O v T):=⟨h,fj.refl _ _⟩
 have HS:=cT hs;have aR:=Kr hs h.two.DZ.1;have aB:=cT az;have aS:=cT h.two.DZ.1;clear h hT aA hs az;go_enter func51,ntmps51;go_wp2_with fail
 go_loopw [17] (λ_ wr=>∃(m:Sn.Tb) (C:WS),Xg m<=1000000000/\kV l wr=Xg m/\Hid (nI w O v wr j E l da n cX Q R O C m/\m.drop (Xg m-cX)=TF)) (λ_ wr=>kV l wr)
 case atStart=>exact⟨T,v,hl,(cS ao).sf.sh.kV,cS ao,cS an⟩
 case round =>
  clear ao;obtain⟨m,C,aT,aC,y⟩:=hrel;have aD:=cT aC;clear aC;have c3:=(cS y).1.sf.sh.c3;have s:=cT (cS aQ wr.drew C m ((cS y).1.sf.sh.below WO.drew));have z:Hid (nI w O v wr.drew j E l da n cX Q R O C m):=(cS y).1.below WO.drew;by_cases F:cX<Xg m
  .have aE:(cX:Int)<(Xg m:Int):=by omega
   go_upto_region 0 with fail
   go_region_held3 (λw'=>w'.cell? ⟨l,3,U⟩=S (Z Y (cX:Int)))
    (first|(assumption)|(go_keep;done))
    (first|(go_at_call 87;refine(cS s).mono ?_;rintro e w1 ⟨rfl,aq⟩;obtain rfl:=aq.symm))
   clear s c3;cases m with
   |nil=>exact absurd F (by simp)
   |cons kx T2 =>
    obtain⟨k,x⟩:=kx;have aF:=cT (v8 l j da n cX C T2 k x wr.drew (cS z).sf.sh);have aU:Hid (T2.drop (Xg T2-cX)=TF):=by show _=_;rw[<-IZ (T:=[]) F];exact(cS y).2
    rw[Uf] at F aT aE aD;clear y;go_wp2_with fail;refine(cS aF).mono ?_;rintro e w2 ⟨rfl,v2,ai,aj,aG⟩;obtain⟨f1,f2⟩:=(cS z).sf.forget ai aj aG;have p:Hid (nI w O v w2 j E l da n cX Q R O v2 T2):=⟨f1,(cS z).st.trans f2⟩
    clear ai aj aG f1 f2 aF z;go_wp2;go_roundw
    case rel=>exact⟨T2,v2,by omega,(cS p).sf.sh.kV,cS p,cS aU⟩
    case measure =>
     have N:=cS aD;have o:=(cS p).sf.sh.kV
     show kV l _<kV l _
     omega
  .have aE:¬(cX:Int)<(Xg m:Int):=by omega
   have aV:m=TF:=by
    have:=(cS y).2;rw[show (Xg m)-cX=0 by omega,List.drop_zero] at this;exact this
   subst aV;have aa:=cT (Pk.KR (cS z).sf.two (cS HS) ak);rw[cS aB] at aa;have s0:=(cS z).sf.sh.c0;obtain⟨L,HL⟩:∃L,Hid (Q.fD=L):=⟨_,rfl⟩
   rw[cS HL] at aa aR hO;obtain⟨M,aH⟩:∃K,Hid (m.map (·.1)=K):=⟨_,rfl⟩
   rw[cS aH] at hO;clear y aB;go_upto_region 0 with fail
   go_region_held3 (λw'=>w'.cell? ⟨l,3,U⟩=S (Z Y (cX:Int)))
    (first|(assumption)|(go_keep;done))
    (first|(go_at_call 87;refine(cS s).mono ?_;rintro e w1 ⟨rfl,aq⟩;obtain rfl:=aq.symm))
   clear s c3;go_wp2_with fail;refine(cS aa).mono ?_;rintro e w3 ⟨vL,rfl,V,aI⟩;have aJ:Hid (nI w O v w3 j E l da n cX Q R O C m):=(cS z).below aI;obtain⟨pl,cl,rfl⟩:=lO V;have aK:=cT V;clear V aI aa s0 z;go_wp2_with fail;refine(iT w3).mono ?_;rintro e wm ⟨rfl,u⟩;obtain rfl:=u.symm;go_wp2_with fail;have aL:Hid (nI w O v w3 j E l da n cX Q R O C m/\eh Q (gone M L 0)=(0,Q)/\Sm Q nn b/\w3.ownsRow 0 9 1 (J pl (Xg L) cl) (Xg L) (Rd.strs L)):=⟨cS aJ,rfl,cS HS,Dk.rJ (cS aK)⟩
   obtain⟨wA,aW⟩:∃wA,wA=wr:=⟨wr,rfl⟩
   subst aW;clear aJ aK
   go_loopw [4,30] (λf i wr=>∃(k:Nat) (r:Rk) (Ok:Nat->Prop),k<=Xg L/\f=.bool (!(gone M L k).isEmpty)/\i=Z Y k/\Hid (nI w O v wr j E l da n cX r R Ok C m/\eh Q (gone M L k)=(0,r)/\Sm r nn b/\wr.ownsRow 0 9 1 (J pl (Xg L) cl) (Xg L) (Rd.strs L))) (λ_ i _=>Xg L-(intOf i).toNat)
   case atStart=>exact⟨0,Q,O,Ud _,rfl,rfl,aL⟩
   case round =>
    clear aL;obtain⟨k,r,Ok,hk,rfl,rfl,y⟩:=hrel;by_cases ab:k<Xg L
    .have aM:(k:Int)<(Xg L:Int):=by omega
     obtain⟨bg,bh,aX,aN⟩:=dm (cS y).2.2.2;injection aX with aY _ aZ;subst aY aZ;obtain⟨g,rfl,_,_,c0⟩:=aN k (by omega);obtain⟨a,HA⟩:∃a,Hid (L[k]=a):=⟨L[k],cT rfl⟩
     replace c0:wr.cell? ⟨g,k,U⟩=S (H a):=by
      rw[c0,<-cS HA];unfold Rd.strs;rw[VX,Uk ab];rfl
     have I:=cT (pr l j da n cX C m a wr (cS y).1.sf.sh (cS aP) (cS y).1.sf.pw);rw[cS aH] at I;clear aN;obtain⟨kb,ad⟩:∃x,Hid (yL M a=x):=⟨_,rfl⟩
     rw[cS ad] at I;cases kb with
     |true =>
      have HG:=cT (Ni ab (by rw[cS HA];exact cS ad));go_wp2_with fail;refine(cS I).mono ?_;rintro e w4 ⟨rfl,G⟩;obtain⟨N,o,h3,h4⟩:=cS y;have a1:Hid (nI w O v w4 j E l da n cX r R Ok C m/\eh Q (gone M L (k+1))=(0,r)/\Sm r nn b/\w4.ownsRow 0 9 1 (J (S ⟨g,0,U⟩) (Xg L) cl) (Xg L) (Rd.strs L)):=⟨N.below G,by rw[cS HG];exact o,h3,dd h4 G⟩
      clear y I c0 G N o h3 h4;go_wp2;go_roundw
      case rel=>exact⟨k+1,r,Ok,by omega,by rw[cS HG],by go_num,a1⟩
      case measure=>simp[intOf];omega
     |false =>
      have HG:=cT (Jv ab (by rw[cS HA];exact cS ad));have ae:=cT (D8 ab (by rw[cS HA];exact cS ad));rw[cS HA] at HG ae;have za:a.size<=1048576:=by
       have:=QB (cS HS) (cS aS) (a:=a) (by rw[cS HL,<-cS HA];exact UU _);omega
      go_wp2_with fail;refine(cS I).mono ?_;rintro e w4 ⟨rfl,G⟩;obtain⟨N,o,h3,h4⟩:=cS y;have X:Hid (nI w O v w4 j E l da n cX r R Ok C m):=N.below G;have ar:=cT (dd h4 G);have s0:=(cS X).sf.sh.c0;have au:=cT (Pk.qY a (cS X).sf.two h3 ak za);have av:=cT h3;have HE:=cT o;have A:Hid (dz r (mU a)=r.remove a):=rfl;obtain⟨er,B⟩:∃x,Hid ((r.remove a).1=x):=⟨_,rfl⟩
      rw[cS B] at au;clear y I c0 G N o h3 h4;go_wp2_with fail;refine(cS au).mono ?_;rintro e w5 ⟨rfl,O5,t5,s5⟩;have t:=cT ((cS X).op t5 s5);have aw:Hid (w5.ownsRow 0 9 1 (J (S ⟨g,0,U⟩) (Xg L) cl) (Xg L) (Rd.strs L)):=Dk.dv (cS ar) s5.kept (λg' a6 a7=>CV (cS X).sf (cS ar) (by decide) g' a6 (Xa a7));clear au X ar t5 s5 s0;by_cases hz:er=0
      .subst hz;have a8:Hid (nI w O v w5 j E l da n cX (r.remove a).2 R O5 C m/\eh Q (gone M L (k+1))=(0,(r.remove a).2)/\Sm (r.remove a).2 nn b/\w5.ownsRow 0 9 1 (J (S ⟨g,0,U⟩) (Xg L) cl) (Xg L) (Rd.strs L)):=by
        refine⟨cS t,?_,(cS av).remove a,cS aw⟩;rw[cS HG,iC,cS HE,T0 rfl,o8,cS A,<-cS B]
       have ba:Hid ((gone M L (k+1)).isEmpty=false):=by show _=_;rw[cS HG];simp
       clear t aw HE A B av ae;go_wp2_with fail;refine(iT w5).mono ?_;rintro e wm ⟨rfl,u⟩;obtain rfl:=u.symm;go_wp2;go_roundw
       case rel=>exact⟨k+1,_,O5,by omega,by rw[cS ba];rfl,by go_num,a8⟩
       case measure=>simp[intOf];omega
      .have HF:Hid (P (.panicked (gE er)) w5):=by
        show P _ _
        obtain⟨rest,hr⟩:=cS ae;have bc:(dz r (mU a)).1≠0:=by rw[cS A,cS B];exact hz
        rw[<-cS hO,hr,iC,cS HE,T0 rfl,qH bc,cS A];exact⟨λh=>absurd ((cS B).symm.trans h) hz,λ_=>by rw[cS B],O5,C,m,λh=>absurd ((cS B).symm.trans h) hz,(cS t).sf,(cS t).st⟩
       clear t aw HE A B av ae;go_wp2_with fail;refine(jV er hz w5).mono ?_;rintro e wm ⟨rfl,u⟩;obtain rfl:=u.symm;exact⟨rfl,cS HF⟩
    .have aM:¬(k:Int)<(Xg L:Int):=by omega
     have bd:k=Xg L:=by omega
     subst bd;obtain⟨N,o,h3,h4⟩:=cS y;have p:=cT N;have HE:=cT o;have s0:=N.sf.sh.c0;have af:=cT (Pk.sk N.sf.two h3 ak);have A:Hid (dz r nS=r.fa):=rfl;have ag:=cT (Ck (K:=M) (L:=L));clear y N o h3 h4;cases ax:(gone M L (Xg L)).isEmpty with
     |true =>
      have HF:Hid (P (WZ (WX #[])) wr):=by
       show P _ _
       have hn:gone M L (Xg L)=[]:=List.isEmpty_iff.1 ax;have he:=cS HE;rw[hn] at he;have hq:r=Q:=(congrArg Prod.snd he).symm;rw[<-cS hO,cS ag,T0 hn];refine⟨λ_=>rfl,λh=>absurd rfl h,Ok,C,m,λ_=>rfl,?_,(cS p).st⟩;have:=(cS p).sf;rw[hq] at this;exact this
      clear p HE af A ag s0;go_wp2;exact Ub (Ua rfl _ _ _) rfl (cS HF)
     |false =>
      have hn:gone M L (Xg L)≠[]:=λe=>by rw[e] at ax;cases ax
      obtain⟨e5,ah⟩:∃x,Hid (r.fa.1=x):=⟨_,rfl⟩
      rw[cS ah] at af;have aO:Hid (eh Q (dR L M)=r.fa):=by
       show _=_
       rw[cS ag,TZ hn,iC,cS HE,T0 rfl,o8];rfl
      clear HE A ag hn;go_wp2_with fail;refine(cS af).mono ?_;rintro e w6 ⟨rfl,O6,t6,s6⟩;have ay:=cT ((cS p).op t6 s6);have HF:Hid (∀en,(e5=0->en=WZ (WX #[]))->(e5≠0->en=.panicked (gE e5))->P en w6):=by
       show ∀en,_
       intro en k1 k2;rw[<-cS hO,cS aO];exact⟨λh=>k1 ((cS ah).symm.trans h),λh=>by rw[cS ah];exact k2 (λq=>h ((cS ah).trans q)),O6,C,m,λ_=>rfl,(cS ay).sf,(cS ay).st⟩
      clear af t6 s6 s0 p aO ay;by_cases hz:e5=0
      .subst hz;go_wp2_with fail;refine(iT w6).mono ?_;rintro e wm ⟨rfl,u⟩;obtain rfl:=u.symm;go_wp2;exact Ub (Ua rfl _ _ _) rfl (cS HF _ (λ_=>rfl) (λh=>absurd rfl h))
      .go_wp2_with fail;refine(jV e5 hz w6).mono ?_;rintro e wm ⟨rfl,u⟩;obtain rfl:=u.symm;exact⟨rfl,cS HF _ (λh=>absurd h hz) (λ_=>rfl)⟩
end Ru
end Go.Proofs.YtgkkdpegcieakaaGreatDoor
