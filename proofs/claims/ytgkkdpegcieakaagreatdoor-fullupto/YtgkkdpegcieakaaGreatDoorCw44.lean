import Derived.Test.YtgkkdpegcieakaaGreatDoorCw43
import Derived.Test.YtgkkdpegcieakaaGreatDoorRows
set_option linter.all false
set_option maxRecDepth 100000
set_option maxHeartbeats 16000000
namespace Go.Proofs.YtgkkdpegcieakaaGreatDoor
open Go.Proofs.Tryz
open Value renaming int→Z,slice→J,string→H,pointer→WV,bool→WW,agg→WY
open Ending renaming returned→WZ
open Obj renaming cells→D
open Option renaming none→U,some→S
open Bool renaming true→W8,false→W9
open List renaming length→Xg
open _root_.Array renaming size→K
open World renaming cell?→Xc,alloc→Xe,heap→E
open IntKind renaming i64→Y
open Go renaming World→WR,Value→WS,Calls→WT
open Go.RowKit
namespace Hl
theorem yN{a:Int}{n:Nat}(ha:0<=a)(b:0<n):∃r:Nat,a.tmod (n:Int)=(r:Int)/\r<n:=by
 have e:=Int.tmod_nonneg (n:Int) ha;have j:=Int.tmod_lt_of_pos a (show (0:Int)<(n:Int) by omega);exact⟨(a.tmod (n:Int)).toNat,by omega,by omega⟩
def pk(c:Int)(n:Nat):Nat:=((if c<0 then -(c+1) else c).tmod (n:Int)).toNat
theorem pY(c:Int){n:Nat}(b:0<n):pk c n<n:=by
 unfold pk;obtain⟨r,e,j⟩:=yN (a:=if c<0 then -(c+1) else c) (n:=n) (by split <;> omega) b;omega
theorem yS(c:Int)(n:Nat)(w:WR)(h1 : -9223372036854775808<=c)(h2:c<=9223372036854775807)(y:0<n)(z:n<=9223372036854775807):WT prog 11 #[Z Y c,Z Y n] w λe A=>e=WZ (Z Y (pk c n))/\A=w:=by
 by_cases l:c<0
 .obtain⟨r,b,m⟩:=yN (a := -(c+1)) (n:=n) (by omega) y;have u:=cT b;have j:Hid (pk c n=r):=by show _=_;unfold pk;rw[T0 l,b];exact Wa r
  clear b;go_enter func11,ntmps11;go_wp2;go_ret;exact⟨by rw[cS j];have h:=cS u;rw[Int.neg_tmod] at h;rw[h];rfl,O⟩
 .obtain⟨r,b,m⟩:=yN (a:=c) (n:=n) (by omega) y;have u:=cT b;have j:Hid (pk c n=r):=by show _=_;unfold pk;rw[TZ l,b];exact Wa r
  clear b;go_enter func11,ntmps11;go_wp2;go_ret;exact⟨by rw[cS j];have h:=cS u;rw[Int.tmod_eq_emod_of_nonneg l] at h;rw[h];rfl,O⟩
def JC(Q:Exit->Act->WR->Prop):Exit->Act->WR->Prop
 |.panic _,_,_=>False
 |.normal,a,w=>Q .normal a w
 |.ret,a,w=>Q .ret a w
 |.exit n,a,w=>Q (.exit n) a w
 |.goto n,a,w=>Q (.goto n) a w
 |.outgrown,a,w=>Q .outgrown a w
theorem Ba{Q:Exit->Act->WR->Prop}:∀e a w,JC Q e a w->Q e a w:=λe a w h=>by
 cases e <;> first|exact h|exact h.elim
theorem Jo{P:Program}{c:Code}{Q:Exit->Act->WR->Prop}{a:Act}{w:WR}(R:WR->Prop)(h:∃A,c.wp P (JC λx j b=>x=.normal/\j=A/\R b) a w/\∀b,R b->Q .normal A b):c.wp P Q a w:=by
 obtain⟨A,l,m⟩:=h;refine Code.wp_mono (λe a w h=>?_) l;obtain⟨rfl,rfl,r⟩:=Ba _ _ _ h;exact m _ r
theorem AY(l c1 c2:Int)(w:WR)(W : -9223372036854775808<=l/\l<=9223372036854775807)(h1 : -9223372036854775808<=c1/\c1<=9223372036854775807)(h2 : -9223372036854775808<=c2/\c2<=9223372036854775807):WT prog 7 #[WY #[Z Y l,Z Y c1,Z Y c2]] w λe u=>e=WZ (WY #[Z Y ((pk l 50+1:Nat):Int),Z Y ((pk c1 5+1:Nat):Int),Z Y (pk c2 201:Nat)])/\WQ w u:=by
 have F:∀j,WT prog 11 #[Z Y l,Z Y 50] j λe u=>e=WZ (Z Y (pk l 50))/\u=j:=λj=>yS l 50 j W.1 W.2 (by omega) (by omega)
 have G:∀j,WT prog 11 #[Z Y c1,Z Y 5] j λe u=>e=WZ (Z Y (pk c1 5))/\u=j:=λj=>yS c1 5 j h1.1 h1.2 (by omega) (by omega)
 have I:∀j,WT prog 11 #[Z Y c2,Z Y 201] j λe u=>e=WZ (Z Y (pk c2 201))/\u=j:=λj=>yS c2 201 j h2.1 h2.2 (by omega) (by omega)
 have l0:=pY l (n:=50) (by omega);have l1:=pY c1 (n:=5) (by omega);have l2:=pY c2 (n:=201) (by omega);generalize pk l 50=a at *;generalize pk c1 5=b at *;generalize pk c2 201=c at *;have Q:=cT F;have R:=cT G;have T:=cT I;clear F G I;have B:Hid (∀(args:Array WS) (w:WR),(callFunc 11 args).run prog w=.ok (.enter 11 args) w):=cZ func11 (by kernel_rfl) (by kernel_rfl);go_enter func7,ntmps7;go_upto_region 1 with (fail)
 have z:((w.alloc (D #[Z Y l,Z Y c1,Z Y c2] 23)).alloc (D #[Z Y 0,Z Y 0,Z Y 0] 23)).heap[K (E w)]?=S (D #[Z Y l,Z Y c1,Z Y c2] 23 (0,0)):=by
  rw[Ur _ _ _ (by simp)];exact T9 w _
 have m:((w.alloc (D #[Z Y l,Z Y c1,Z Y c2] 23)).alloc (D #[Z Y 0,Z Y 0,Z Y 0] 23)).heap[K (E w)+1]?=S (D #[Z Y 0,Z Y 0,Z Y 0] 23 (0,0)):=by
  have h:=T9 (w.alloc (D #[Z Y l,Z Y c1,Z Y c2] 23)) (D #[Z Y 0,Z Y 0,Z Y 0] 23);simpa using h
 have V:WQ w ((w.alloc (D #[Z Y l,Z Y c1,Z Y c2] 23)).alloc (D #[Z Y 0,Z Y 0,Z Y 0] 23)):=(WO.alloc WN _).alloc (by simp) _;generalize s:Xe (Xe _ _) _=y at *;have p:y.cell? ⟨K (E w),0,U⟩=S (Z Y l):=by simp[Xc,z]
 have o:y.cell? ⟨K (E w),1,U⟩=S (Z Y c1):=by simp[Xc,z]
 have g:y.cell? ⟨K (E w),2,U⟩=S (Z Y c2):=by simp[Xc,z]
 have y0:y.cell? ⟨K (E w)+1,0,U⟩=S (Z Y 0):=by simp[Xc,m]
 have y1:y.cell? ⟨K (E w)+1,1,U⟩=S (Z Y 0):=by simp[Xc,m]
 have y2:y.cell? ⟨K (E w)+1,2,U⟩=S (Z Y 0):=by simp[Xc,m]
 have f0:y.frozen? ⟨K (E w)+1,0,U⟩=W9:=by simp[World.frozen?,m]
 have f1:y.frozen? ⟨K (E w)+1,1,U⟩=W9:=by simp[World.frozen?,m]
 have f2:y.frozen? ⟨K (E w)+1,2,U⟩=W9:=by simp[World.frozen?,m]
 clear s;have L:=Ue _ _ 0 _ _ (Z Y (IntKind.i64.wrap ((a:Int)+1))) m;have M:=Ue _ _ 1 _ _ (Z Y (IntKind.i64.wrap ((b:Int)+1))) L;have N:=Ue _ _ 2 _ _ (Z Y (c:Int)) M;have P:WQ w (((y.setCell ⟨K (E w)+1,0,U⟩ (Z Y (IntKind.i64.wrap ((a:Int)+1)))).setCell ⟨K (E w)+1,1,U⟩ (Z Y (IntKind.i64.wrap ((b:Int)+1)))).setCell ⟨K (E w)+1,2,U⟩ (Z Y (c:Int))).drew:=(((V.setCell (by simp) _).setCell (by simp) _).setCell (by simp) _).drew;apply Jo (λu=>u=(((y.setCell ⟨K (E w)+1,0,U⟩ (Z Y (IntKind.i64.wrap ((a:Int)+1)))).setCell ⟨K (E w)+1,1,U⟩ (Z Y (IntKind.i64.wrap ((b:Int)+1)))).setCell ⟨K (E w)+1,2,U⟩ (Z Y (c:Int))).drew);refine⟨{ tmps := #[WY #[Z Y l,Z Y c1,Z Y c2],WV (S ⟨K (E w),0,U⟩),WV (S ⟨K (E w)+1,0,U⟩),WV (S ⟨K (E w),0,U⟩),Z Y l,Z Y (a:Int),Z Y (IntKind.i64.wrap ((a:Int)+1)),WV (S ⟨K (E w),1,U⟩),Z Y c1,Z Y (b:Int),Z Y (IntKind.i64.wrap ((b:Int)+1)),WV (S ⟨K (E w),2,U⟩),Z Y c2,Z Y (c:Int),WY #[Z Y (IntKind.i64.wrap ((a:Int)+1)),Z Y (IntKind.i64.wrap ((b:Int)+1)),Z Y (c:Int)]],defers:=[] },?left,?right⟩
 case left=>as_aux_lemma =>
  go_region_law (first
  |(refine du (by rfl) _ _ _ (by rfl) 11 (by rfl) _ (by rfl) (cS B) (cS Q _) ?_;rintro e X ⟨rfl,r⟩;obtain rfl:=r.symm;clear r;dsimp only)
  |(refine du (by rfl) _ _ _ (by rfl) 11 (by rfl) _ (by rfl) (cS B) (cS R _) ?_;rintro e X ⟨rfl,r⟩;obtain rfl:=r.symm;clear r;dsimp only)
  |(refine du (by rfl) _ _ _ (by rfl) 11 (by rfl) _ (by rfl) (cS B) (cS T _) ?_;rintro e X ⟨rfl,r⟩;obtain rfl:=r.symm;clear r;dsimp only))
  all_goals exact⟨O,O,O⟩
 case right =>
 rintro u C;have A:u.heap[K (E w)+1]?=S (D #[Z Y (IntKind.i64.wrap ((a:Int)+1)),Z Y (IntKind.i64.wrap ((b:Int)+1)),Z Y (c:Int)] 23 (0,0)):=by rw[C];exact N
 rw[<-C] at P;have q:u.cell? ⟨K (E w)+1,0,U⟩=S (Z Y (IntKind.i64.wrap ((a:Int)+1))):=by simp[Xc,A]
 have t:u.cell? ⟨K (E w)+1,1,U⟩=S (Z Y (IntKind.i64.wrap ((b:Int)+1))):=by simp[Xc,A]
 have r2:u.cell? ⟨K (E w)+1,2,U⟩=S (Z Y (c:Int)):=by simp[Xc,A]
 have ea:IntKind.i64.wrap ((a:Int)+1)=((a+1:Nat):Int):=by rw[Uy];omega
 have eb:IntKind.i64.wrap ((b:Int)+1)=((b+1:Nat):Int):=by rw[Uy];omega
 rw[ea] at q;rw[eb] at t;clear C L M N A p o g y0 y1 y2 f0 f1 f2 z m;go_wp2;exact T8 (v := WY #[Z Y ((a+1:Nat):Int),Z Y ((b+1:Nat):Int),Z Y (c:Int)]) (by simp[results,results7,go_sem,q,t,r2]) O ⟨O,P⟩
theorem BL(p C:Option Addr)(k F:Nat)(l V:List Int)(w:WR)(h:fF w Y p l)(G:fF w Y C V)(Q:Xg l<=100000000):WT prog 20 #[J p (Xg l) k,J C (Xg V) F] w λe I=>(∃b,e=WZ (WW b)/\(l=V->b=W8))/\WQ w I:=by
 by_cases m:Xg l=Xg V
 .have L:(((Xg l:Nat):Int) != ((Xg V:Nat):Int))=W9:=by rw[m];simp
  go_enter func20,ntmps20;go_wp2
  go_loopw [5] (λi wr=>∃k:Nat,k<=Xg l/\i=Z Y k/\WQ w wr) (λi _=>Xg l-(intOf i).toNat)
  case atStart=>exact⟨0,Ud _,rfl,T4 _ _⟩
  case round =>
   obtain⟨j,R,rfl,r⟩:=hrel;by_cases B:j<Xg l
   .have z:j<Xg V:=by omega
    obtain⟨g,rfl,_,c⟩:=(h.below r) j B;obtain⟨T,rfl,_,W⟩:=(G.below r) j z;have M:(0:Int)<=(j:Int):=UF _;have N:(j:Int)<(Xg l:Int):=by omega
    have P:(j:Int)<(Xg V:Int):=by omega
    by_cases u:l[j]=V[j]
    .have A:(l[j] != V[j])=W9:=by rw[u];simp
     go_wp2_with fail
     go_quiet (fail)
     go_wp2;go_roundw
     case rel=>exact⟨j+1,by omega,by go_num,r.trans ((below_drewN _ _).mono r.size)⟩
     case measure=>simp[intOf];omega
    .have A:(l[j] != V[j])=W8:=by simpa using u
     have y:Hid (l≠V):=λe=>u (by simp only[e])
     go_wp2_with fail
     go_quiet (fail)
     go_wp2;go_ret;exact⟨⟨W9,O,λe=>absurd e (cS y)⟩,r.trans ((below_drewN _ _).mono r.size)⟩
   .obtain rfl:j=Xg l:=by omega
    go_wp2;go_ret;exact⟨⟨W8,O,λ_=>O⟩,r⟩
 .have L:(((Xg l:Nat):Int) != ((Xg V:Nat):Int))=W8:=by simp;omega
  have y:Hid (l≠V):=λe=>m (by rw[e])
  go_enter func20,ntmps20;go_wp2;go_ret;exact⟨⟨W9,O,λe=>absurd e (cS y)⟩,T4 _ _⟩
end Hl
namespace Hl
theorem pj(o s i y z A:Int)(p L:Option Addr)(k N:Nat)(j V:List Int)(w:WR)(h:fF w Y p j)(h':fF w Y L V)(hl:Xg j<=100000000):WT prog 13 #[WY #[Z .u8 o,Z Y s,Z Y i,J p (Xg j) k],WY #[Z .u8 y,Z Y z,Z Y A,J L (Xg V) N]] w λe w'=>(∃b,e=WZ (WW b)/\(j=V->o=y->s=z->i=A->b=W8))/\WQ w w':=by
 have X:=Uv w (D #[Z .u8 o,Z Y s,Z Y i,J p (Xg j) k] 32);have r:WQ w ((w.alloc (D #[Z .u8 o,Z Y s,Z Y i,J p (Xg j) k] 32)).alloc (D #[Z .u8 y,Z Y z,Z Y A,J L (Xg V) N] 32)):=(WO.alloc WN _).alloc (by rw[X];omega) _;have u:=T9 (w.alloc (D #[Z .u8 o,Z Y s,Z Y i,J p (Xg j) k] 32)) (D #[Z .u8 y,Z Y z,Z Y A,J L (Xg V) N] 32);rw[X] at u;have B:((w.alloc (D #[Z .u8 o,Z Y s,Z Y i,J p (Xg j) k] 32)).alloc (D #[Z .u8 y,Z Y z,Z Y A,J L (Xg V) N] 32)).heap[K (E w)]?=S (D #[Z .u8 o,Z Y s,Z Y i,J p (Xg j) k] 32 (0,0)):=by
  rw[Ur _ _ _ (by rw[X];omega)];exact T9 w _
 have F:=cT (λW (hb:WQ w W)=>BL p L k N j V W (h.below hb) (h'.below hb) hl);obtain⟨n,HN⟩:∃n,Hid (Xg j=n):=⟨_,rfl⟩
 obtain⟨n',q⟩:∃n,Hid (Xg V=n):=⟨_,rfl⟩
 rw[cS HN,cS q] at F B u r ⊢;clear h h' X;go_enter func13,ntmps13;go_wp2_with fail;generalize hW:Xe (Xe _ _) _=W0 at *;have t:=(Ug.1 B).1;have g:=(Ug.1 u).1;refine(cS F W0 r).mono ?_;rintro e G ⟨⟨b,rfl,P⟩,C⟩;have l:=(C.block _ t).trans B;have m:=(C.block _ g).trans u;have Q:Hid (WQ w G):=r.trans (C.mono r.size);have x0:G.cell? ⟨K (E w),0,U⟩=S (Z .u8 o):=by simp[Xc,l]
 have x1:G.cell? ⟨K (E w),1,U⟩=S (Z Y s):=by simp[Xc,l]
 have x2:G.cell? ⟨K (E w),2,U⟩=S (Z Y i):=by simp[Xc,l]
 have y0:G.cell? ⟨K (E w)+1,0,U⟩=S (Z .u8 y):=by simp[Xc,m]
 have y1:G.cell? ⟨K (E w)+1,1,U⟩=S (Z Y z):=by simp[Xc,m]
 have y2:G.cell? ⟨K (E w)+1,2,U⟩=S (Z Y A):=by simp[Xc,m]
 have aa:=cT P;clear hW B u r C F l m P;cases b with
 |false =>
  go_wp2;go_ret;exact⟨⟨W9,O,λe _ _ _=>cS aa e⟩,cS Q⟩
 |true =>
  by_cases I:o=y
  .have e1:(o == y)=W8:=Vi.2 I;by_cases M:s=z
   .have e2:(s == z)=W8:=Vi.2 M;by_cases R:i=A
    .have e3:(i == A)=W8:=Vi.2 R;clear I M R;go_wp2;go_ret;exact⟨⟨W8,O,λ_ _ _ _=>O⟩,cS Q⟩
    .have e3:(i == A)=W9:=Uh.2 R;have T:=cT R;clear I M R;go_wp2;go_ret;exact⟨⟨W9,O,λ_ _ _ e=>absurd e (cS T)⟩,cS Q⟩
   .have e2:(s == z)=W9:=Uh.2 M;have T:=cT M;clear I M;go_wp2;go_ret;exact⟨⟨W9,O,λ_ _ e _=>absurd e (cS T)⟩,cS Q⟩
  .have e1:(o == y)=W9:=Uh.2 I;have T:=cT I;clear I;go_wp2;go_ret;exact⟨⟨W9,O,λ_ e _ _=>absurd e (cS T)⟩,cS Q⟩
theorem tx(o s i:Int)(p:Option Addr)(n k:Nat)(w:WR):WT prog 14 #[WY #[Z .u8 o,Z Y s,Z Y i,J p n k]] w λe A=>(∃b,e=WZ (WW b)/\(o=0->s=0->i=0->n=0->b=W8))/\WQ w A:=by
 have j:WQ w (w.alloc (D #[Z .u8 o,Z Y s,Z Y i,J p n k] 32)):=WO.alloc WN _;have y:=cT j;by_cases l:o=0
 .have B:(o == 0)=W8:=Vi.2 l;by_cases m:s=0
  .have C:(s == 0)=W8:=Vi.2 m;by_cases u:i=0
   .have F:(i == 0)=W8:=Vi.2 u;by_cases z:n=0
    .have G:(((n:Nat):Int) == 0)=W8:=Vi.2 (by omega);clear l m u z j;go_enter func14,ntmps14;go_wp2;go_ret;exact⟨⟨W8,O,λ_ _ _ _=>O⟩,cS y⟩
    .have G:(((n:Nat):Int) == 0)=W9:=Uh.2 (by omega);have r:=cT z;clear l m u z j;go_enter func14,ntmps14;go_wp2;go_ret;exact⟨⟨W9,O,λ_ _ _ e=>absurd e (cS r)⟩,cS y⟩
   .have F:(i == 0)=W9:=Uh.2 u;have r:=cT u;clear l m u j;go_enter func14,ntmps14;go_wp2;go_ret;exact⟨⟨W9,O,λ_ _ e _=>absurd e (cS r)⟩,cS y⟩
  .have C:(s == 0)=W9:=Uh.2 m;have r:=cT m;clear l m j;go_enter func14,ntmps14;go_wp2;go_ret;exact⟨⟨W9,O,λ_ e _ _=>absurd e (cS r)⟩,cS y⟩
 .have B:(o == 0)=W9:=Uh.2 l;have r:=cT l;clear l j;go_enter func14,ntmps14;go_wp2;go_ret;exact⟨⟨W9,O,λe _ _ _=>absurd e (cS r)⟩,cS y⟩
theorem AU(dj sv every:Nat)(w:WR)(h1:1<=every)(h2:every<=50)(A:dj<=4294967295)(I:sv<=1000000):WT prog 15 #[WY #[Z Y (dj:Int),Z Y (sv:Int)],Z Y (every:Int)] w λe B=>e=WZ (Z Y (fD dj sv every:Nat))/\WQ w B:=by
 by_cases y:sv=0
 .subst y;have l:Hid (WQ w (w.alloc (D #[Z Y (dj:Int),Z Y 0] 43))):=WO.alloc WN _;have r:Hid (fD dj 0 every=dj):=by show _=_;unfold fD;rw[T0 rfl]
  show WT prog 15 #[WY #[Z Y (dj:Int),Z Y 0],Z Y (every:Int)] w _
  go_enter func15,ntmps15;go_wp2;go_ret;exact⟨by rw[cS r];rfl,cS l⟩
 .have L:((sv:Int) == 0)=W9:=Uh.2 (by omega);have u:WQ w (w.alloc (D #[Z Y (dj:Int),Z Y (sv:Int)] 43)):=WO.alloc WN _;have j:=T9 w (D #[Z Y (dj:Int),Z Y (sv:Int)] 43);have r:Hid (fD dj sv every=(dj/every+sv)*every):=by show _=_;unfold fD;rw[TZ y]
  have hd:(every:Int)≠0:=by omega
  have M:(dj:Int).tdiv (every:Int)=((dj/every:Nat):Int):=by rw[Int.tdiv_eq_ediv_of_nonneg (by omega)];rfl
  have C:dj/every<=4294967295:=Uc (Nat.div_le_self _ _) A;have N:(dj/every+sv)*every<=4295967295*50:=Nat.mul_le_mul (by omega) h2;generalize dj/every=q at *;have hmul:((q+sv:Nat):Int)*(every:Int)=(((q+sv)*every:Nat):Int):=by rw[Int.natCast_mul]
  generalize (q+sv)*every=m at *;have P:IntKind.i64.wrap (q:Int)=(q:Int):=by rw[Uy];omega
  have Q:IntKind.i64.wrap ((q:Int)+(sv:Int))=((q+sv:Nat):Int):=by rw[Uy];omega
  have w3:IntKind.i64.wrap (m:Int)=(m:Int):=by rw[Uy];omega
  generalize F:w.alloc (D #[Z Y (dj:Int),Z Y (sv:Int)] 43)=z at *;have R:z.cell? ⟨K (E w),0,U⟩=S (Z Y (dj:Int)):=by simp[Xc,j]
  have T:z.cell? ⟨K (E w),1,U⟩=S (Z Y (sv:Int)):=by simp[Xc,j]
  have l:=cT u;go_enter func15,ntmps15;go_wp2_with fail
  go_quiet (fail)
  go_wp2;go_ret;have G:wrap64 (m:Int)=(m:Int):=by first|exact w3|(unfold wrap64;omega)
  have b:((q:Int)+(sv:Int))*(every:Int)=(m:Int):=by rw[<-hmul,Int.natCast_add]
  refine⟨?_,(cS l).trans ((below_drewN _ _).mono (cS l).size)⟩;rw[cS r]
  show Ending.returned (Z Y (wrap64 (((q:Int)+(sv:Int))*(every:Int))))=_
  rw[b,G]
end Hl
namespace Hl
open Rd (Rk)
open Dk (Kept dv)
open Pk (n5 fT iV fj Sm kK mZ cV dh)
open Ru (pd jd oo lS zD fI mM iH)
structure Env (w:WR) (z f:Addr):Prop where
 I6:Lib.Utf8Tabs 3 4 w
 comp:lZ w
 B6:jY w z f
 pow:fI w
variable {z f:Addr}{w w0:WR}
theorem Env.base(h:Env w0 z f)(hb:WQ w0 w): Env w z f:=⟨eM h.I6 hb,h.comp.below hb,h.B6.below hb,h.pow.below hb⟩
theorem Env.lt(h:Env w z f): ∀k,(k=1\/k=2\/k=z.block\/k=f.block\/k=6)->k<K (E w):=by
 rintro k (rfl|rfl|rfl|rfl|rfl)
 .exact h.B6.lz
 .exact h.B6.lf
 .obtain⟨c,t,b⟩:=h.B6.bz;exact cV b
 .obtain⟨c,t,b⟩:=h.B6.bf;exact cV b
 .exact h.pow.lt
variable {R' R:Rk}
theorem ug{b E j:Nat}{Q:Rk}{O:Nat->Prop}(h:iV w b E Q R O): iV w b j Q R' O:=by
 obtain⟨d,e,l,m,r,u,y,C,A,B⟩:=h;exact⟨d,e,l,m,r,u,y,trivial,A,B⟩
structure Dw (w0 w:WR) (D:Nat) (R:Rk) (O:Nat->Prop):Prop where
 two:iV w D 0 R R O
 own:∀k,O k->K (E w0)<=k
 base:WQ w0 w
variable {w':WR}{O':Nat->Prop}
theorem Dw.step{b:Nat}{O:Nat->Prop}(h:Dw w0 w b R O)(h2:iV w' b 0 R' R' O')(j:fj w O w' O'): Dw w0 w' b R' O':=by
 have m:=h.base.size;refine⟨h2,λk l=>?_,⟨j.kept.os.trans h.base.os,j.kept.tape.trans h.base.tape,j.kept.output.trans h.base.output,Uc m j.kept.size,λk l=>?_⟩⟩
 .rcases j.own k l with e|e
  .exact h.own k e
  .omega
 .rw[j.kept.block k (by omega) (λr=>by have:=h.own k r;omega),h.base.block k l]
theorem Dw.below{b:Nat}{O:Nat->Prop}(h:Dw w0 w b R O)(hb:WQ w w'): Dw w0 w' b R O:=h.step (h.two.below hb) (fj.below O hb)
theorem Dw.blk{b:Nat}{O:Nat->Prop}(h:Dw w0 w b R O)(j:fj w O w' O'){k:Nat}{c:Array WS}{t:Nat}(e:w.heap[k]?=S (D c t (0,0)))(ht:t∉iH): w'.heap[k]?=S (D c t (0,0)):=(j.far (cV e) (mM h.two e ht)).1.trans e
variable {v:WS}
theorem Dw.row{b:Nat}{O:Nat->Prop}(h:Dw w0 w b R O)(m:fj w O w' O'){B e s n:Nat}{j:List WS}(l:w.ownsRow B e s v n j)(he:e∉iH): w'.ownsRow B e s v n j:=dv l m.kept λg r=>by obtain⟨c,u,_⟩:=dh l r;exact mM h.two u he
def QL(w0 w:WR)(b:Nat)(g p:WU)(j c1 c2:Int)(R:Rk)(O:Nat->Prop)(e:Ending)(w':WR):Prop:=Small g/\∃q m k O',e=WZ (lS (jd g p j c1 c2 R).res.outcome (jd g p j c1 c2 R).res.step (jd g p j c1 c2 R).res.dt q m k (oo g p j c1 c2 R) (jd g p j c1 c2 R).saved (jd g p j c1 c2 R).e)/\w'.ownsRow (K (E w)) 2 1 (J q m k) (jd g p j c1 c2 R).res.dA.length ((jd g p j c1 c2 R).res.dA.map (Z Y))/\Dw w0 w' b (jd g p j c1 c2 R).R O'/\fj w O w' O'
theorem mj{b nn:Nat}{O:Nat->Prop}(h:Dw w0 w b R O)(he:Env w0 z f)(A:Sm R nn 1000)(B:nn+2000<=1000000000)(g p:WU)(C:g.size<=1048576)(F:p.size<=1048576)(u c1 c2:Int):WT prog 12 #[WV (S ⟨b,0,U⟩),H g,H p,WY #[Z Y u,Z Y c1,Z Y c2]] w (QL w0 w b g p u c1 c2 R O):=by
 have r:=he.base h.base;refine(Ru.BP b 0 nn 1000 R R O g p u c1 c2 z f w h.two A B WN (by omega) C F r.I6 r.comp r.B6 r.pow (λk G I=>?_)).mono ?_
 .have:=he.lt k G;have:=h.own k I;omega
 .rintro e w' ⟨y,⟨q,m,k,rfl,j⟩,O',L,l⟩;exact⟨y,q,m,k,O',rfl,j,h.step (ug L) l,l⟩
theorem zB(w0 w:WR)(hb:WQ w0 w)(q:Int):WT prog 6 #[Z Y q] w λe w'=>e=WZ (WV (S ⟨K (E w)+1,0,U⟩))/\WQ w w'/\∃b,Dw w0 w' (K (E w)+1) ⟨[],[],[],q,-1,W9⟩ b:=by
 refine(Pk.A3 q w).mono ?_;rintro e w' ⟨rfl,j,hd⟩;obtain⟨b,l,m⟩:=Pk.n5.new j hd;have:=hb.size;exact⟨O,j,b,l,λk r=>by have:=m k r;omega,hb.trans (j.mono hb.size)⟩
structure FM (w0 w:WR) (D:Nat) (R:Rk) (O:Nat->Prop) (CB WB:Nat) (cc wc:Array WS) (v:WS) (xs:List Int):Prop where
 d:Dw w0 w D R O
 cb:w.heap[CB]?=S (.cells cc 23 (0,0))
 wb:w.heap[WB]?=S (.cells wc 32 (0,0))
 row:w.ownsRow 0 2 1 v (Xg xs) (xs.map (Z Y))
theorem FM.step{b:Nat}{O:Nat->Prop}{j l:Nat}{m wc:Array WS}{r:List Int}(h:FM w0 w b R O j l m wc v r)(h2:Dw w0 w' b R' O')(e:fj w O w' O'): FM w0 w' b R' O' j l m wc v r:=⟨h2,h.d.blk e h.cb (by decide),h.d.blk e h.wb (by decide),h.d.row e h.row (by decide)⟩
theorem FM.below{b:Nat}{O:Nat->Prop}{e j:Nat}{l wc:Array WS}{m:List Int}(h:FM w0 w b R O e j l wc v m)(hb:WQ w w'): FM w0 w' b R O e j l wc v m:=h.step (h.d.below hb) (fj.below O hb)
def SM(w:WR)(p:Option Addr)(n:Nat)(Q:Nat->Int):Prop := ∀j,j<n->∃g o,p=S ⟨g,o,U⟩/\g<K (E w)/\w.cell? ⟨g,o+j,U⟩=S (Z Y (Q j))
theorem jP{B n:Nat}{V:List Int}{q:Option Addr}{m k:Nat}(h:w.ownsRow B 2 1 (J q m k) n (V.map (Z Y)))(b:n=Xg V): m=Xg V/\fF w Y q V:=by
 subst b;obtain⟨j,l,e,hi⟩:=mS h;injection e with e1 e2 _;exact⟨e2,by rw[e1];exact hi⟩
end Hl
namespace Hl
open Rd (Rk)
open Pk (Sm gw cV)
open Ru (jd oo lS)
theorem yd(w:WR)(z f:Addr)(he:Env w z f):WT prog 5 #[] w λe w'=>e=WZ (WW W8)/\WQ w w':=by
 have HE:=cT he;clear he;go_enter func5,ntmps5;go_wp2_with fail;refine(Ge _).mono ?_;rintro e w1 ⟨rfl,B⟩;obtain rfl:=B.symm;clear B;go_wp2_with fail;refine(zB w w (T4 _ _) _).mono ?_;rintro e w2 ⟨rfl,C,l,M⟩;have HD:=cT M;have N:=cT C;have F:=cT (mj (nn:=0) M (cS HE) ((C6 _).mono WN (by omega)) (by omega) g0 fw (by decide) (by rw[Gw];omega) 1 1 10);clear M C;go_wp2_with fail;refine(cS F).mono ?_;clear F;rintro e w3 ⟨u,q,m,k,O',rfl,y,G,P⟩;have t:oo g0 fw 1 1 10 ⟨[],[],[],1099511627776,-1,W9⟩=0:=(EG u).1;have s:(jd g0 fw 1 1 10 ⟨[],[],[],1099511627776,-1,W9⟩).e=0:=(EG u).2.1;have Q:(jd g0 fw 1 1 10 ⟨[],[],[],1099511627776,-1,W9⟩).res=⟨1,3,0,[0,3,1,1000000000]⟩:=(EG u).2.2.1;have p:(jd g0 fw 1 1 10 ⟨[],[],[],1099511627776,-1,W9⟩).saved=2:=(EG u).2.2.2;rw[Q] at y;unfold lS;rw[t,s,Q,p];obtain⟨R,o⟩:=jP (V:=[0,3,1,1000000000]) y rfl;have R:m=4:=R;subst R;have HI:=cT o;have I:Hid (WQ w w3):=G.base;clear G P y o u t s Q p HD N;go_wp2_with fail;have A:WQ w3 (((w3.alloc (D #[Z .u8 1,Z Y 3,Z Y 0,J q 4 k] 32)).alloc (D #[Z Y 0,Z Y 2] 43)).alloc (D #[Z Y 0,Z Y 3,Z Y 1,Z Y 1000000000] 2)):=((WO.alloc WN _).alloc (by simp) _).alloc (by simp;omega) _;have r:=T9 ((w3.alloc (D #[Z .u8 1,Z Y 3,Z Y 0,J q 4 k] 32)).alloc (D #[Z Y 0,Z Y 2] 43)) (D #[Z Y 0,Z Y 3,Z Y 1,Z Y 1000000000] 2);rw[Uv,Uv] at r;generalize hW:Xe (Xe (Xe _ _) _) _=W at *;have g:fF W Y (S ⟨K (E w3)+1+1,0,U⟩) [0,3,1,1000000000]:=λj hj=>by
  refine⟨_,O,cV r,?_⟩;have aa:j<4:=hj;have:j=0\/j=1\/j=2\/j=3:=by omega
  rcases this with rfl|rfl|rfl|rfl <;> simp[Xc,r]
 refine(BL q (S ⟨K (E w3)+1+1,0,U⟩) k 4 [0,3,1,1000000000] [0,3,1,1000000000] W ((cS HI).below A) g (by decide)).mono ?_;rintro e w4 ⟨⟨b,rfl,hb⟩,L⟩;have T:b=W8:=hb O;subst T;have X:Hid (WQ w w4):=(cS I).trans ((A.trans (L.mono A.size)).mono (cS I).size);clear hb L g r A hW;go_wp2;go_ret;exact⟨O,cS X⟩
end Hl
namespace Hl
open Go.ChangeShapes Go.WideShapes Go.ChangeAt Go.RowKit
open Go.ChangeMaps (open_string shut_string)
theorem sT:prog.cellsOf 3=1:=by kernel_rfl
theorem Nn:prog.cellsOf 39=1:=by kernel_rfl
theorem NF:prog.cellsOf 23=3:=by kernel_rfl
theorem ry{x:Int}(h:(Lit.int .i64 x).wf=true): -9223372036854775808<=x/\x<=9223372036854775807:=by
 simpa [Lit.wf,IntKind.min,IntKind.max,IntKind.signed,IntKind.bits] using h
theorem qy:∃b e j:Field,prog.underlying 23=some (.struct #[b,e,j])/\b.type=3/\e.type=3/\j.type=3/\b.offset=0/\e.offset=1/\j.offset=2:=⟨_,_,_,underlying23,rfl,rfl,rfl,rfl,rfl,rfl⟩
section
variable {H : Type} {enc : TypeId × Value → H} {w : World}
theorem AG{a:Addr}{v:WS}(h:w.cell? a=some v):a.spot=none/\a.block<w.heap.size:=by
 refine⟨?_,Ui w _ h⟩;unfold World.cell? at h;split at h
 .split at h
  .cases h
  .rename_i b;cases e:a.spot with
   |none=>rfl
   |some z=>simp[e] at b
 .cases h
theorem Aw{e:Nat}{cs:List WS}{x:DataW H × List MemPlace}(h:DataW.trod enc prog w 0 (λ_=>true) true e 23 cs=some x):∃a b c,cs=[.int .i64 a,.int .i64 b,.int .i64 c]/\(-9223372036854775808<=a/\a<=9223372036854775807)/\(-9223372036854775808<=b/\b<=9223372036854775807)/\(-9223372036854775808<=c/\c<=9223372036854775807):=by
 obtain⟨C,F,G,hu,I,L,M,N,P,Q⟩:=qy;obtain⟨R,n,_,rfl,m,j,l⟩:=DataW.trod_struct hu h;rw[NF] at m
 match R,j with
 |[T,V,W],_ =>
  have r:=l 0 C rfl;have u:=l 1 F rfl;have y:=l 2 G rfl;rw[I,N,sT] at r;rw[L,P,sT] at u;rw[M,Q,sT] at y;obtain⟨a,z,rfl,X⟩:=DataW.trod_int underlying3 (x:=T) (by simpa using r);obtain⟨b,A,rfl,k⟩:=DataW.trod_int underlying3 (x:=V) (by simpa using u);obtain⟨c,B,rfl,q⟩:=DataW.trod_int underlying3 (x:=W) (by simpa using y)
  match cs,m with
  |[c0,c1,c2],_ =>
   simp at z A B;subst z A B;exact⟨a,b,c,rfl,ry X,ry k,ry q⟩
theorem GK(k:IntKind)(b:List Int):Rows.uptoBulkAll (lits (H:=H) k b)=b.length:=by
 unfold lits
 induction b with
 |nil=>rfl
 |cons z r e=>simp only[U4,Rows.uptoBulkAll,Uf,e,Rows.uptoBulk];omega
theorem A2{m:Nat}{cs:List WS}{x:DataW H × List MemPlace}(h:DataW.trod enc prog w 0 (λ_=>true) true m 39 cs=some x):∃p n c b,cs=[.slice p n c]/\SM w p n b/\(∀j,j<n->-9223372036854775808<=b j/\b j<=9223372036854775807)/\n+1<=Rows.uptoBulk x.1:=by
 rcases open_ints underlying39 underlying3 sT h with ⟨l,A⟩|⟨a,r,u,z,l,_,N,P,G,A,e,B⟩
 .exact⟨none,0,0,λ_=>0,l,λj C=>(by omega),λj C=>(by omega),by rw[A];simp[Rows.uptoBulk]⟩
 .simp only[UL] at G;refine⟨some a,r,u,λj=>z.getD j 0,l,λj C=>?_,λj C=>?_,?_⟩
  .have I:=e j (by omega);have F:=AG (e 0 (by omega));obtain⟨g,o,sp⟩:=a;simp[Addr.add] at F;obtain⟨rfl,L⟩:=F;have y:j<z.length:=by omega
   refine⟨g,o,rfl,L,?_⟩;have M:(⟨g,o,none⟩:Addr).add j=⟨g,o+j,none⟩:=by
    unfold Addr.add;split <;> simp_all
   rw[<-M];exact I
  .have y:j<z.length:=by omega
   exact ry (B (z.getD j 0) (by rw[Uo,Uk y];exact UU _))
  .rw[A];simp only[Rows.uptoBulk,GK,Vj,Vb];omega
end
end Hl
end Go.Proofs.YtgkkdpegcieakaaGreatDoor
