import Derived.Test.YtgkkdpegcieakaaGreatDoorCv34
import Derived.Test.YtgkkdpegcieakaaGreatDoorRows
set_option linter.all false
set_option maxRecDepth 100000
set_option maxHeartbeats 0
namespace Go.Proofs.YtgkkdpegcieakaaGreatDoor
open Go.Proofs.Tryz
open Value renaming int→Z,slice→J,string→H,pointer→V9,bool→Wa,agg→Wc
open Ending renaming returned→Wd
open Obj renaming cells→D
open Option renaming none→U,some→S
open Bool renaming true→We,false→Wg
open List renaming length→Wn
open _root_.Array renaming size→N
open World renaming cell?→Wj,alloc→Wl,heap→E
open IntKind renaming i64→Y
open Go renaming World→V5,Value→V6,Calls→V7
open Go.RowKit
namespace Hl
theorem zA{a:Int}{n:Nat}(ha:0<=a)(b:0<n):∃r:Nat,a.tmod (n:Int)=(r:Int)/\r<n:=by
 have e:=Int.tmod_nonneg (n:Int) ha;have j:=Int.tmod_lt_of_pos a (show (0:Int)<(n:Int) by omega);exact⟨(a.tmod (n:Int)).toNat,by omega,by omega⟩
def pk(c:Int)(n:Nat):Nat:=((if c<0 then -(c+1) else c).tmod (n:Int)).toNat
theorem vw(c:Int){n:Nat}(b:0<n):pk c n<n:=by
 unfold pk;obtain⟨r,e,j⟩:=zA (a:=if c<0 then -(c+1) else c) (n:=n) (by split <;> omega) b;omega
theorem yO(c:Int)(n:Nat)(w:V5)(h1 : -9223372036854775808<=c)(h2:c<=9223372036854775807)(y:0<n)(z:n<=9223372036854775807):V7 prog 11 #[Z Y c,Z Y n] w λe A=>e=Wd (Z Y (pk c n))/\A=w:=by
 by_cases l:c<0
 .obtain⟨r,b,m⟩:=zA (a := -(c+1)) (n:=n) (by omega) y;have u:=cU b;have j:Hid (pk c n=r):=by show _=_;unfold pk;rw[Tg l,b];exact Vr r
  clear b;go_enter func11,ntmps11;go_wp2;go_ret;exact⟨by rw[cT j];have h:=cT u;rw[Int.neg_tmod] at h;rw[h];rfl,O⟩
 .obtain⟨r,b,m⟩:=zA (a:=c) (n:=n) (by omega) y;have u:=cU b;have j:Hid (pk c n=r):=by show _=_;unfold pk;rw[Tf l,b];exact Vr r
  clear b;go_enter func11,ntmps11;go_wp2;go_ret;exact⟨by rw[cT j];have h:=cT u;rw[Int.tmod_eq_emod_of_nonneg l] at h;rw[h];rfl,O⟩
def IU(Q:Exit->Act->V5->Prop):Exit->Act->V5->Prop
 |.panic _,_,_=>False
 |.normal,a,w=>Q .normal a w
 |.ret,a,w=>Q .ret a w
 |.exit n,a,w=>Q (.exit n) a w
 |.goto n,a,w=>Q (.goto n) a w
 |.outgrown,a,w=>Q .outgrown a w
theorem Be{Q:Exit->Act->V5->Prop}:∀e a w,IU Q e a w->Q e a w:=λe a w h=>by
 cases e <;> first|exact h|exact h.elim
theorem H5{P:Program}{c:Code}{Q:Exit->Act->V5->Prop}{a:Act}{w:V5}(R:V5->Prop)(h:∃A,c.wp P (IU λx j b=>x=.normal/\j=A/\R b) a w/\∀b,R b->Q .normal A b):c.wp P Q a w:=by
 obtain⟨A,l,m⟩:=h;refine Code.wp_mono (λe a w h=>?_) l;obtain⟨rfl,rfl,r⟩:=Be _ _ _ h;exact m _ r
theorem JQ(l c1 c2:Int)(w:V5)(W : -9223372036854775808<=l/\l<=9223372036854775807)(h1 : -9223372036854775808<=c1/\c1<=9223372036854775807)(h2 : -9223372036854775808<=c2/\c2<=9223372036854775807):V7 prog 7 #[Wc #[Z Y l,Z Y c1,Z Y c2]] w λe u=>e=Wd (Wc #[Z Y ((pk l 50+1:Nat):Int),Z Y ((pk c1 5+1:Nat):Int),Z Y (pk c2 201:Nat)])/\V4 w u:=by
 have F:∀j,V7 prog 11 #[Z Y l,Z Y 50] j λe u=>e=Wd (Z Y (pk l 50))/\u=j:=λj=>yO l 50 j W.1 W.2 (by omega) (by omega)
 have G:∀j,V7 prog 11 #[Z Y c1,Z Y 5] j λe u=>e=Wd (Z Y (pk c1 5))/\u=j:=λj=>yO c1 5 j h1.1 h1.2 (by omega) (by omega)
 have I:∀j,V7 prog 11 #[Z Y c2,Z Y 201] j λe u=>e=Wd (Z Y (pk c2 201))/\u=j:=λj=>yO c2 201 j h2.1 h2.2 (by omega) (by omega)
 have l0:=vw l (n:=50) (by omega);have l1:=vw c1 (n:=5) (by omega);have l2:=vw c2 (n:=201) (by omega);generalize pk l 50=a at *;generalize pk c1 5=b at *;generalize pk c2 201=c at *;have Q:=cU F;have R:=cU G;have T:=cU I;clear F G I;have B:Hid (∀(args:Array V6) (w:V5),(callFunc 11 args).run prog w=.ok (.enter 11 args) w):=da func11 (by kernel_rfl) (by kernel_rfl);go_enter func7,ntmps7;go_upto_region 1 with (fail)
 have z:((w.alloc (D #[Z Y l,Z Y c1,Z Y c2] 23)).alloc (D #[Z Y 0,Z Y 0,Z Y 0] 23)).heap[N (E w)]?=S (D #[Z Y l,Z Y c1,Z Y c2] 23 (0,0)):=by
  rw[TD _ _ _ (by simp)];exact Tk w _
 have m:((w.alloc (D #[Z Y l,Z Y c1,Z Y c2] 23)).alloc (D #[Z Y 0,Z Y 0,Z Y 0] 23)).heap[N (E w)+1]?=S (D #[Z Y 0,Z Y 0,Z Y 0] 23 (0,0)):=by
  have h:=Tk (w.alloc (D #[Z Y l,Z Y c1,Z Y c2] 23)) (D #[Z Y 0,Z Y 0,Z Y 0] 23);simpa using h
 have V:V4 w ((w.alloc (D #[Z Y l,Z Y c1,Z Y c2] 23)).alloc (D #[Z Y 0,Z Y 0,Z Y 0] 23)):=(V3.alloc V2 _).alloc (by simp) _;generalize s:Wl (Wl _ _) _=y at *;have p:y.cell? ⟨N (E w),0,U⟩=S (Z Y l):=by simp[Wj,z]
 have o:y.cell? ⟨N (E w),1,U⟩=S (Z Y c1):=by simp[Wj,z]
 have g:y.cell? ⟨N (E w),2,U⟩=S (Z Y c2):=by simp[Wj,z]
 have y0:y.cell? ⟨N (E w)+1,0,U⟩=S (Z Y 0):=by simp[Wj,m]
 have y1:y.cell? ⟨N (E w)+1,1,U⟩=S (Z Y 0):=by simp[Wj,m]
 have y2:y.cell? ⟨N (E w)+1,2,U⟩=S (Z Y 0):=by simp[Wj,m]
 have f0:y.frozen? ⟨N (E w)+1,0,U⟩=Wg:=by simp[World.frozen?,m]
 have f1:y.frozen? ⟨N (E w)+1,1,U⟩=Wg:=by simp[World.frozen?,m]
 have f2:y.frozen? ⟨N (E w)+1,2,U⟩=Wg:=by simp[World.frozen?,m]
 clear s;have K:=Tq _ _ 0 _ _ (Z Y (IntKind.i64.wrap ((a:Int)+1))) m;have L:=Tq _ _ 1 _ _ (Z Y (IntKind.i64.wrap ((b:Int)+1))) K;have M:=Tq _ _ 2 _ _ (Z Y (c:Int)) L;have P:V4 w (((y.setCell ⟨N (E w)+1,0,U⟩ (Z Y (IntKind.i64.wrap ((a:Int)+1)))).setCell ⟨N (E w)+1,1,U⟩ (Z Y (IntKind.i64.wrap ((b:Int)+1)))).setCell ⟨N (E w)+1,2,U⟩ (Z Y (c:Int))).drew:=(((V.setCell (by simp) _).setCell (by simp) _).setCell (by simp) _).drew;apply H5 (λu=>u=(((y.setCell ⟨N (E w)+1,0,U⟩ (Z Y (IntKind.i64.wrap ((a:Int)+1)))).setCell ⟨N (E w)+1,1,U⟩ (Z Y (IntKind.i64.wrap ((b:Int)+1)))).setCell ⟨N (E w)+1,2,U⟩ (Z Y (c:Int))).drew);refine⟨{ tmps := #[Wc #[Z Y l,Z Y c1,Z Y c2],V9 (S ⟨N (E w),0,U⟩),V9 (S ⟨N (E w)+1,0,U⟩),V9 (S ⟨N (E w),0,U⟩),Z Y l,Z Y (a:Int),Z Y (IntKind.i64.wrap ((a:Int)+1)),V9 (S ⟨N (E w),1,U⟩),Z Y c1,Z Y (b:Int),Z Y (IntKind.i64.wrap ((b:Int)+1)),V9 (S ⟨N (E w),2,U⟩),Z Y c2,Z Y (c:Int),Wc #[Z Y (IntKind.i64.wrap ((a:Int)+1)),Z Y (IntKind.i64.wrap ((b:Int)+1)),Z Y (c:Int)]],defers:=[] },?left,?right⟩
 case left=>as_aux_lemma =>
  go_region_law (first
  |(refine du (by rfl) _ _ _ (by rfl) 11 (by rfl) _ (by rfl) (cT B) (cT Q _) ?_;rintro e X ⟨rfl,r⟩;obtain rfl:=r.symm;clear r;dsimp only)
  |(refine du (by rfl) _ _ _ (by rfl) 11 (by rfl) _ (by rfl) (cT B) (cT R _) ?_;rintro e X ⟨rfl,r⟩;obtain rfl:=r.symm;clear r;dsimp only)
  |(refine du (by rfl) _ _ _ (by rfl) 11 (by rfl) _ (by rfl) (cT B) (cT T _) ?_;rintro e X ⟨rfl,r⟩;obtain rfl:=r.symm;clear r;dsimp only))
  all_goals exact⟨O,O,O⟩
 case right =>
 rintro u C;have A:u.heap[N (E w)+1]?=S (D #[Z Y (IntKind.i64.wrap ((a:Int)+1)),Z Y (IntKind.i64.wrap ((b:Int)+1)),Z Y (c:Int)] 23 (0,0)):=by rw[C];exact M
 rw[<-C] at P;have q:u.cell? ⟨N (E w)+1,0,U⟩=S (Z Y (IntKind.i64.wrap ((a:Int)+1))):=by simp[Wj,A]
 have t:u.cell? ⟨N (E w)+1,1,U⟩=S (Z Y (IntKind.i64.wrap ((b:Int)+1))):=by simp[Wj,A]
 have r2:u.cell? ⟨N (E w)+1,2,U⟩=S (Z Y (c:Int)):=by simp[Wj,A]
 have ea:IntKind.i64.wrap ((a:Int)+1)=((a+1:Nat):Int):=by rw[TJ];omega
 have eb:IntKind.i64.wrap ((b:Int)+1)=((b+1:Nat):Int):=by rw[TJ];omega
 rw[ea] at q;rw[eb] at t;clear C K L M A p o g y0 y1 y2 f0 f1 f2 z m;go_wp2;exact Tj (v := Wc #[Z Y ((a+1:Nat):Int),Z Y ((b+1:Nat):Int),Z Y (c:Int)]) (by simp[results,results7,go_sem,q,t,r2]) O ⟨O,P⟩
theorem B6(p C:Option Addr)(k F:Nat)(l V:List Int)(w:V5)(h:fG w Y p l)(G:fG w Y C V)(Q:Wn l<=100000000):V7 prog 20 #[J p (Wn l) k,J C (Wn V) F] w λe I=>(∃b,e=Wd (Wa b)/\(l=V->b=We))/\V4 w I:=by
 by_cases m:Wn l=Wn V
 .have K:(((Wn l:Nat):Int) != ((Wn V:Nat):Int))=Wg:=by rw[m];simp
  go_enter func20,ntmps20;go_wp2
  go_loopw [5] (λi wr=>∃k:Nat,k<=Wn l/\i=Z Y k/\V4 w wr) (λi _=>Wn l-(intOf i).toNat)
  case atStart=>exact⟨0,Tp _,rfl,Th _ _⟩
  case round =>
   obtain⟨j,R,rfl,r⟩:=hrel;by_cases B:j<Wn l
   .have z:j<Wn V:=by omega
    obtain⟨g,rfl,_,c⟩:=(h.below r) j B;obtain⟨T,rfl,_,W⟩:=(G.below r) j z;have L:(0:Int)<=(j:Int):=TS _;have M:(j:Int)<(Wn l:Int):=by omega
    have P:(j:Int)<(Wn V:Int):=by omega
    by_cases u:l[j]=V[j]
    .have A:(l[j] != V[j])=Wg:=by rw[u];simp
     go_wp2_with fail
     go_quiet (fail)
     go_wp2;go_roundw
     case rel=>exact⟨j+1,by omega,by go_num,r.trans ((below_drewN _ _).mono r.size)⟩
     case measure=>simp[intOf];omega
    .have A:(l[j] != V[j])=We:=by simpa using u
     have y:Hid (l≠V):=λe=>u (by simp only[e])
     go_wp2_with fail
     go_quiet (fail)
     go_wp2;go_ret;exact⟨⟨Wg,O,λe=>absurd e (cT y)⟩,r.trans ((below_drewN _ _).mono r.size)⟩
   .obtain rfl:j=Wn l:=by omega
    go_wp2;go_ret;exact⟨⟨We,O,λ_=>O⟩,r⟩
 .have K:(((Wn l:Nat):Int) != ((Wn V:Nat):Int))=We:=by simp;omega
  have y:Hid (l≠V):=λe=>m (by rw[e])
  go_enter func20,ntmps20;go_wp2;go_ret;exact⟨⟨Wg,O,λe=>absurd e (cT y)⟩,Th _ _⟩
end Hl
namespace Hl
theorem xi(o s i y z A:Int)(p K:Option Addr)(k M:Nat)(j V:List Int)(w:V5)(h:fG w Y p j)(h':fG w Y K V)(hl:Wn j<=100000000):V7 prog 13 #[Wc #[Z .u8 o,Z Y s,Z Y i,J p (Wn j) k],Wc #[Z .u8 y,Z Y z,Z Y A,J K (Wn V) M]] w λe w'=>(∃b,e=Wd (Wa b)/\(j=V->o=y->s=z->i=A->b=We))/\V4 w w':=by
 have X:=TK w (D #[Z .u8 o,Z Y s,Z Y i,J p (Wn j) k] 32);have r:V4 w ((w.alloc (D #[Z .u8 o,Z Y s,Z Y i,J p (Wn j) k] 32)).alloc (D #[Z .u8 y,Z Y z,Z Y A,J K (Wn V) M] 32)):=(V3.alloc V2 _).alloc (by rw[X];omega) _;have u:=Tk (w.alloc (D #[Z .u8 o,Z Y s,Z Y i,J p (Wn j) k] 32)) (D #[Z .u8 y,Z Y z,Z Y A,J K (Wn V) M] 32);rw[X] at u;have B:((w.alloc (D #[Z .u8 o,Z Y s,Z Y i,J p (Wn j) k] 32)).alloc (D #[Z .u8 y,Z Y z,Z Y A,J K (Wn V) M] 32)).heap[N (E w)]?=S (D #[Z .u8 o,Z Y s,Z Y i,J p (Wn j) k] 32 (0,0)):=by
  rw[TD _ _ _ (by rw[X];omega)];exact Tk w _
 have F:=cU (λW (hb:V4 w W)=>B6 p K k M j V W (h.below hb) (h'.below hb) hl);obtain⟨n,HN⟩:∃n,Hid (Wn j=n):=⟨_,rfl⟩
 obtain⟨n',q⟩:∃n,Hid (Wn V=n):=⟨_,rfl⟩
 rw[cT HN,cT q] at F B u r ⊢;clear h h' X;go_enter func13,ntmps13;go_wp2_with fail;generalize hW:Wl (Wl _ _) _=W0 at *;have t:=(Ts.1 B).1;have g:=(Ts.1 u).1;refine(cT F W0 r).mono ?_;rintro e G ⟨⟨b,rfl,P⟩,C⟩;have l:=(C.block _ t).trans B;have m:=(C.block _ g).trans u;have Q:Hid (V4 w G):=r.trans (C.mono r.size);have x0:G.cell? ⟨N (E w),0,U⟩=S (Z .u8 o):=by simp[Wj,l]
 have x1:G.cell? ⟨N (E w),1,U⟩=S (Z Y s):=by simp[Wj,l]
 have x2:G.cell? ⟨N (E w),2,U⟩=S (Z Y i):=by simp[Wj,l]
 have y0:G.cell? ⟨N (E w)+1,0,U⟩=S (Z .u8 y):=by simp[Wj,m]
 have y1:G.cell? ⟨N (E w)+1,1,U⟩=S (Z Y z):=by simp[Wj,m]
 have y2:G.cell? ⟨N (E w)+1,2,U⟩=S (Z Y A):=by simp[Wj,m]
 have aa:=cU P;clear hW B u r C F l m P;cases b with
 |false =>
  go_wp2;go_ret;exact⟨⟨Wg,O,λe _ _ _=>cT aa e⟩,cT Q⟩
 |true =>
  by_cases I:o=y
  .have e1:(o == y)=We:=UH.2 I;by_cases L:s=z
   .have e2:(s == z)=We:=UH.2 L;by_cases R:i=A
    .have e3:(i == A)=We:=UH.2 R;clear I L R;go_wp2;go_ret;exact⟨⟨We,O,λ_ _ _ _=>O⟩,cT Q⟩
    .have e3:(i == A)=Wg:=Tt.2 R;have T:=cU R;clear I L R;go_wp2;go_ret;exact⟨⟨Wg,O,λ_ _ _ e=>absurd e (cT T)⟩,cT Q⟩
   .have e2:(s == z)=Wg:=Tt.2 L;have T:=cU L;clear I L;go_wp2;go_ret;exact⟨⟨Wg,O,λ_ _ e _=>absurd e (cT T)⟩,cT Q⟩
  .have e1:(o == y)=Wg:=Tt.2 I;have T:=cU I;clear I;go_wp2;go_ret;exact⟨⟨Wg,O,λ_ e _ _=>absurd e (cT T)⟩,cT Q⟩
theorem A6(o s i:Int)(p:Option Addr)(n k:Nat)(w:V5):V7 prog 14 #[Wc #[Z .u8 o,Z Y s,Z Y i,J p n k]] w λe A=>(∃b,e=Wd (Wa b)/\(o=0->s=0->i=0->n=0->b=We))/\V4 w A:=by
 have j:V4 w (w.alloc (D #[Z .u8 o,Z Y s,Z Y i,J p n k] 32)):=V3.alloc V2 _;have y:=cU j;by_cases l:o=0
 .have B:(o == 0)=We:=UH.2 l;by_cases m:s=0
  .have C:(s == 0)=We:=UH.2 m;by_cases u:i=0
   .have F:(i == 0)=We:=UH.2 u;by_cases z:n=0
    .have G:(((n:Nat):Int) == 0)=We:=UH.2 (by omega);clear l m u z j;go_enter func14,ntmps14;go_wp2;go_ret;exact⟨⟨We,O,λ_ _ _ _=>O⟩,cT y⟩
    .have G:(((n:Nat):Int) == 0)=Wg:=Tt.2 (by omega);have r:=cU z;clear l m u z j;go_enter func14,ntmps14;go_wp2;go_ret;exact⟨⟨Wg,O,λ_ _ _ e=>absurd e (cT r)⟩,cT y⟩
   .have F:(i == 0)=Wg:=Tt.2 u;have r:=cU u;clear l m u j;go_enter func14,ntmps14;go_wp2;go_ret;exact⟨⟨Wg,O,λ_ _ e _=>absurd e (cT r)⟩,cT y⟩
  .have C:(s == 0)=Wg:=Tt.2 m;have r:=cU m;clear l m j;go_enter func14,ntmps14;go_wp2;go_ret;exact⟨⟨Wg,O,λ_ e _ _=>absurd e (cT r)⟩,cT y⟩
 .have B:(o == 0)=Wg:=Tt.2 l;have r:=cU l;clear l j;go_enter func14,ntmps14;go_wp2;go_ret;exact⟨⟨Wg,O,λe _ _ _=>absurd e (cT r)⟩,cT y⟩
theorem IF(dp sv every:Nat)(w:V5)(h1:1<=every)(h2:every<=50)(A:dp<=4294967295)(I:sv<=1000000):V7 prog 15 #[Wc #[Z Y (dp:Int),Z Y (sv:Int)],Z Y (every:Int)] w λe B=>e=Wd (Z Y (fE dp sv every:Nat))/\V4 w B:=by
 by_cases y:sv=0
 .subst y;have l:Hid (V4 w (w.alloc (D #[Z Y (dp:Int),Z Y 0] 43))):=V3.alloc V2 _;have r:Hid (fE dp 0 every=dp):=by show _=_;unfold fE;rw[Tg rfl]
  show V7 prog 15 #[Wc #[Z Y (dp:Int),Z Y 0],Z Y (every:Int)] w _
  go_enter func15,ntmps15;go_wp2;go_ret;exact⟨by rw[cT r];rfl,cT l⟩
 .have K:((sv:Int) == 0)=Wg:=Tt.2 (by omega);have u:V4 w (w.alloc (D #[Z Y (dp:Int),Z Y (sv:Int)] 43)):=V3.alloc V2 _;have j:=Tk w (D #[Z Y (dp:Int),Z Y (sv:Int)] 43);have r:Hid (fE dp sv every=(dp/every+sv)*every):=by show _=_;unfold fE;rw[Tf y]
  have hd:(every:Int)≠0:=by omega
  have L:(dp:Int).tdiv (every:Int)=((dp/every:Nat):Int):=by rw[Int.tdiv_eq_ediv_of_nonneg (by omega)];rfl
  have C:dp/every<=4294967295:=To (Nat.div_le_self _ _) A;have M:(dp/every+sv)*every<=4295967295*50:=Nat.mul_le_mul (by omega) h2;generalize dp/every=q at *;have hmul:((q+sv:Nat):Int)*(every:Int)=(((q+sv)*every:Nat):Int):=by rw[Int.natCast_mul]
  generalize (q+sv)*every=m at *;have P:IntKind.i64.wrap (q:Int)=(q:Int):=by rw[TJ];omega
  have Q:IntKind.i64.wrap ((q:Int)+(sv:Int))=((q+sv:Nat):Int):=by rw[TJ];omega
  have w3:IntKind.i64.wrap (m:Int)=(m:Int):=by rw[TJ];omega
  generalize F:w.alloc (D #[Z Y (dp:Int),Z Y (sv:Int)] 43)=z at *;have R:z.cell? ⟨N (E w),0,U⟩=S (Z Y (dp:Int)):=by simp[Wj,j]
  have T:z.cell? ⟨N (E w),1,U⟩=S (Z Y (sv:Int)):=by simp[Wj,j]
  have l:=cU u;go_enter func15,ntmps15;go_wp2_with fail
  go_quiet (fail)
  go_wp2;go_ret;have G:wrap64 (m:Int)=(m:Int):=by first|exact w3|(unfold wrap64;omega)
  have b:((q:Int)+(sv:Int))*(every:Int)=(m:Int):=by rw[<-hmul,Int.natCast_add]
  refine⟨?_,(cT l).trans ((below_drewN _ _).mono (cT l).size)⟩;rw[cT r]
  show Ending.returned (Z Y (wrap64 (((q:Int)+(sv:Int))*(every:Int))))=_
  rw[b,G]
end Hl
namespace Hl
open Rd (Rk)
open Dk (Kept dy)
open Pk (om gj jd fx Sm ly ng cX di)
open Ru (pQ jG pS mX C9 fN nV iX)
structure Env (w:V5) (z f:Addr):Prop where
 L6:Lib.Utf8Tabs 3 4 w
 comp:lL w
 De:j6 w z f
 pow:fN w
variable {f z:Addr}{w w0:V5}
theorem Env.base(h:Env w0 z f)(hb:V4 w0 w): Env w z f:=⟨eN h.L6 hb,h.comp.below hb,h.De.below hb,h.pow.below hb⟩
theorem Env.lt(h:Env w z f): ∀k,(k=1\/k=2\/k=z.block\/k=f.block\/k=6)->k<N (E w):=by
 rintro k (rfl|rfl|rfl|rfl|rfl)
 .exact h.De.lz
 .exact h.De.lf
 .obtain⟨c,t,b⟩:=h.De.bz;exact cX b
 .obtain⟨c,t,b⟩:=h.De.bf;exact cX b
 .exact h.pow.lt
variable {R R':Rk}
theorem zr{b E j:Nat}{Q:Rk}{O:Nat->Prop}(h:jd w b E Q R O): jd w b j Q R' O:=by
 obtain⟨d,e,l,m,r,u,y,C,A,B⟩:=h;exact⟨d,e,l,m,r,u,y,trivial,A,B⟩
structure Dw (w0 w:V5) (D:Nat) (R:Rk) (O:Nat->Prop):Prop where
 two:jd w D 0 R R O
 own:∀k,O k->N (E w0)<=k
 base:V4 w0 w
variable {w':V5}{O':Nat->Prop}
theorem Dw.step{b:Nat}{O:Nat->Prop}(h:Dw w0 w b R O)(h2:jd w' b 0 R' R' O')(j:fx w O w' O'): Dw w0 w' b R' O':=by
 have m:=h.base.size;refine⟨h2,λk l=>?_,⟨j.kept.os.trans h.base.os,j.kept.tape.trans h.base.tape,j.kept.output.trans h.base.output,To m j.kept.size,λk l=>?_⟩⟩
 .rcases j.own k l with e|e
  .exact h.own k e
  .omega
 .rw[j.kept.block k (by omega) (λr=>by have:=h.own k r;omega),h.base.block k l]
theorem Dw.below{b:Nat}{O:Nat->Prop}(h:Dw w0 w b R O)(hb:V4 w w'): Dw w0 w' b R O:=h.step (h.two.below hb) (fx.below O hb)
theorem Dw.blk{b:Nat}{O:Nat->Prop}(h:Dw w0 w b R O)(j:fx w O w' O'){k:Nat}{c:Array V6}{t:Nat}(e:w.heap[k]?=S (D c t (0,0)))(ht:t∉iX): w'.heap[k]?=S (D c t (0,0)):=(j.far (cX e) (nV h.two e ht)).1.trans e
variable {v:V6}
theorem Dw.row{b:Nat}{O:Nat->Prop}(h:Dw w0 w b R O)(m:fx w O w' O'){B e s n:Nat}{j:List V6}(l:w.ownsRow B e s v n j)(he:e∉iX): w'.ownsRow B e s v n j:=dy l m.kept λg r=>by obtain⟨c,u,_⟩:=di l r;exact nV h.two u he
def Pr(w0 w:V5)(b:Nat)(g p:V8)(j c1 c2:Int)(R:Rk)(O:Nat->Prop)(e:Ending)(w':V5):Prop:=Small g/\∃q m k O',e=Wd (mX (jG g p j c1 c2 R).res.outcome (jG g p j c1 c2 R).res.step (jG g p j c1 c2 R).res.dG q m k (pS g p j c1 c2 R) (jG g p j c1 c2 R).saved (jG g p j c1 c2 R).e)/\w'.ownsRow (N (E w)) 2 1 (J q m k) (jG g p j c1 c2 R).res.dJ.length ((jG g p j c1 c2 R).res.dJ.map (Z Y))/\Dw w0 w' b (jG g p j c1 c2 R).R O'/\fx w O w' O'
theorem qm{b nn:Nat}{O:Nat->Prop}(h:Dw w0 w b R O)(he:Env w0 z f)(A:Sm R nn 1000)(B:nn+2000<=1000000000)(g p:V8)(C:g.size<=1048576)(F:p.size<=1048576)(u c1 c2:Int):V7 prog 12 #[V9 (S ⟨b,0,U⟩),H g,H p,Wc #[Z Y u,Z Y c1,Z Y c2]] w (Pr w0 w b g p u c1 c2 R O):=by
 have r:=he.base h.base;refine(Ru.BF b 0 nn 1000 R R O g p u c1 c2 z f w h.two A B V2 (by omega) C F r.L6 r.comp r.De r.pow (λk G I=>?_)).mono ?_
 .have:=he.lt k G;have:=h.own k I;omega
 .rintro e w' ⟨y,⟨q,m,k,rfl,j⟩,O',K,l⟩;exact⟨y,q,m,k,O',rfl,j,h.step (zr K) l,l⟩
theorem EC(w0 w:V5)(hb:V4 w0 w)(q:Int):V7 prog 6 #[Z Y q] w λe w'=>e=Wd (V9 (S ⟨N (E w)+1,0,U⟩))/\V4 w w'/\∃b,Dw w0 w' (N (E w)+1) ⟨[],[],[],q,-1,Wg⟩ b:=by
 refine(Pk.Ci q w).mono ?_;rintro e w' ⟨rfl,j,hd⟩;obtain⟨b,l,m⟩:=Pk.om.new j hd;have:=hb.size;exact⟨O,j,b,l,λk r=>by have:=m k r;omega,hb.trans (j.mono hb.size)⟩
structure FM (w0 w:V5) (D:Nat) (R:Rk) (O:Nat->Prop) (CB WB:Nat) (cc wc:Array V6) (v:V6) (xs:List Int):Prop where
 d:Dw w0 w D R O
 cb:w.heap[CB]?=S (.cells cc 23 (0,0))
 wb:w.heap[WB]?=S (.cells wc 32 (0,0))
 row:w.ownsRow 0 2 1 v (Wn xs) (xs.map (Z Y))
theorem FM.step{b:Nat}{O:Nat->Prop}{j l:Nat}{m wc:Array V6}{r:List Int}(h:FM w0 w b R O j l m wc v r)(h2:Dw w0 w' b R' O')(e:fx w O w' O'): FM w0 w' b R' O' j l m wc v r:=⟨h2,h.d.blk e h.cb (by decide),h.d.blk e h.wb (by decide),h.d.row e h.row (by decide)⟩
theorem FM.below{b:Nat}{O:Nat->Prop}{e j:Nat}{l wc:Array V6}{m:List Int}(h:FM w0 w b R O e j l wc v m)(hb:V4 w w'): FM w0 w' b R O e j l wc v m:=h.step (h.d.below hb) (fx.below O hb)
def Sc(w:V5)(p:Option Addr)(n:Nat)(Q:Nat->Int):Prop := ∀j,j<n->∃g o,p=S ⟨g,o,U⟩/\g<N (E w)/\w.cell? ⟨g,o+j,U⟩=S (Z Y (Q j))
theorem oD{B n:Nat}{V:List Int}{q:Option Addr}{m k:Nat}(h:w.ownsRow B 2 1 (J q m k) n (V.map (Z Y)))(b:n=Wn V): m=Wn V/\fG w Y q V:=by
 subst b;obtain⟨j,l,e,hi⟩:=mP h;injection e with e1 e2 _;exact⟨e2,by rw[e1];exact hi⟩
end Hl
namespace Hl
open Rd (Rk)
open Pk (Sm gG cX)
open Ru (jG pS mX)
theorem G9(w:V5)(z f:Addr)(he:Env w z f):V7 prog 5 #[] w λe w'=>e=Wd (Wa We)/\V4 w w':=by
 have HE:=cU he;clear he;go_enter func5,ntmps5;go_wp2_with fail;refine(Gu _).mono ?_;rintro e w1 ⟨rfl,B⟩;obtain rfl:=B.symm;clear B;go_wp2_with fail;refine(EC w w (Th _ _) _).mono ?_;rintro e w2 ⟨rfl,C,l,L⟩;have HD:=cU L;have M:=cU C;have F:=cU (qm (nn:=0) L (cT HE) ((KX _).mono V2 (by omega)) (by omega) g0 fq (by decide) (by rw[G3];omega) 1 1 10);clear L C;go_wp2_with fail;refine(cT F).mono ?_;clear F;rintro e w3 ⟨u,q,m,k,O',rfl,y,G,P⟩;have t:pS g0 fq 1 1 10 ⟨[],[],[],1099511627776,-1,Wg⟩=0:=(Ff u).1;have s:(jG g0 fq 1 1 10 ⟨[],[],[],1099511627776,-1,Wg⟩).e=0:=(Ff u).2.1;have Q:(jG g0 fq 1 1 10 ⟨[],[],[],1099511627776,-1,Wg⟩).res=⟨1,3,0,[0,3,1,1000000000]⟩:=(Ff u).2.2.1;have p:(jG g0 fq 1 1 10 ⟨[],[],[],1099511627776,-1,Wg⟩).saved=2:=(Ff u).2.2.2;rw[Q] at y;unfold mX;rw[t,s,Q,p];obtain⟨R,o⟩:=oD (V:=[0,3,1,1000000000]) y rfl;have R:m=4:=R;subst R;have HI:=cU o;have I:Hid (V4 w w3):=G.base;clear G P y o u t s Q p HD M;go_wp2_with fail;have A:V4 w3 (((w3.alloc (D #[Z .u8 1,Z Y 3,Z Y 0,J q 4 k] 32)).alloc (D #[Z Y 0,Z Y 2] 43)).alloc (D #[Z Y 0,Z Y 3,Z Y 1,Z Y 1000000000] 2)):=((V3.alloc V2 _).alloc (by simp) _).alloc (by simp;omega) _;have r:=Tk ((w3.alloc (D #[Z .u8 1,Z Y 3,Z Y 0,J q 4 k] 32)).alloc (D #[Z Y 0,Z Y 2] 43)) (D #[Z Y 0,Z Y 3,Z Y 1,Z Y 1000000000] 2);rw[TK,TK] at r;generalize hW:Wl (Wl (Wl _ _) _) _=W at *;have g:fG W Y (S ⟨N (E w3)+1+1,0,U⟩) [0,3,1,1000000000]:=λj hj=>by
  refine⟨_,O,cX r,?_⟩;have aa:j<4:=hj;have:j=0\/j=1\/j=2\/j=3:=by omega
  rcases this with rfl|rfl|rfl|rfl <;> simp[Wj,r]
 refine(B6 q (S ⟨N (E w3)+1+1,0,U⟩) k 4 [0,3,1,1000000000] [0,3,1,1000000000] W ((cT HI).below A) g (by decide)).mono ?_;rintro e w4 ⟨⟨b,rfl,hb⟩,K⟩;have T:b=We:=hb O;subst T;have X:Hid (V4 w w4):=(cT I).trans ((A.trans (K.mono A.size)).mono (cT I).size);clear hb K g r A hW;go_wp2;go_ret;exact⟨O,cT X⟩
end Hl
namespace Hl
open Go.ChangeShapes Go.WideShapes Go.ChangeAt Go.RowKit
open Go.ChangeMaps (open_string shut_string)
theorem td:prog.cellsOf 3=1:=by kernel_rfl
theorem Mh:prog.cellsOf 39=1:=by kernel_rfl
theorem MR:prog.cellsOf 23=3:=by kernel_rfl
theorem se{x:Int}(h:(Lit.int .i64 x).wf=true): -9223372036854775808<=x/\x<=9223372036854775807:=by
 simpa [Lit.wf,IntKind.min,IntKind.max,IntKind.signed,IntKind.bits] using h
theorem uS:∃b e j:Field,prog.underlying 23=some (.struct #[b,e,j])/\b.type=3/\e.type=3/\j.type=3/\b.offset=0/\e.offset=1/\j.offset=2:=⟨_,_,_,underlying23,rfl,rfl,rfl,rfl,rfl,rfl⟩
section
variable {H : Type} {enc : TypeId × Value → H} {w : World}
theorem Ao{a:Addr}{v:V6}(h:w.cell? a=some v):a.spot=none/\a.block<w.heap.size:=by
 refine⟨?_,Tu w _ h⟩;unfold World.cell? at h;split at h
 .split at h
  .cases h
  .rename_i b;cases e:a.spot with
   |none=>rfl
   |some z=>simp[e] at b
 .cases h
theorem Lu{e:Nat}{cs:List V6}{x:DataW H × List MemPlace}(h:DataW.trod enc prog w 0 (λ_=>true) true e 23 cs=some x):∃a b c,cs=[.int .i64 a,.int .i64 b,.int .i64 c]/\(-9223372036854775808<=a/\a<=9223372036854775807)/\(-9223372036854775808<=b/\b<=9223372036854775807)/\(-9223372036854775808<=c/\c<=9223372036854775807):=by
 obtain⟨C,F,G,hu,I,K,L,M,P,Q⟩:=uS;obtain⟨R,n,_,rfl,m,j,l⟩:=DataW.trod_struct hu h;rw[MR] at m
 match R,j with
 |[T,V,W],_ =>
  have r:=l 0 C rfl;have u:=l 1 F rfl;have y:=l 2 G rfl;rw[I,M,td] at r;rw[K,P,td] at u;rw[L,Q,td] at y;obtain⟨a,z,rfl,X⟩:=DataW.trod_int underlying3 (x:=T) (by simpa using r);obtain⟨b,A,rfl,k⟩:=DataW.trod_int underlying3 (x:=V) (by simpa using u);obtain⟨c,B,rfl,q⟩:=DataW.trod_int underlying3 (x:=W) (by simpa using y)
  match cs,m with
  |[c0,c1,c2],_ =>
   simp at z A B;subst z A B;exact⟨a,b,c,rfl,se X,se k,se q⟩
theorem Hp(k:IntKind)(b:List Int):Rows.uptoBulkAll (lits (H:=H) k b)=b.length:=by
 unfold lits
 induction b with
 |nil=>rfl
 |cons z r e=>simp only[Uj,Rows.uptoBulkAll,Tr,e,Rows.uptoBulk];omega
theorem I3{l:Nat}{cs:List V6}{x:DataW H × List MemPlace}(h:DataW.trod enc prog w 0 (λ_=>true) true l 39 cs=some x):∃p n c K,cs=[.slice p n c]/\Sc w p n K/\(∀j,j<n->-9223372036854775808<=K j/\K j<=9223372036854775807)/\n+1<=Rows.uptoBulk x.1:=by
 rcases open_ints underlying39 underlying3 td h with ⟨e,z⟩|⟨a,m,r,y,e,_,M,P,F,z,b,A⟩
 .exact⟨none,0,0,λ_=>0,e,λj B=>(by omega),λj B=>(by omega),by rw[z];simp[Rows.uptoBulk]⟩
 .simp only[TY] at F;refine⟨some a,m,r,λj=>y.getD j 0,e,λj B=>?_,λj B=>?_,?_⟩
  .have G:=b j (by omega);have C:=Ao (b 0 (by omega));obtain⟨g,o,sp⟩:=a;simp[Addr.add] at C;obtain⟨rfl,I⟩:=C;have u:j<y.length:=by omega
   refine⟨g,o,rfl,I,?_⟩;have L:(⟨g,o,none⟩:Addr).add j=⟨g,o+j,none⟩:=by
    unfold Addr.add;split <;> simp_all
   rw[<-L];exact G
  .have u:j<y.length:=by omega
   exact se (A (y.getD j 0) (by rw[Ty,Tw u];exact Uc _))
  .rw[z];simp only[Rows.uptoBulk,Hp,Uz,Us];omega
end
end Hl
end Go.Proofs.YtgkkdpegcieakaaGreatDoor
