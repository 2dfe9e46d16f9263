import Derived.Test.YtgkkdpegcieakaaGreatDoorCzL
import Derived.Test.YtgkkdpegcieakaaGreatDoorCz01
import Derived.Test.YtgkkdpegcieakaaGreatDoorCz09
import Derived.Test.YtgkkdpegcieakaaGreatDoorCz13
set_option linter.unusedVariables false
set_option linter.unusedSimpArgs false
set_option maxRecDepth 100000
set_option maxHeartbeats 16000000
namespace Go.Proofs.YtgkkdpegcieakaaGreatDoor
open Go.Proofs.Tryz
open Value renaming int→Z
open IntKind renaming i64→Y
open Go renaming World→TJ,Value→TK,Calls→TL
namespace Hl
open Go.RowKit
theorem zt{a:Int}{n:Nat}(ha:0<=a)(b:0<n):∃r:Nat,a.tmod (n:Int)=(r:Int)/\r<n:=by
 have e:=Int.tmod_nonneg (n:Int) ha;have j:=Int.tmod_lt_of_pos a (show (0:Int)<(n:Int) by omega);exact⟨(a.tmod (n:Int)).toNat,by omega,by omega⟩
def pk(c:Int)(n:Nat):Nat:=((if c<0 then -(c+1) else c).tmod (n:Int)).toNat
theorem xR(c:Int){n:Nat}(b:0<n):pk c n<n:=by
 unfold pk;obtain⟨r,e,j⟩:=zt (a:=if c<0 then -(c+1) else c) (n:=n) (by split <;> omega) b;omega
theorem CI(c:Int)(n:Nat)(w:TJ)(h1 : -9223372036854775808<=c)(h2:c<=9223372036854775807)(y:0<n)(z:n<=9223372036854775807):TL prog 11 #[Z Y c,Z Y n] w λe A=>e=.returned (Z Y (pk c n))/\A=w:=by
 by_cases l:c<0
 .obtain⟨r,b,m⟩:=zt (a := -(c+1)) (n:=n) (by omega) y;have u:=cP b;have j:Hid (pk c n=r):=by show _=_;unfold pk;rw[cg l,b];exact Qq r
  clear b;go_enter func11,ntmps11;go_wp2;go_ret;exact⟨by rw[cO j];have h:=cO u;rw[Int.neg_tmod] at h;rw[h];rfl,rfl⟩
 .obtain⟨r,b,m⟩:=zt (a:=c) (n:=n) (by omega) y;have u:=cP b;have j:Hid (pk c n=r):=by show _=_;unfold pk;rw[cd l,b];exact Qq r
  clear b;go_enter func11,ntmps11;go_wp2;go_ret;exact⟨by rw[cO j];have h:=cO u;rw[Int.tmod_eq_emod_of_nonneg l] at h;rw[h];rfl,rfl⟩
def Iw(Q:Exit->Act->TJ->Prop):Exit->Act->TJ->Prop
 |.panic _,_,_=>False
 |.normal,a,w=>Q .normal a w
 |.ret,a,w=>Q .ret a w
 |.exit n,a,w=>Q (.exit n) a w
 |.goto n,a,w=>Q (.goto n) a w
 |.outgrown,a,w=>Q .outgrown a w
theorem Bf{Q:Exit->Act->TJ->Prop}:∀e a w,Iw Q e a w->Q e a w:=λe a w h=>by
 cases e <;> first|exact h|exact h.elim
theorem Hd{P:Program}{c:Code}{Q:Exit->Act->TJ->Prop}{a:Act}{w:TJ}(R:TJ->Prop)(h:∃A,c.wp P (Iw λx j b=>x=.normal/\j=A/\R b) a w/\∀b,R b->Q .normal A b):c.wp P Q a w:=by
 obtain⟨A,l,m⟩:=h;refine Code.wp_mono (λe a w h=>?_) l;obtain⟨rfl,rfl,r⟩:=Bf _ _ _ h;exact m _ r
theorem JU(l c1 c2:Int)(w:TJ)(O : -9223372036854775808<=l/\l<=9223372036854775807)(h1 : -9223372036854775808<=c1/\c1<=9223372036854775807)(h2 : -9223372036854775808<=c2/\c2<=9223372036854775807):TL prog 7 #[.agg #[Z Y l,Z Y c1,Z Y c2]] w λe u=>e=.returned (.agg #[Z Y ((pk l 50+1:Nat):Int),Z Y ((pk c1 5+1:Nat):Int),Z Y (pk c2 201:Nat)])/\TI w u:=by
 have D:∀j,TL prog 11 #[Z Y l,Z Y 50] j λe u=>e=.returned (Z Y (pk l 50))/\u=j:=λj=>CI l 50 j O.1 O.2 (by omega) (by omega)
 have E:∀j,TL prog 11 #[Z Y c1,Z Y 5] j λe u=>e=.returned (Z Y (pk c1 5))/\u=j:=λj=>CI c1 5 j h1.1 h1.2 (by omega) (by omega)
 have F:∀j,TL prog 11 #[Z Y c2,Z Y 201] j λe u=>e=.returned (Z Y (pk c2 201))/\u=j:=λj=>CI c2 201 j h2.1 h2.2 (by omega) (by omega)
 have l0:=xR l (n:=50) (by omega);have l1:=xR c1 (n:=5) (by omega);have l2:=xR c2 (n:=201) (by omega);generalize pk l 50=a at *;generalize pk c1 5=b at *;generalize pk c2 201=c at *;have K:=cP D;have L:=cP E;have M:=cP F;clear D E F;have B:Hid (∀(args:Array TK) (w:TJ),(callFunc 11 args).run prog w=.ok (.enter 11 args) w):=cV func11 (by kernel_rfl) (by kernel_rfl);go_enter func7,ntmps7;go_upto_region 1 with (fail)
 have z:((w.alloc (.cells #[Z Y l,Z Y c1,Z Y c2] 23)).alloc (.cells #[Z Y 0,Z Y 0,Z Y 0] 23)).heap[w.heap.size]?=some (.cells #[Z Y l,Z Y c1,Z Y c2] 23 (0,0)):=by
  rw[cN _ _ _ (by simp)];exact ct w _
 have m:((w.alloc (.cells #[Z Y l,Z Y c1,Z Y c2] 23)).alloc (.cells #[Z Y 0,Z Y 0,Z Y 0] 23)).heap[w.heap.size+1]?=some (.cells #[Z Y 0,Z Y 0,Z Y 0] 23 (0,0)):=by
  have h:=ct (w.alloc (.cells #[Z Y l,Z Y c1,Z Y c2] 23)) (.cells #[Z Y 0,Z Y 0,Z Y 0] 23);simpa using h
 have N:TI w ((w.alloc (.cells #[Z Y l,Z Y c1,Z Y c2] 23)).alloc (.cells #[Z Y 0,Z Y 0,Z Y 0] 23)):=(TH.alloc TG _).alloc (by simp) _;generalize S:World.alloc (World.alloc _ _) _=y at *;have T:y.cell? ⟨w.heap.size,0,none⟩=some (Z Y l):=by simp[World.cell?,z]
 have U:y.cell? ⟨w.heap.size,1,none⟩=some (Z Y c1):=by simp[World.cell?,z]
 have V:y.cell? ⟨w.heap.size,2,none⟩=some (Z Y c2):=by simp[World.cell?,z]
 have W:y.cell? ⟨w.heap.size+1,0,none⟩=some (Z Y 0):=by simp[World.cell?,m]
 have X:y.cell? ⟨w.heap.size+1,1,none⟩=some (Z Y 0):=by simp[World.cell?,m]
 have q:y.cell? ⟨w.heap.size+1,2,none⟩=some (Z Y 0):=by simp[World.cell?,m]
 have t:y.frozen? ⟨w.heap.size+1,0,none⟩=false:=by simp[World.frozen?,m]
 have s:y.frozen? ⟨w.heap.size+1,1,none⟩=false:=by simp[World.frozen?,m]
 have p:y.frozen? ⟨w.heap.size+1,2,none⟩=false:=by simp[World.frozen?,m]
 clear S;have G:=cA _ _ 0 _ _ (Z Y (IntKind.i64.wrap ((a:Int)+1))) m;have H:=cA _ _ 1 _ _ (Z Y (IntKind.i64.wrap ((b:Int)+1))) G;have I:=cA _ _ 2 _ _ (Z Y (c:Int)) H;have J:TI w (((y.setCell ⟨w.heap.size+1,0,none⟩ (Z Y (IntKind.i64.wrap ((a:Int)+1)))).setCell ⟨w.heap.size+1,1,none⟩ (Z Y (IntKind.i64.wrap ((b:Int)+1)))).setCell ⟨w.heap.size+1,2,none⟩ (Z Y (c:Int))).drew:=(((N.setCell (by simp) _).setCell (by simp) _).setCell (by simp) _).drew;apply Hd (λu=>u=(((y.setCell ⟨w.heap.size+1,0,none⟩ (Z Y (IntKind.i64.wrap ((a:Int)+1)))).setCell ⟨w.heap.size+1,1,none⟩ (Z Y (IntKind.i64.wrap ((b:Int)+1)))).setCell ⟨w.heap.size+1,2,none⟩ (Z Y (c:Int))).drew);refine⟨{ tmps := #[.agg #[Z Y l,Z Y c1,Z Y c2],.pointer (some ⟨w.heap.size,0,none⟩),.pointer (some ⟨w.heap.size+1,0,none⟩),.pointer (some ⟨w.heap.size,0,none⟩),Z Y l,Z Y (a:Int),Z Y (IntKind.i64.wrap ((a:Int)+1)),.pointer (some ⟨w.heap.size,1,none⟩),Z Y c1,Z Y (b:Int),Z Y (IntKind.i64.wrap ((b:Int)+1)),.pointer (some ⟨w.heap.size,2,none⟩),Z Y c2,Z Y (c:Int),.agg #[Z Y (IntKind.i64.wrap ((a:Int)+1)),Z Y (IntKind.i64.wrap ((b:Int)+1)),Z Y (c:Int)]],defers:=[] },?left,?right⟩
 case left=>as_aux_lemma =>
  go_region_law (first
  |(refine di (by rfl) _ _ _ (by rfl) 11 (by rfl) _ (by rfl) (cO B) (cO K _) ?_;rintro e P ⟨rfl,r⟩;obtain rfl:=r.symm;clear r;dsimp only)
  |(refine di (by rfl) _ _ _ (by rfl) 11 (by rfl) _ (by rfl) (cO B) (cO L _) ?_;rintro e P ⟨rfl,r⟩;obtain rfl:=r.symm;clear r;dsimp only)
  |(refine di (by rfl) _ _ _ (by rfl) 11 (by rfl) _ (by rfl) (cO B) (cO M _) ?_;rintro e P ⟨rfl,r⟩;obtain rfl:=r.symm;clear r;dsimp only))
  all_goals exact⟨rfl,rfl,rfl⟩
 case right =>
 rintro u C;have A:u.heap[w.heap.size+1]?=some (.cells #[Z Y (IntKind.i64.wrap ((a:Int)+1)),Z Y (IntKind.i64.wrap ((b:Int)+1)),Z Y (c:Int)] 23 (0,0)):=by rw[C];exact I
 rw[<-C] at J;have Q:u.cell? ⟨w.heap.size+1,0,none⟩=some (Z Y (IntKind.i64.wrap ((a:Int)+1))):=by simp[World.cell?,A]
 have R:u.cell? ⟨w.heap.size+1,1,none⟩=some (Z Y (IntKind.i64.wrap ((b:Int)+1))):=by simp[World.cell?,A]
 have o:u.cell? ⟨w.heap.size+1,2,none⟩=some (Z Y (c:Int)):=by simp[World.cell?,A]
 have g:IntKind.i64.wrap ((a:Int)+1)=((a+1:Nat):Int):=by rw[fp];omega
 have eb:IntKind.i64.wrap ((b:Int)+1)=((b+1:Nat):Int):=by rw[fp];omega
 rw[g] at Q;rw[eb] at R;clear C G H I A T U V W X q t s p z m;go_wp2;exact cr (v := .agg #[Z Y ((a+1:Nat):Int),Z Y ((b+1:Nat):Int),Z Y (c:Int)]) (by simp[results,results7,go_sem,Q,R,o]) rfl ⟨rfl,J⟩
theorem zK(p B:Option Addr)(k C:Nat)(U V:List Int)(w:TJ)(h:fF w Y p U)(D:fF w Y B V)(J:U.length<=100000000):TL prog 20 #[.slice p U.length k,.slice B V.length C] w λe E=>(∃b,e=.returned (.bool b)/\(U=V->b=true))/\TI w E:=by
 by_cases l:U.length=V.length
 .have F:(((U.length:Nat):Int) != ((V.length:Nat):Int))=false:=by rw[l];simp
  go_enter func20,ntmps20;go_wp2
  go_loopw [5] (λi wr=>∃k:Nat,k<=U.length/\i=Z Y k/\TI w wr) (λi _=>U.length-(intOf i).toNat)
  case atStart=>exact⟨0,cy _,rfl,cj _ _⟩
  case round =>
   obtain⟨j,K,rfl,m⟩:=hrel;by_cases A:j<U.length
   .have y:j<V.length:=by omega
    obtain⟨g,rfl,_,c⟩:=(h.below m) j A;obtain⟨L,rfl,_,M⟩:=(D.below m) j y;have G:(0:Int)<=(j:Int):=iJ _;have H:(j:Int)<(U.length:Int):=by omega
    have I:(j:Int)<(V.length:Int):=by omega
    by_cases r:U[j]=V[j]
    .have z:(U[j] != V[j])=false:=by rw[r];simp
     go_wp2_with fail
     go_quiet (fail)
     go_wp2;go_roundw
     case rel=>exact⟨j+1,by omega,by go_num,m.trans ((below_drewN _ _).mono m.size)⟩
     case measure=>simp[intOf];omega
    .have z:(U[j] != V[j])=true:=by simpa using r
     have u:Hid (U≠V):=λe=>r (by simp only[e])
     go_wp2_with fail
     go_quiet (fail)
     go_wp2;go_ret;exact⟨⟨false,rfl,λe=>absurd e (cO u)⟩,m.trans ((below_drewN _ _).mono m.size)⟩
   .obtain rfl:j=U.length:=by omega
    go_wp2;go_ret;exact⟨⟨true,rfl,λ_=>rfl⟩,m⟩
 .have F:(((U.length:Nat):Int) != ((V.length:Nat):Int))=true:=by simp;omega
  have u:Hid (U≠V):=λe=>l (by rw[e])
  go_enter func20,ntmps20;go_wp2;go_ret;exact⟨⟨false,rfl,λe=>absurd e (cO u)⟩,cj _ _⟩
end Hl
end Go.Proofs.YtgkkdpegcieakaaGreatDoor
