import Derived.Test.YtgkkdpegcieakaaGreatDoorCv02
set_option linter.all false
set_option maxRecDepth 100000
set_option maxHeartbeats 0
namespace Go.Proofs.YtgkkdpegcieakaaGreatDoor
open Go.Proofs.Tryz
open Value renaming int→Z,slice→J,tuple→Wb
open Ending renaming returned→Wd
open Option renaming none→U,some→S
open Bool renaming true→We,false→Wg
open Or renaming inl→Wh,inr→Wi
open List renaming length→Wn
open IntKind renaming i64→Y
open Go renaming World→V5,Value→V6,Calls→V7
open Go.RowKit
theorem ky(x:Int)(w:V5):V7 prog 160 #[Z Y x] w λe b=>e=Wd (.bool Wg)/\b=w:=by
 have h:(x != x)=Wg:=by simp
 go_enter func160,ntmps160;go_wp2;go_ret;exact⟨O,O⟩
theorem oL(x y:Int)(w:V5):V7 prog 108 #[Z Y x,Z Y y] w λe j=>e=Wd (Z Y (lD x y))/\j=w:=by
 rcases Int.lt_trichotomy x y with h|h|h
 .have b:lD x y = -1:=Tg h;rw[b];clear b;go_enter func108,ntmps108;go_wp2_with (go_at_call 160;refine(ky _ _).mono ?_;rintro e j ⟨rfl,rfl⟩);go_ret;exact⟨O,O⟩
 .subst h;have b:lD x x=0:=by simp[lD]
  rw[b];clear b;have m:¬x<x:=Int.lt_irrefl x;go_enter func108,ntmps108;go_wp2_with (go_at_call 160;refine(ky _ _).mono ?_;rintro e j ⟨rfl,rfl⟩);go_ret;exact⟨O,O⟩
 .have l:¬x<y:=by omega
  have b:lD x y=1:=by unfold lD;rw[Tf l,Tg h]
  rw[b];clear b;go_enter func108,ntmps108;go_wp2_with (go_at_call 160;refine(ky _ _).mono ?_;rintro e j ⟨rfl,rfl⟩);go_ret;exact⟨O,O⟩
def PY(x y:Int):Int:=if x=0 then y else x
theorem OK(g:Nat)(x y:Int)(w:V5)(C:w.cell? ⟨g,0,U⟩=S (Z Y x))(h1:w.cell? ⟨g,1,U⟩=S (Z Y y)):V7 prog 107 #[J (S ⟨g,0,U⟩) 2 2] w λe A=>e=Wd (Z Y (PY x y))/\A=w:=by
 go_enter func107,ntmps107;go_wp2
 go_loopw [8] (λi wr=>wr=w/\(i=Z Y 0\/(i=Z Y 1/\Hid (x=0))\/(i=Z Y 2/\Hid (x=0)/\Hid (y=0)))) (λi _=>2-(intOf i).toNat)
 case atStart=>exact⟨rfl,Wh rfl⟩
 case round =>
  obtain⟨rfl,B⟩:=hrel;rcases B with rfl|⟨rfl,b⟩|⟨rfl,b,r⟩
  .by_cases j:x=0
   .have b:=cU j;have u:(x != 0)=Wg:=by simp[j]
    clear j;go_wp2;go_roundw
    case rel=>exact⟨by trivial,Wi (Wh ⟨rfl,b⟩)⟩
    case measure=>simp[intOf]
   .have u:(x != 0)=We:=by simp[j]
    have l:Hid (PY x y=x):=Tf j;clear j;go_wp2;go_ret;exact⟨by rw[cT l];rfl,O⟩
  .have l:Hid (PY x y=y):=Tg (cT b);by_cases m:y=0
   .have r:=cU m;have z:(y != 0)=Wg:=by simp[m]
    clear m;go_wp2;go_roundw
    case rel=>exact⟨by trivial,Wi (Wi ⟨rfl,b,r⟩)⟩
    case measure=>simp[intOf]
   .have z:(y != 0)=We:=by simp[m]
    clear m;go_wp2;go_ret;exact⟨by rw[cT l];rfl,O⟩
  .have l:Hid (PY x y=0):=(Tg (cT b)).trans (cT r);go_wp2;go_ret;exact⟨by rw[cT l];rfl,O⟩
def JU(e:Sp.Ed):V6 := .agg #[Z Y (e.dp:Int),Z Y (e.cS:Int),Z Y e.n]
def zi(a b:Sp.Ed):Int:=PY (lD a.dp b.dp) (lD a.cS b.cS)
theorem JY(a b:Sp.Ed):zi a b<0↔(a.dp<b.dp\/(a.dp=b.dp/\a.cS<b.cS)):=by
 unfold zi PY lD
 repeat' split
 all_goals omega
theorem xI(W:V5)(x y:V6)(e n:Nat)(b:n=W.heap.size):(W.alloc (.cells #[x,y] e)).cell? ⟨n,0,U⟩=S x/\(W.alloc (.cells #[x,y] e)).cell? ⟨n,1,U⟩=S y:=by
 subst b;exact⟨Ti _ _ 0 _ _ _ (Tk W _),Ti _ _ 1 _ _ _ (Tk W _)⟩
theorem OA(W:V5)(n:Nat)(b:n=W.heap.size)(x y:Int):V7 prog 107 #[J (S ⟨n,0,U⟩) 2 2] (W.alloc (.cells #[Z Y x,Z Y y] 3)).drew λe j=>e=Wd (Z Y (PY x y))/\j=(W.alloc (.cells #[Z Y x,Z Y y] 3)).drew:=OK n x y _ (xI W _ _ _ n b).1 (xI W _ _ _ n b).2
theorem gD(a b:Sp.Ed)(w:V5):V7 prog 106 #[JU a,JU b] w λe j=>e=Wd (Z Y (zi a b))/\V4 w j:=by
 unfold JU;unfold zi;generalize ((a.dp:Nat):Int)=m at *;generalize ((a.cS:Nat):Int)=r at *;generalize ((b.dp:Nat):Int)=u at *;generalize ((b.cS:Nat):Int)=y at *;go_enter func106,ntmps106;go_wp2_with fail
 go_region_held3 (λj=>(j.cell? ⟨w.heap.size,0,U⟩=S (Z Y m)/\j.cell? ⟨w.heap.size,1,U⟩=S (Z Y r))/\(j.cell? ⟨w.heap.size+1,0,U⟩=S (Z Y u)/\j.cell? ⟨w.heap.size+1,1,U⟩=S (Z Y y)))
  (go_keep)
  (first|(go_at_call 108;refine(oL _ _ _).mono ?_;rintro e j ⟨rfl,l⟩;obtain rfl:=l.symm)|(go_at_call 107;refine(OA _ _ (by simp) (lD m u) (lD r y)).mono ?_;rintro e j ⟨rfl,l⟩;obtain rfl:=l.symm))
 go_wp2;go_ret;refine⟨O,?_⟩;exact(((V3.alloc V2 _).alloc (by simp) _).alloc (by simp;omega) _).drew
section
theorem PC(E:List Sp.Ed):(dq E).length=Wn E*3:=by
 induction E with
 |nil=>rfl
 |cons p t b=>simp[dq] at b ⊢;omega
theorem Qr(E:List Sp.Ed)(x:Sp.Ed):∀j,j<Wn E->(((dq E).set (j*3) (Z Y (x.dp:Int))).set (j*3+1) (Z Y (x.cS:Int))).set (j*3+2) (Z Y x.n)=dq (E.set j x):=by
 induction E with
 |nil=>intro j h;simp at h
 |cons p t b =>
  intro j h;have e:∀(q:Sp.Ed) (u:List Sp.Ed),dq (q::u)=Z Y (q.dp:Int)::Z Y (q.cS:Int)::Z Y q.n::dq u:=λq u=>by simp[dq]
  cases j with
  |zero=>simp[e]
  |succ j =>
   have:=b j (by simpa using h);rw[List.set_cons_succ,e,e,<-this,show (j+1)*3=j*3+1+1+1 by omega];simp[List.set_cons_succ]
def tV(w:V5)(g j:Nat)(x:Sp.Ed):V5:=((w.setCell ⟨g,j*3,U⟩ (Z Y (x.dp:Int))).setCell ⟨g,j*3+1,U⟩ (Z Y (x.cS:Int))).setCell ⟨g,j*3+2,U⟩ (Z Y x.n)
variable {w:V5}
theorem EZ{B e g cap:Nat}{X:List Sp.Ed}(h:w.ownsRow B e 3 (J (S ⟨g,0,U⟩) (Wn X) cap) (Wn X) (dq X))(j:Nat)(I:j<Wn X)(x:Sp.Ed):(tV w g j x).ownsRow B e 3 (J (S ⟨g,0,U⟩) (Wn X) cap) (Wn X) (dq (X.set j x))/\w.grownBy (tV w g j x) (S g):=by
 obtain⟨W,K⟩:=h;rcases K with ⟨z,q⟩|⟨i,A,b,z,L,C,m,r,u,M⟩
 .omega
 .injection z with e1 e2 e3;injection e1 with e1;injection e1 with e1;subst e1 e3;have P:=setCell_eq_setRow w g (j*3) b e (0,0) (Z Y (x.dp:Int)) C;have F:=Uq w g b (b.setIfInBounds (j*3) (Z Y (x.dp:Int))) e (0,0) C;have Q:=setCell_eq_setRow _ g (j*3+1) _ e (0,0) (Z Y (x.cS:Int)) F;have G:=Uq _ g _ ((b.setIfInBounds (j*3) (Z Y (x.dp:Int))).setIfInBounds (j*3+1) (Z Y (x.cS:Int))) e (0,0) F;have R:=setCell_eq_setRow _ g (j*3+2) _ e (0,0) (Z Y x.n) G;have T:=Uq _ g _ (((b.setIfInBounds (j*3) (Z Y (x.dp:Int))).setIfInBounds (j*3+1) (Z Y (x.cS:Int))).setIfInBounds (j*3+2) (Z Y x.n)) e (0,0) G;have V:tV w g j x=((w.setRow g (b.setIfInBounds (j*3) (Z Y (x.dp:Int)))).setRow g ((b.setIfInBounds (j*3) (Z Y (x.dp:Int))).setIfInBounds (j*3+1) (Z Y (x.cS:Int)))).setRow g (((b.setIfInBounds (j*3) (Z Y (x.dp:Int))).setIfInBounds (j*3+1) (Z Y (x.cS:Int))).setIfInBounds (j*3+2) (Z Y x.n)):=by
   unfold tV;rw[P,Q,R]
  rw[V];refine⟨⟨by rw[PC,U0],.inr ⟨g,cap,_,O,L,T,m,r,by simpa using u,?_⟩⟩,⟨O,O,O,by simp[World.setRow],λk f y=>?_⟩⟩
  .rw[<-Qr X x j I,<-M];simp only[Array.toList_setIfInBounds,List.take_set]
  .have l:k≠g:=λe=>y (by rw[e])
   rw[Uk _ g k _ l,Uk _ g k _ l,Uk _ g k _ l]
theorem dC{a b c:V5}{r:Option Nat}(h:a.grownBy b r)(k:b.grownBy c r):a.grownBy c r:=⟨k.os.trans h.os,k.tape.trans h.tape,k.output.trans h.output,To h.size k.size,λi hi e=>(k.block i (TI hi h.size) e).trans (h.block i hi e)⟩
theorem fI{w':V5}{r:Option Nat}(h:V4 w w'): w.grownBy w' r:=⟨h.os,h.tape,h.output,h.size,λk b _=>h.block k b⟩
theorem ig(w:V5)(r:Option Nat):w.grownBy w r:=⟨O,O,O,Te _,λ_ _ _=>O⟩
def Jk(X:List Sp.Ed)(i j:Nat)(hi:i<Wn X)(b:j<Wn X):List Sp.Ed:=(X.set i X[j]).set j X[i]
theorem Iv{B e g cap:Nat}{X:List Sp.Ed}(h:w.ownsRow B e 3 (J (S ⟨g,0,U⟩) (Wn X) cap) (Wn X) (dq X))(i j:Nat)(hi:i<Wn X)(m:j<Wn X):(tV (tV w g i X[j]) g j X[i]).drew.ownsRow B e 3 (J (S ⟨g,0,U⟩) (Wn X) cap) (Wn X) (dq (Jk X i j hi m))/\w.grownBy (tV (tV w g i X[j]) g j X[i]).drew (S g):=by
 obtain⟨u,y⟩:=EZ h i hi X[j];have l:(X.set i X[j]).length=Wn X:=U0;have b:=u;rw[<-l] at b;obtain⟨r,z⟩:=EZ b j (by rw[l];exact m) X[i];rw[l] at r;exact⟨de r V3.drew,dC (dC y z) (fI V3.drew)⟩
end
section
def sw(X:List Sp.Ed)(i j:Nat):List Sp.Ed:=if h:i<Wn X/\j<Wn X then Jk X i j h.1 h.2 else X
theorem zt(X:List Sp.Ed)(i j:Nat):(sw X i j).length=Wn X:=by
 unfold sw;split
 .simp[Jk]
 .rfl
def Hv(X:List Sp.Ed)(a b:Nat):Nat->List Sp.Ed
 |0=>X
 |i+1=>sw (Hv X a b i) (a+i) (b+i)
theorem pd(X:List Sp.Ed)(a b:Nat):∀n,(Hv X a b n).length=Wn X
 |0=>rfl
 |n+1=>by rw[Hv,zt,pd]
variable {w:V5}{cap e B g:Nat}
theorem dM{n:Nat}{l:List V6}(h:w.ownsRow B e 3 (J (S ⟨g,0,U⟩) n cap) n l)(k:Nat): w.frozen? ⟨g,k,U⟩=Wg:=by
 rcases h.2 with ⟨b,u⟩|⟨y,j,m,b,z,r,_⟩
 .cases b
 .injection b with e1 e2 e3;injection e1 with e1;injection e1 with e1;subst e1;simp[World.frozen?,r]
theorem xD{X:List Sp.Ed}(h:w.ownsRow B e 3 (J (S ⟨g,0,U⟩) (Wn X) cap) (Wn X) (dq X))(j:Nat)(b:j<Wn X):w.cell? ⟨g,j*3,U⟩=S (Z Y (X[j].dp:Int))/\w.cell? ⟨g,j*3+1,U⟩=S (Z Y (X[j].cS:Int))/\w.cell? ⟨g,j*3+2,U⟩=S (Z Y X[j].n):=by
 obtain⟨l,m,r⟩:=IH X j b;exact⟨(h.cellAt _ (by omega)).trans l,(h.cellAt _ (by omega)).trans m,(h.cellAt _ (by omega)).trans r⟩
theorem oz{n:Nat}{X:List Sp.Ed}(r:Wn X=n)(h:w.ownsRow B e 3 (J (S ⟨g,0,U⟩) n cap) n (dq X))(i j:Nat)(hi:i<n)(m:j<n): ∃b l:Sp.Ed,
  (w.cell? ⟨g,i*3,U⟩=S (Z Y (b.dp:Int))/\w.cell? ⟨g,i*3+1,U⟩=S (Z Y (b.cS:Int))/\w.cell? ⟨g,i*3+2,U⟩=S (Z Y b.n))/\
  (w.cell? ⟨g,j*3,U⟩=S (Z Y (l.dp:Int))/\w.cell? ⟨g,j*3+1,U⟩=S (Z Y (l.cS:Int))/\w.cell? ⟨g,j*3+2,U⟩=S (Z Y l.n))/\
  Hid ((tV (tV w g i l) g j b).drew.ownsRow B e 3 (J (S ⟨g,0,U⟩) n cap) n (dq (sw X i j))/\w.grownBy (tV (tV w g i l) g j b).drew (S g))/\Hid (X[i]?=S b/\X[j]?=S l):=by
 subst r;have e:sw X i j=Jk X i j hi m:=by unfold sw;rw[dif_pos ⟨hi,m⟩]
 rw[e];exact⟨X[i],X[j],xD h i hi,xD h j m,Iv h i j hi m,Tw hi,Tw m⟩
theorem wY(g cap B a b n:Nat)(X:List Sp.Ed)(z:V6)(w:V5)(h:w.ownsRow B 162 3 (J (S ⟨g,0,U⟩) (Wn X) cap) (Wn X) (dq X))(A:a+n<=b)(hb:b+n<=Wn X)(G:Wn X<=5000):V7 prog 255 #[J (S ⟨g,0,U⟩) (Wn X) cap,Z Y a,Z Y b,Z Y n,z] w λe u=>e=Wd (Wb #[])/\
   u.ownsRow B 162 3 (J (S ⟨g,0,U⟩) (Wn X) cap) (Wn X) (dq (Hv X a b n))/\w.grownBy u (S g):=by
 go_enter func255,ntmps255;go_wp2
 go_loopw [10] (λi wr=>∃k:Nat,k<=n/\i=Z Y k/\wr.ownsRow B 162 3 (J (S ⟨g,0,U⟩) (Wn X) cap) (Wn X) (dq (Hv X a b k))/\w.grownBy wr (S g)) (λi _=>n-(intOf i).toNat)
 case atStart=>exact⟨0,Tp _,rfl,h,ig _ _⟩
 case round =>
  obtain⟨k,I,rfl,j,l⟩:=hrel;by_cases C:k<n
  .have K:(a:Int)+(k:Int)<(Wn X:Int):=by omega
   have L:(b:Int)+(k:Int)<(Wn X:Int):=by omega
   have M:=dM j ((a+k)*3);have P:=dM j ((a+k)*3+1);have Q:=dM j ((a+k)*3+2);have R:=dM j ((b+k)*3);have T:=dM j ((b+k)*3+1);have V:=dM j ((b+k)*3+2);obtain⟨W,q,⟨t,s,p⟩,⟨o,y1,y2⟩,y,HX⟩:=oz (pd X a b k) j (a+k) (b+k) (by omega) (by omega);have m:=cU l;have F:a+k<b+k:=by omega
   clear j l h;go_wp2_with fail
   go_region
   go_wp2;go_roundw
   case rel=>exact⟨k+1,by omega,by go_num,(cT y).1,dC (cT m) (cT y).2⟩
   case measure=>simp[intOf];omega
  .have r:n=k:=by omega
   subst r;go_wp2
   go_end0
   exact⟨O,j,l⟩
end
theorem lC(X:List Sp.Ed)(i j:Nat)(hi:i<Wn X)(b:j<Wn X)(t:Nat):(sw X i j)[t]?=if t=j then X[i]? else if t=i then X[j]? else X[t]?:=by
 unfold sw;rw[dif_pos ⟨hi,b⟩];unfold Jk;by_cases l:t=j
 .subst l;rw[Tg rfl];simp[b]
 .rw[Tf l,Vo (λe=>l e.symm)];by_cases m:t=i
  .subst m;rw[Tg rfl];simp[hi,b]
  .rw[Tf m,Vo (λe=>m e.symm)]
theorem LR(X:List Sp.Ed)(a b:Nat):∀n,a+n<=b->b+n<=Wn X->∀t,(Hv X a b n)[t]?=if a<=t/\t<a+n then X[t+(b-a)]? else if b<=t/\t<b+n then X[t-(b-a)]? else X[t]?:=by
 intro n
 induction n with
 |zero=>intro u y t;rw[Tf (by omega),Tf (by omega)];rfl
 |succ n e =>
  intro u y t;have e:=e (by omega) (by omega);rw[Hv,lC _ _ _ (by rw[pd];omega) (by rw[pd];omega),e,e,e];by_cases j:t=b+n
  .subst j;rw[Tg O,Tf (by omega),Tf (by omega),Tf (by omega),Tg (by omega),show b+n-(b-a)=a+n by omega]
  .rw[Tf j];by_cases l:t=a+n
   .subst l;rw[Tg O,Tf (by omega),Tf (by omega),Tg (by omega),show a+n+(b-a)=b+n by omega]
   .rw[Tf l];by_cases m:a<=t/\t<a+n
    .rw[Tg m,Tg (by omega)]
    .rw[Tf m,Tf (by omega:¬(a<=t/\t<a+(n+1)))];by_cases r:b<=t/\t<b+n
     .rw[Tg r,Tg (by omega)]
     .rw[Tf r,Tf (by omega)]
theorem sQ(A P M Q B:List Sp.Ed)(h:Wn P=Wn Q):Hv (A++(P++(M++(Q++B)))) (Wn A) (Wn A+Wn P+Wn M) (Wn P)=A++(Q++(M++(P++B))):=by
 apply List.ext_getElem?;intro t;rw[LR _ _ _ _ (by omega) (by simp;omega)];by_cases b:Wn A<=t/\t<Wn A+Wn P
 .rw[Tg b,show (Wn A)+Wn P+Wn M-Wn A=Wn P+Wn M by omega];rw[Tx (by omega),Tx (by omega),Tx (by omega),Uf (by omega)];rw[Tx (by omega),Uf (by omega)]
  congr 1;omega
 .rw[Tf b];by_cases e:Wn A+Wn P+Wn M<=t/\t<Wn A+Wn P+Wn M+Wn P
  .rw[Tg e,show (Wn A)+Wn P+Wn M-Wn A=Wn P+Wn M by omega];rw[Tx (by omega),Uf (by omega)];rw[Tx (by omega),Tx (by omega),Tx (by omega),Uf (by omega)]
   congr 1;omega
  .rw[Tf e];by_cases j:t<Wn A
   .rw[Uf j,Uf j]
   .by_cases l:t<Wn A+Wn P+Wn M
    .rw[Tx (by omega),Tx (by omega),Uf (by omega)];rw[Tx (by omega),Tx (by omega),Uf (by omega)]
     congr 1;omega
    .rw[Tx (by omega),Tx (by omega),Tx (by omega),Tx (by omega)];rw[Tx (by omega),Tx (by omega),Tx (by omega),Tx (by omega)]
     congr 1;omega
def sA(X:List Sp.Ed)(a m b:Nat):List Sp.Ed:=X.take a++((X.take b).drop m++((X.take m).drop a++X.drop b))
theorem kq(A b V B:List Sp.Ed):sA (A++(b++(V++B))) (Wn A) (Wn A+Wn b) (Wn A+Wn b+Wn V)=A++(V++(b++B)):=by
 unfold sA;have e:(A++(b++(V++B))).take (Wn A)=A:=by simp
 have j:(A++(b++(V++B))).take (Wn A+Wn b)=A++b:=by
  rw[<-T4,UA (by simp <;> omega),Ur (by simp <;> omega)]
 have l:(A++(b++(V++B))).take (Wn A+Wn b+Wn V)=A++b++V:=by
  rw[<-T4,<-T4,UA (by simp <;> omega),Ur (by simp <;> omega)]
 have m:(A++(b++(V++B))).drop (Wn A+Wn b+Wn V)=B:=by
  rw[<-T4,<-T4,List.drop_left' (by simp <;> omega)]
 rw[e,j,l,m,List.drop_left' (by simp),List.drop_left' (by simp)]
theorem r6(X:List Sp.Ed)(a m b:Nat)(h1:a<=m)(h2:m<=b)(r:b<=Wn X):∃A e V B,X=A++(e++(V++B))/\(Wn A)=a/\(Wn e)=m-a/\(Wn V)=b-m:=by
 refine⟨X.take a,(X.take m).drop a,(X.take b).drop m,X.drop b,?_,by simp;omega,by simp;omega,by simp;omega⟩;have j:(X.take b).drop m++X.drop b=X.drop m:=by
  have:=Un b X
  conv=>rhs;rw[<-this]
  rw[VN (by simp;omega)]
 have l:(X.take m).drop a++X.drop m=X.drop a:=by
  have:=Un m X
  conv=>rhs;rw[<-this]
  rw[VN (by simp;omega)]
 rw[j,l,Un]
theorem Qe(b:List Sp.Ed)(m i j:Nat)(G:j<i)(I:i<=m)(K:m+j<=Wn b):sA (Hv b (m-i) m j) (m-(i-j)) m (m+j)=sA b (m-i) m (m+j):=by
 obtain⟨A,e,V,B,rfl,z,L,M⟩:=r6 b (m-i) m (m+j) (by omega) (by omega) K;obtain⟨l,r,rfl,C⟩:∃l r,e=l++r/\(Wn l)=j:=⟨e.take j,e.drop j,(Un _ _).symm,by simp;omega⟩
 rw[TT] at L;have F:=sQ A l r V B (by omega);have u:=kq (A++V) r l B;have y:=kq A (l++r) V B;rw[TT] at u y;rw[show (Wn A)+Wn l+Wn r=m by omega,C,z] at F;rw[show (Wn A)+Wn V+Wn r=m by omega,show (Wn A)+Wn V=m-(i-j) by omega,C] at u;rw[show (Wn A)+(Wn l+Wn r)=m by omega,show m+Wn V=m+j by omega,z] at y;rw[y,T4,F,<-T4,u];simp[T4]
theorem OT(b:List Sp.Ed)(m i j:Nat)(F:i<j)(G:i<=m)(I:m+j<=Wn b):sA (Hv b (m-i) (m+j-i) i) (m-i) m (m+(j-i))=sA b (m-i) m (m+j):=by
 obtain⟨A,e,V,B,rfl,u,L,K⟩:=r6 b (m-i) m (m+j) (by omega) (by omega) I;obtain⟨l,r,rfl,M⟩:∃l r,V=l++r/\(Wn l)=j-i:=⟨V.take (j-i),V.drop (j-i),(Un _ _).symm,by simp;omega⟩
 rw[TT] at K;have z:=sQ A e l r B (by omega);have C:=kq A r l (e++B);have y:=kq A e (l++r) B;rw[TT] at y;rw[show (Wn A)+Wn e+Wn l=m+j-i by omega,show (Wn e)=i by omega,u] at z;rw[show (Wn A)+Wn r=m by omega,show m+Wn l=m+(j-i) by omega,u] at C;rw[show (Wn A)+Wn e=m by omega,show m+(Wn l+Wn r)=m+j by omega,u] at y;rw[y,T4,z,C];simp[T4]
theorem IP(b:List Sp.Ed)(m i:Nat)(u:i<=m)(y:m+i<=Wn b):Hv b (m-i) m i=sA b (m-i) m (m+i):=by
 obtain⟨A,e,V,B,rfl,l,z,C⟩:=r6 b (m-i) m (m+i) (by omega) (by omega) y;have j:=sQ A e [] V B (by omega);have r:=kq A e V B;simp only[Ul,UB,Uo] at j;rw[show (Wn A)+Wn e=m by omega,show (Wn e)=i by omega,l] at j;rw[show (Wn A)+Wn e=m by omega,show m+Wn V=m+i by omega,l] at r;rw[j,r]
theorem nN(g cap B a b n N:Nat)(m r u:Int)(X:List Sp.Ed)(y:V6)(w:V5)(ha:m=(a:Int))(j:r=(b:Int))(A:u=(n:Int))(C:Wn X=N)(h:w.ownsRow B 162 3 (J (S ⟨g,0,U⟩) N cap) N (dq X))(l:a+n<=b)(hb:b+n<=N)(F:N<=5000):V7 prog 255 #[J (S ⟨g,0,U⟩) N cap,Z Y m,Z Y r,Z Y u,y] w λe z=>e=Wd (Wb #[])/\
   z.ownsRow B 162 3 (J (S ⟨g,0,U⟩) N cap) N (dq (Hv X a b n))/\w.grownBy z (S g):=by
 subst ha j A C;exact wY g cap B a b n X y w h l hb F
theorem Dz(g cap B a m b N:Nat)(X:List Sp.Ed)(G:V6)(w:V5)(Q:Wn X=N)(h:w.ownsRow B 162 3 (J (S ⟨g,0,U⟩) N cap) N (dq X))(q:a<m)(t:m<b)(hb:b<=N)(I:N<=5000):V7 prog 241 #[J (S ⟨g,0,U⟩) N cap,Z Y a,Z Y m,Z Y b,G] w λe R=>e=Wd (Wb #[])/\
   R.ownsRow B 162 3 (J (S ⟨g,0,U⟩) N cap) N (dq (sA X a m b))/\w.grownBy R (S g):=by
 have s:=cU Q;clear Q;go_enter func241,ntmps241;go_wp2
 go_loopw [10,11] (λu v wr=>∃(i j:Nat) (l:List Sp.Ed),u=Z Y i/\v=Z Y j/\0<i/\0<j/\i<=m-a/\j<=b-m/\Hid (Wn l=N)/\wr.ownsRow B 162 3 (J (S ⟨g,0,U⟩) N cap) N (dq l)/\w.grownBy wr (S g)/\Hid (sA l (m-i) m (m+j)=sA X a m b)) (λu v _=>(intOf u).toNat+(intOf v).toNat)
 case atStart=>exact⟨m-a,b-m,X,by go_num,by go_num,by omega,by omega,by omega,by omega,s,h,ig _ _,by show _=_;rw[show m-(m-a)=a by omega,show m+(b-m)=b by omega]⟩
 case round =>
  obtain⟨i,j,l,rfl,rfl,K,L,hi,p,A,T,F,M⟩:=hrel;have P:=cU T;have C:=cU F;clear T F h;rcases Nat.lt_trichotomy i j with r|r|r
  .have V:((i:Int) != (j:Int))=We:=by rw[UZ];omega
   go_wp2_with fail;refine(nN g cap B (m-i) (m+j-i) i N _ _ _ l G _ (by omega) (by omega) (by omega) (cT A) (cT P) (by omega) (by omega) I).mono ?_;rintro e W ⟨rfl,y,z⟩;go_wp2;go_roundw
   case rel=>exact⟨i,j-i,_,rfl,by go_num,K,by omega,hi,by omega,by show _=_;rw[pd];exact cT A,y,dC (cT C) z,by show _=_;rw[<-cT M];exact OT l m i j r (by omega) (by rw[cT A];omega)⟩
   case measure=>simp[intOf];omega
  .subst r;have V:((i:Int) != (i:Int))=Wg:=by simp
   go_wp2_with fail;refine(nN g cap B (m-i) m i N _ _ _ l G _ (by omega) (by omega) (by omega) (cT A) (cT P) (by omega) (by omega) I).mono ?_;rintro e W ⟨rfl,y,z⟩;go_wp2
   go_end0
   refine⟨O,?_,dC (cT C) z⟩;rw[<-cT M,<-IP l m i (by omega) (by rw[cT A];omega)];exact y
  .have V:((i:Int) != (j:Int))=We:=by rw[UZ];omega
   go_wp2_with fail;refine(nN g cap B (m-i) m j N _ _ _ l G _ (by omega) (by omega) (by omega) (cT A) (cT P) (by omega) (by omega) I).mono ?_;rintro e W ⟨rfl,y,z⟩;go_wp2;go_roundw
   case rel=>exact⟨i-j,j,_,by go_num,rfl,by omega,L,by omega,p,by show _=_;rw[pd];exact cT A,y,dC (cT C) z,by show _=_;rw[<-cT M];exact Qe l m i j r (by omega) (by rw[cT A];omega)⟩
   case measure=>simp[intOf];omega
namespace Sp
open Go
def fU(L:List Ln):Tb:=(L.filter λl=>!l.jz).map λl=>(l.dp,l.n)
theorem rF(A B:List Ln):fU (A++B)=fU A++fU B:=by simp[fU]
theorem sE(L:List Ln):(fU L).length=nv L:=by
 have h:∀M:List Ln,(M.filter λl=>!l.jz).length+(M.filter λl=>l.jz).length=Wn M:=by
  intro M
  induction M with
  |nil=>rfl
  |cons l t b=>cases hl:l.jz <;> simp[hl] <;> omega
 have:=h L;unfold fU nv o6;rw[Ue];omega
theorem uI(L:List Ln)(n:Nat)(h:Wn L<=n)(a:Int):Ax L n a=dD (fU L) a:=by
 unfold Ax dD fU;rw[Ur h]
 induction L with
 |nil=>rfl
 |cons l t b =>
  have:=b (by simp at h;omega);cases hl:l.jz with
  |true=>simp only[List.any_cons,Sf,hl,Bool.not_true,Bool.false_and,Bool.false_or,U7];simpa [Sf] using this
  |false=>simp only[List.any_cons,Sf,hl,Bool.not_false,Bool.true_and,U7,TY,Uj];rw[<-this]
theorem tc{T b:Tb}(h:T.Perm b)(a:Int):dD T a=dD b a:=by
 unfold dD;apply Bool.eq_iff_iff.2;rw[UL,UL];constructor
 .rintro⟨p,j,e⟩;exact⟨p,h.mem_iff.1 j,e⟩
 .rintro⟨p,j,e⟩;exact⟨p,h.mem_iff.2 j,e⟩
theorem th{T b:Tb}(h:T.Perm b)(a:Int):dv T a=dv b a:=(h.filter _).length_eq
theorem qI(L:List Ln)(a:Int):dv (fU L) a=low L a:=by
 unfold dv fU low;rw[List.filter_map,Ue,List.filter_filter]
 congr 2
 funext l
 simp[NQ,Bool.and_comm]
theorem Gv(T:Tb)(a v:Int):(gJ T a v).Perm ((a,v)::T):=by
 unfold gJ;refine List.perm_middle.trans ?_;rw[Un]
theorem gB(P Q:List (Option Ln)):dH (P++Q)=dH P++dH Q:=by simp[dH]
theorem J1(P:List (Option Ln)):∀k,(dT P k).length=(dH P).length:=by
 induction P with
 |nil=>intro k;rfl
 |cons p t b =>
  intro k;cases p with
  |none=>simpa [dT,dH] using b (k+1)
  |some l=>simpa [dT,dH] using b (k+1)
theorem Ef(P R:List (Option Ln))(l:Ln):(dT (P++S l::R) 0).getD (dH P).length 0=Wn P:=by
 rw[oH,<-J1 P 0];simp[dT,List.getD]
theorem EN(P R:List (Option Ln))(l:Ln):(dH (P++S l::R))[(dH P).length]?=S l:=by
 rw[gB];simp[dH]
theorem L5:∀(R P:List (Option Ln)) (T:Tb),dj T->T.Perm (fU (dH P))->(∀i,i<(dH P).length->kM (dH (P++R)) i=Wg)->
  (∃i,first (kM (dH (P++R))) (dH (P++R)).length=S i/\gv R (Wn P) T=.error ((dT (P++R) 0).getD i 0))\/
  (first (kM (dH (P++R))) (dH (P++R)).length=U/\∃B,gv R (Wn P) T=.ok B/\dj B/\B.Perm (fU (dH (P++R)))):=by
 intro R
 induction R with
 |nil =>
  intro P T z y u;right;rw[UJ] at u ⊢;exact⟨iY u,T,O,z,y⟩
 |cons q r C =>
  intro P T z y u;have e:P++q::r=(P++[q])++r:=by simp
  have m:(P++[q]).length=Wn P+1:=by simp
  cases q with
  |none =>
   have b:dH (P++[U])=dH P:=by rw[gB];simp[dH]
   have:=C (P++[U]) T z (by rw[b];exact y) (by rw[b,<-e];exact u);rw[<-e,m] at this;exact this
  |some l =>
   have b:dH (P++[S l])=dH P++[l]:=by rw[gB];simp[dH]
   have A:=EN P r l;have F:(dH P).length<(dH (P++S l::r)).length:=by rw[gB];simp[dH]
   have G:(dH (P++S l::r)).take (dH P).length=dH P:=by rw[gB];simp
   cases j:l.jz with
   |true =>
    have I:fU (dH (P++[S l]))=fU (dH P):=by rw[b,rF];simp[fU,j]
    have M:kM (dH (P++S l::r)) (dH P).length=Wg:=by unfold kM;rw[A];simp[j]
    have:=C (P++[S l]) T z (by rw[I];exact y) (by
     intro i hi;rw[<-e];rw[b] at hi;simp at hi;rcases VG (Nat.le_of_lt_succ hi) with h|h
     .exact u i h
     .rw[h];exact M)
    rw[<-e,m] at this;have K:gv (S l::r) (Wn P) T=gv r (Wn P+1) T:=by simp only[gv,j,TY]
    rw[K];exact this
   |false =>
    have L:kM (dH (P++S l::r)) (dH P).length=dD T l.dp:=by
     unfold kM;rw[A];simp only[j,Bool.not_false,Bool.true_and];rw[tc y,<-uI (dH P) (dH P).length V2];unfold Ax;rw[G,Ut]
    cases hh:dD T l.dp with
    |true =>
     left;refine⟨(dH P).length,nM F u (by rw[L,hh]),?_⟩;rw[Ef];simp only[gv,j,hh];rfl
    |false =>
     have I:fU (dH (P++[S l]))=fU (dH P)++[(l.dp,l.n)]:=by rw[b,rF];simp[fU,j]
     have:=C (P++[S l]) (gJ T l.dp l.n) (iw z hh) (by
      rw[I];refine(Gv T l.dp l.n).trans ?_;refine(List.Perm.cons _ y).trans ?_;exact(List.perm_append_singleton _ _).symm) (by
       intro i hi;rw[<-e];rw[b] at hi;simp at hi;rcases VG (Nat.le_of_lt_succ hi) with h|h
       .exact u i h
       .rw[h,L,hh])
     rw[<-e,m] at this;have K:gv (S l::r) (Wn P) T=gv r (Wn P+1) (gJ T l.dp l.n):=by simp only[gv,j,hh];rfl
     rw[K];exact this
def gn(L M:List Ln):List Ed:=(M.filter λl=>l.jz).map λl=>⟨low L l.dp,low L l.cS,l.n⟩
theorem rJ(L A B:List Ln):gn L (A++B)=gn L A++gn L B:=by simp[gn]
theorem Gr(L:List Ln):(gn L L).length=o6 L:=by simp[gn,o6]
theorem Mu(T:Tb)(L:List Ln)(V:T.Perm (fU L)):∀(R P:List (Option Ln)),dH (P++R)=L->(∀i,i<(dH P).length->loose L i=Wg)->
  (∃i,first (loose L) (Wn L)=S i/\ge T R (Wn P) (gn L (dH P))=.error ((dT (P++R) 0).getD i 0))\/
  (first (loose L) (Wn L)=U/\ge T R (Wn P) (gn L (dH P))=.ok (gn L L)):=by
 have z:∀a,dD T a=Ax L (Wn L) a:=λa=>by rw[tc V,uI L _ V2]
 have A:∀a,dv T a=low L a:=λa=>by rw[th V,qI]
 intro R
 induction R with
 |nil =>
  intro P B C;right;rw[UJ] at B;rw[B] at C;rw[B];exact⟨iY C,O⟩
 |cons q r K =>
  intro P B C;have e:P++q::r=(P++[q])++r:=by simp
  have m:(P++[q]).length=Wn P+1:=by simp
  cases q with
  |none =>
   have b:dH (P++[U])=dH P:=by rw[gB];simp[dH]
   have:=K (P++[U]) (by rw[<-e];exact B) (by rw[b];exact C);rw[<-e,m,b] at this;exact this
  |some l =>
   have b:dH (P++[S l])=dH P++[l]:=by rw[gB];simp[dH]
   have y:=EN P r l;have F:(dH P).length<(dH (P++S l::r)).length:=by rw[gB];simp[dH]
   rw[B] at y F;have u:loose L (dH P).length=Wg->∀i,i<(dH (P++[S l])).length->loose L i=Wg:=by
    intro G i hi;rw[b] at hi;simp at hi;rcases VG (Nat.le_of_lt_succ hi) with h|h
    .exact C i h
    .rw[h];exact G
   cases j:l.jz with
   |false =>
    have G:loose L (dH P).length=Wg:=by unfold loose;rw[y];simp[j]
    have M:gn L (dH (P++[S l]))=gn L (dH P):=by rw[b,rJ];simp[gn,j]
    have:=K (P++[S l]) (by rw[<-e];exact B) (u G);rw[<-e,m,M] at this;have Q:ge T (S l::r) (Wn P) (gn L (dH P))=ge T r (Wn P+1) (gn L (dH P)):=by simp only[ge,j];rfl
    rw[Q];exact this
   |true =>
    by_cases I:dD T l.dp=We/\dD T l.cS=We
    .have G:loose L (dH P).length=Wg:=by unfold loose;rw[y];simp[j,<-z,I.1,I.2]
     have M:gn L (dH (P++[S l]))=gn L (dH P)++[⟨low L l.dp,low L l.cS,l.n⟩]:=by rw[b,rJ];simp[gn,j]
     have:=K (P++[S l]) (by rw[<-e];exact B) (u G);rw[<-e,m,M] at this;have Q:ge T (S l::r) (Wn P) (gn L (dH P))=ge T r (Wn P+1) (gn L (dH P)++[⟨low L l.dp,low L l.cS,l.n⟩]):=by
      simp only[ge,j,TY];rw[Tg I,A,A]
     rw[Q];exact this
    .left;refine⟨(dH P).length,nM F C ?_,?_⟩
     .unfold loose;rw[y];simp only[j,Bool.true_and,<-z];cases W:dD T l.dp with
      |false=>rfl
      |true =>
       cases X:dD T l.cS with
       |false=>rfl
       |true=>exact absurd ⟨W,X⟩ I
     .rw[Ef];simp only[ge,j,TY];rw[Tf I]
end Sp
namespace Sp
open Go
variable {T:Tb}
theorem vY(e:dj T){j:Nat}(l:j<Wn T): dv T (T[j]).1=j:=jM (by omega) (λi hi b=>eA e b l) (λi hi b=>fg e b hi)
theorem yJ(b:dj T){k:Nat}(r:k<Wn T): T.filter (λp=>dv T p.1 == k)=[T[k]]:=by
 have e:T=T.take k++T[k]::T.drop (k+1):=by
  rw[<-TW r,Un]
 have u:(T.take k).filter (λp=>dv T p.1 == k)=[]:=by
  rw[VM];intro p l;obtain⟨j,m,rfl⟩:=T5.1 l;rw[Uz] at m;rw[List.getElem_take,vY b (by omega)];simp;omega
 have y:(T.drop (k+1)).filter (λp=>dv T p.1 == k)=[]:=by
  rw[VM];intro p l;obtain⟨j,m,rfl⟩:=T5.1 l;rw[Us] at m;rw[List.getElem_drop,vY b (by omega)];simp;omega
 have z:([T[k]]:Tb).filter (λp=>dv T p.1 == k)=[T[k]]:=by
  rw[U7,vY b r];simp
 have A:(T.take k++([T[k]]++T.drop (k+1))).filter (λp=>dv T p.1 == k)=[T[k]]:=by rw[UQ,UQ,u,y,z];rfl
 exact(congrArg (List.filter (λp=>dv T p.1 == k)) e).trans A
variable {L:List Ln}
theorem FQ(m:dj T)(e:T.Perm (fU L)){k:Nat}(r:k<Wn T): (QB L k (Wn L)).map (λl=>(l.dp,l.n))=[T[k]]:=by
 have b:∀a,low L a=dv T a:=λa=>by rw[th e,qI]
 have u:(QB L k (Wn L)).map (λl=>(l.dp,l.n))=(fU L).filter (λp=>dv T p.1 == k):=by
  unfold QB fU;rw[Ut,List.filter_map,List.filter_filter]
  congr 2
  funext l
  simp[QX,b,Bool.and_comm]
 rw[u];have j:=e.filter (λp=>dv T p.1 == k);rw[yJ m r] at j;exact(List.singleton_perm.1 j).symm
theorem LU(b:dj T)(e:T.Perm (fU L)): ∀n,n<=Wn T->(vs L n).map (λl=>(l.dp,l.n))=T.take n:=by
 intro n
 induction n with
 |zero=>intro _;rfl
 |succ n j =>
  intro m;rw[vs,UD,j (by omega),FQ b e (by omega)];exact(Uw (by omega)).symm
theorem NW(e:dj T)(b:T.Perm (fU L)): (vs L (nv L)).map (λl=>(l.dp,l.n))=T:=by
 have j:Wn T=nv L:=by rw[b.length_eq,sE]
 rw[LU e b _ (by omega),Ur (by omega)]
theorem tJ{α : Type}(f : α->Nat)(a:Nat):∀X:List α,X.Pairwise (λx y=>f x<=f y)->X.filter (λx=>decide (f x<a+1))=X.filter (λx=>decide (f x<a))++X.filter (λx=>f x == a):=by
 intro X
 induction X with
 |nil=>intro _;rfl
 |cons x t m =>
  intro h;have l:=(Um.1 h).1;have:=m (Um.1 h).2;rcases Nat.lt_trichotomy (f x) a with b|b|b
  .simp[U7,b,show f x<a+1 by omega,show ¬f x=a by omega,this]
  .have e:t.filter (λx=>decide (f x<a))=[]:=by
    rw[VM];intro y j;have:=l y j;simp;omega
   rw[e] at this;simp[U7,b,e,this]
  .have e:t.filter (λx=>decide (f x<a))=[]:=by
    rw[VM];intro y j;have:=l y j;simp;omega
   simp[U7,show ¬f x<a by omega,show ¬f x<a+1 by omega,show ¬f x=a by omega,e,this]
def iF(x y:Ed):Prop:=x.dp<y.dp\/(x.dp=y.dp/\x.cS<=y.cS)
def isKey(a b:Nat)(e:Ed):Bool:=e.dp == a&&e.cS == b
theorem MV(L:List Ln)(a b:Nat):QH L a b (Wn L)=(gn L L).filter (isKey a b):=by
 unfold QH gn;rw[Ut,List.filter_map,List.filter_filter];have e:L.filter (OP L a b)=L.filter (λl=>(isKey a b ∘ λl=>(⟨low L l.dp,low L l.cS,l.n⟩:Ed)) l&&l.jz):=by
  congr 1
  funext l
  simp[OP,isKey,Bool.and_comm]
 rw[e];apply VJ;intro l j;have:=(UU.1 j).2;simp[isKey] at this;rw[this.1.1,this.1.2]
theorem RO{n:Nat}{X:List Ed}(z:X.Pairwise iF)(hb:∀x∈X,x.dp<n/\x.cS<n)(A:∀a b,X.filter (isKey a b)=(gn L L).filter (isKey a b)): X=es L n n:=by
 have m:X.Pairwise (λx y=>x.dp<=y.dp):=z.imp (λh=>by rcases h with h | h <;> omega);have e:∀a b,(X.filter (λx=>x.dp == a)).filter (λx=>decide (x.cS<b))=Gt L a b:=by
  intro a b;have r:(X.filter (λx=>x.dp == a)).Pairwise (λx y=>x.cS<=y.cS):=by
   rw[List.pairwise_filter];refine z.imp (λh=>?_);intro j B;simp at j B;rcases h with h|h <;> omega
  induction b with
  |zero=>simp[Gt]
  |succ b u =>
   rw[tJ (λx:Ed=>x.cS) b _ r,u,Gt,MV,<-A]
   congr 1
   rw[List.filter_filter]
   congr 1
   funext x
   simp[isKey,Bool.and_comm]
 have l:∀a,X.filter (λx=>decide (x.dp<a))=es L n a:=by
  intro a
  induction a with
  |zero=>simp[es]
  |succ a u =>
   rw[tJ (λx:Ed=>x.dp) a _ m,u,es,<-e a n]
   congr 1
   rw[List.filter_filter];apply List.filter_congr;intro x j;have:=(hb x j).2;simp[this]
 rw[<-l n,VL.2];intro x j;simpa using (hb x j).1
theorem OH(z:dj T)(m:T.Perm (fU L))(r:first (loose L) (Wn L)=U): ∀x∈gn L L,x.dp<nv L/\x.cS<nv L:=by
 have b:∀a,low L a=dv T a:=λa=>by rw[th m,qI]
 have e:∀a,Ax L (Wn L) a=dD T a:=λa=>by rw[tc m,uI L _ V2]
 have A:Wn T=nv L:=by rw[m.length_eq,sE]
 intro x C;obtain⟨l,u,rfl⟩:=Uu.1 C;obtain⟨F,y⟩:=UU.1 u;obtain⟨i,hi,rfl⟩:=T5.1 F;unfold first at r
 rw[List.find?_eq_none] at r;have j:=r i (Va.2 hi);unfold loose at j;rw[Tw hi] at j;simp only[y,Bool.true_and,e] at j;have B:dD T (L[i]).dp=We/\dD T (L[i]).cS=We:=by
  cases G:dD T (L[i]).dp <;> cases hb:dD T (L[i]).cS <;> simp[G,hb] at j ⊢
 simp only[b];obtain⟨I,_⟩:=(iV z _).1 B.1;obtain⟨K,_⟩:=(iV z _).1 B.2;omega
end Sp
section
def St(X e:List Sp.Ed):Prop:=Wn e=Wn X/\∀a b,e.filter (Sp.isKey a b)=X.filter (Sp.isKey a b)
theorem St.refl(X:List Sp.Ed):St X X:=⟨O,λ_ _=>O⟩
variable {X:List Sp.Ed}
theorem St.trans{e j:List Sp.Ed}(h:St X e)(k:St e j): St X j:=⟨k.1.trans h.1,λa b=>(k.2 a b).trans (h.2 a b)⟩
def ou(x y:Sp.Ed):Prop:=x.dp<y.dp\/(x.dp=y.dp/\x.cS<y.cS)
theorem uo(x y:Sp.Ed):zi x y<0↔ou x y:=JY x y
variable {x y:Sp.Ed}
theorem jO(h:¬ou x y): Sp.iF y x:=by unfold ou at h;unfold Sp.iF;omega
theorem mQ(h:ou x y): Sp.iF x y:=by unfold ou at h;unfold Sp.iF;omega
theorem oC{z:Sp.Ed}(h:Sp.iF x y)(k:Sp.iF y z): Sp.iF x z:=by unfold Sp.iF at *;omega
theorem Dh(x:Sp.Ed):Sp.iF x x:=by unfold Sp.iF;omega
theorem FY(h:ou x y)(a b:Nat): ¬(Sp.isKey a b x=We/\Sp.isKey a b y=We):=by
 rintro⟨e,j⟩;simp[Sp.isKey] at e j;unfold ou at h;omega
theorem KC(A j V B:List Sp.Ed)(h:∀u∈j,∀v∈V,ou v u):St (A++(j++(V++B))) (A++(V++(j++B))):=by
 refine⟨by simp;omega,λa b=>?_⟩;simp only[UQ];have:j.filter (Sp.isKey a b)=[]\/V.filter (Sp.isKey a b)=[]:=by
  apply VU;intro l;have m:j.filter (Sp.isKey a b)≠[]:=λe=>l (Wh e)
  have r:V.filter (Sp.isKey a b)≠[]:=λe=>l (Wi e)
  obtain⟨u,hu⟩:=List.exists_mem_of_ne_nil _ m;obtain⟨v,z⟩:=List.exists_mem_of_ne_nil _ r;obtain⟨u1,u2⟩:=UU.1 hu;obtain⟨C,F⟩:=UU.1 z;exact FY (h u u1 v C) a b ⟨F,u2⟩
 rcases this with e|e <;> rw[e] <;> simp
theorem P1(A B:List Sp.Ed)(x y:Sp.Ed):sw (A++(x::y::B)) (Wn A+1) (Wn A)=A++(y::x::B):=by
 apply List.ext_getElem?;intro t;rw[lC _ _ _ (by simp) (by simp)];by_cases b:t=Wn A
 .subst b;simp
 .rw[Tf b];by_cases e:t=Wn A+1
  .subst e;simp
  .rw[Tf e];by_cases j:t<Wn A
   .rw[Uf j,Uf j]
   .rw[Tx (by omega),Tx (by omega)];obtain⟨k,l⟩:∃k,t-Wn A=k+2:=⟨t-Wn A-2,by omega⟩
    rw[l];rfl
theorem SK(X:List Sp.Ed)(j:Nat)(b:j+1<Wn X):X=X.take j++(X[j]::X[j+1]::X.drop (j+2)):=by
 rw[<-TW b,<-TW (by omega),Un]
theorem JK(X:List Sp.Ed)(j:Nat)(l:j+1<Wn X)(h:ou X[j+1] X[j]):St X (sw X (j+1) j):=by
 have e:=SK X j l;have m:(X.take j).length=j:=by simp;omega
 have b:=P1 (X.take j) (X.drop (j+2)) X[j] X[j+1];rw[m,<-e] at b;rw[b];have:=KC (X.take j) [X[j]] [X[j+1]] (X.drop (j+2)) (by simpa using h);simp only[TZ,Ul] at this;rw[<-e] at this;exact this
def Ord(X:List Sp.Ed)(a b:Nat):Prop := ∀s t x y,a<=s->s<t->t<b->X[s]?=S x->X[t]?=S y->Sp.iF x y
def vj(X:List Sp.Ed)(a b j:Nat):Prop := ∀s t x y,a<=s->s<t->t<b->t≠j->X[s]?=S x->X[t]?=S y->Sp.iF x y
variable {a:Nat}
theorem ML{i:Nat}(h:Ord X a i): vj X a (i+1) i:=λs t x y b e j l=>h s t x y b e (by omega)
theorem Fh{b j:Nat}(h:vj X a b j)(he:j<=a\/∃p,p+1=j/\∃x y,X[p]?=S x/\X[j]?=S y/\¬ou y x): Ord X a b:=by
 intro s t x y r B C m u;by_cases z:t=j
 .rcases he with he|⟨p,I,F,K,e,l,A⟩
  .omega
  .subst z;rw[u] at l;injection l with l;subst l;by_cases G:s=p
   .subst G;rw[m] at e;injection e with e;subst e;exact jO A
   .exact oC (h s p x F r (by omega) (by omega) (by omega) m e) (jO A)
 .exact h s t x y r B C z m u
theorem H7{b j:Nat}(h:vj X a b (j+1))(z:a<=j)(K:j+1<b)(F:j+1<Wn X)(A:ou X[j+1] X[j]): vj (sw X (j+1) j) a b j:=by
 intro s t x y G L B M e l;rw[lC _ _ _ F (by omega)] at e l;rw[Tf M] at l;have C:X[j+1]?=S X[j+1]:=Tw F;have u:X[j]?=S X[j]:=Tw (by omega);by_cases m:t=j+1
 .rw[Tg m,u] at l;injection l with l;subst l;by_cases r:s=j
  .rw[Tg r,C] at e;injection e with e;subst e;exact mQ A
  .rw[Tf r,Tf (by omega)] at e;exact h s j _ _ G (by omega) (by omega) (by omega) e u
 .rw[Tf m] at l;by_cases r:s=j
  .rw[Tg r,C] at e;injection e with e;subst e;exact h (j+1) t _ _ (by omega) (by omega) B m C l
  .rw[Tf r] at e;by_cases I:s=j+1
   .rw[Tg I,u] at e;injection e with e;subst e;exact h j t _ _ z (by omega) B m u l
   .rw[Tf I] at e;exact h s t _ _ G L B m e l
end
def FK(g cap B N a b:Nat)(X:List Sp.Ed)(w:V5)(e:Ending)(w':V5):Prop:=e=Wd (Wb #[])/\∃j,w'.ownsRow B 162 3 (J (S ⟨g,0,U⟩) N cap) N (dq j)/\w.grownBy w' (S g)/\St X j/\Ord j a b/\∀t,t<a\/b<=t->j[t]?=X[t]?
theorem wH(g cap B a b N:Nat)(X:List Sp.Ed)(w:V5)(hX:Wn X=N)(h:w.ownsRow B 162 3 (J (S ⟨g,0,U⟩) N cap) N (dq X))(ak:a<=b)(hb:b<=N)(hl:N<=5000):V7 prog 222 #[J (S ⟨g,0,U⟩) N cap,Z Y a,Z Y b,.func (.func 106) #[] #[]] w (FK g cap B N a b X w):=by
 have HX:=cU hX;clear hX;go_enter func222,ntmps222;go_wp2
 go_loopw [8] (λu wr=>∃(i:Nat) (l:List Sp.Ed),u=Z Y i/\a<i/\(i<=b\/i=a+1)/\wr.ownsRow B 162 3 (J (S ⟨g,0,U⟩) N cap) N (dq l)/\w.grownBy wr (S g)/\Hid (Wn l=N)/\Hid (St X l)/\Hid (Ord l a i)/\Hid (∀t,t<a\/b<=t->l[t]?=X[t]?)) (λu _=>b+1-(intOf u).toNat)
 case atStart=>exact⟨a+1,X,by go_num,by omega,Wi rfl,h,ig _ _,HX,St.refl _,λs t x y V h2 h3=>by omega,λt _=>rfl⟩
 case round =>
  obtain⟨i,l,rfl,an,ao,ho,ab,HY,ae,af,W⟩:=hrel;by_cases aq:i<b
  .have aj:(i:Int)<(b:Int):=by omega
   go_wp2
   go_loopw [9] (λu ag=>∃(j:Nat) (m:List Sp.Ed),u=Z Y j/\a<=j/\j<=i/\ag.ownsRow B 162 3 (J (S ⟨g,0,U⟩) N cap) N (dq m)/\w.grownBy ag (S g)/\Hid (Wn m=N)/\Hid (St X m)/\Hid (vj m a (i+1) j)/\Hid (∀t,t<a\/b<=t->m[t]?=X[t]?)) (λu _=>(intOf u).toNat)
   case atStart=>exact⟨i,l,rfl,by omega,Te _,ho,ab,HY,ae,ML (cT af),W⟩
   case round =>
    obtain⟨j,m,rfl,ar,au,M,F,HZ,P,Q,C⟩:=hrel;clear ho ab;by_cases av:a<j
    .obtain⟨q,HQ⟩:∃q,Hid (j=q+1):=⟨j-1,by show _=_;omega⟩
     have aw:q<j:=by have:=cT HQ;omega
     have ax:a<=q:=by have:=cT HQ;omega
     have ay:j<N:=by omega
     have o:(a:Int)<(j:Int):=by omega
     have az:(j:Int)<(N:Int):=by omega
     have aA:(q:Int)<(N:Int):=by omega
     have p0:(0:Int)<=(j:Int):=by omega
     have p1:(0:Int)<=(q:Int):=by omega
     have aB:IntKind.i64.wrap ((j:Int)-1)=(q:Int):=by have:=cT HQ;rw[TJ];omega
     obtain⟨K,L,⟨c0,c1,c2⟩,⟨d0,d1,d2⟩,_,R⟩:=oz (cT HZ) M j q (by omega) (by omega);obtain⟨c,hc⟩:∃c,zi K L=c:=⟨_,rfl⟩
     have HC:=cU hc;have ad:=cU (uo K L);rw[hc] at ad;clear hc;have z:g<wr.heap.size:=Tu _ _ c0;by_cases aa:c<0
     .go_wp2_with fail
      go_region_held3 (λG=>(G.cell? ⟨g,j*3,U⟩=S (Z Y (K.dp:Int))/\G.cell? ⟨g,j*3+1,U⟩=S (Z Y (K.cS:Int))/\G.cell? ⟨g,j*3+2,U⟩=S (Z Y K.n))/\(G.cell? ⟨g,q*3,U⟩=S (Z Y (L.dp:Int))/\G.cell? ⟨g,q*3+1,U⟩=S (Z Y (L.cS:Int))/\G.cell? ⟨g,q*3+2,U⟩=S (Z Y L.n)))
       (first|(go_keep;done)|(exact⟨⟨(r.cell (p:=⟨g,_,U⟩) z).trans c0,(r.cell (p:=⟨g,_,U⟩) z).trans c1,(r.cell (p:=⟨g,_,U⟩) z).trans c2⟩,⟨(r.cell (p:=⟨g,_,U⟩) z).trans d0,(r.cell (p:=⟨g,_,U⟩) z).trans d1,(r.cell (p:=⟨g,_,U⟩) z).trans d2⟩⟩))
       (first|(go_at_call 106;refine(gD K L _).mono ?_;rintro e w2 ⟨rfl,r⟩;rw[cT HC]))
      have I:V4 wr w2:=V3.drew.trans r;have A:=de M I;have f0:=dM A (j*3);have f1:=dM A (j*3+1);have f2:=dM A (j*3+2);have f3:=dM A (q*3);have f4:=dM A (q*3+1);have f5:=dM A (q*3+2);obtain⟨z1,z0,⟨r0,r1,r2⟩,⟨s0,s1,s2⟩,HO,T⟩:=oz (cT HZ) A j q (by omega) (by omega);have ah:=cU (dC F (fI I));obtain rfl:z1=K:=by have V:=(cT R).1;rw[(cT T).1] at V;injection V
      obtain rfl:z0=L:=by have V:=(cT R).2;rw[(cT T).2] at V;injection V
      have HL:Hid (ou z1 z0):=(cT ad).1 aa;clear r I M A c0 c1 c2 d0 d1 d2 F;go_wp2_with fail
      go_region
      go_wp2;go_roundw
      case rel =>
       have ai:=cT HQ;subst ai;have hq:q+1<Wn m:=by rw[cT HZ];omega
       have e1:m[q+1]=z1:=by have:=(cT T).1;rw[Tw hq] at this;injection this
       have e2:m[q]=z0:=by have:=(cT T).2;rw[Tw (by omega)] at this;injection this
       refine⟨q,sw m (q+1) q,by go_num,by omega,by omega,(cT HO).1,dC (cT ah) (cT HO).2,by show _=_;rw[zt];exact cT HZ,(cT P).trans (JK m q hq (by rw[e1,e2];exact cT HL)),H7 (cT Q) (by omega) (by omega) hq (by rw[e1,e2];exact cT HL),?_⟩;intro t ht;rw[lC _ _ _ hq (by omega),Tf (by omega),Tf (by omega)];exact(cT C) t ht
      case measure=>have:=cT HQ;simp[intOf];omega
     .go_wp2_with fail
      go_region_held3 (λG=>(G.cell? ⟨g,j*3,U⟩=S (Z Y (K.dp:Int))/\G.cell? ⟨g,j*3+1,U⟩=S (Z Y (K.cS:Int))/\G.cell? ⟨g,j*3+2,U⟩=S (Z Y K.n))/\(G.cell? ⟨g,q*3,U⟩=S (Z Y (L.dp:Int))/\G.cell? ⟨g,q*3+1,U⟩=S (Z Y (L.cS:Int))/\G.cell? ⟨g,q*3+2,U⟩=S (Z Y L.n)))
       (first|(go_keep;done)|(exact⟨⟨(r.cell (p:=⟨g,_,U⟩) z).trans c0,(r.cell (p:=⟨g,_,U⟩) z).trans c1,(r.cell (p:=⟨g,_,U⟩) z).trans c2⟩,⟨(r.cell (p:=⟨g,_,U⟩) z).trans d0,(r.cell (p:=⟨g,_,U⟩) z).trans d1,(r.cell (p:=⟨g,_,U⟩) z).trans d2⟩⟩))
       (first|(go_at_call 106;refine(gD K L _).mono ?_;rintro e w2 ⟨rfl,r⟩;rw[cT HC]))
      have I:V4 wr w2:=V3.drew.trans r;go_wp2;go_roundw
      case rel=>exact⟨i+1,m,by go_num,by omega,by omega,de M I,dC F (fI I),HZ,P,Fh (cT Q) (Wi ⟨q,(cT HQ).symm,L,K,(cT R).2,(cT R).1,λhq=>(Int.not_lt.2 aa) ((cT ad).2 hq)⟩),C⟩
      case measure=>simp[intOf];omega
    .have o:¬(a:Int)<(j:Int):=by omega
     have aC:decide ((a:Int)<(j:Int))=Wg:=TE o;go_wp2_with fail
     go_quiet (fail)
     go_wp2;go_roundw
     case rel=>exact⟨i+1,m,by go_num,by omega,by omega,de M (below_drewN _ _),dC F (fI (below_drewN _ _)),HZ,P,Fh (cT Q) (Wh (by omega)),C⟩
     case measure=>simp[intOf];omega
  .go_wp2
   go_end0
   exact⟨O,l,ho,ab,cT ae,λs t x y V h2 h3=>(cT af) s t x y V h2 (by omega),cT W⟩
section
def Out(X e:List Sp.Ed)(a b:Nat):Prop := ∀t,t<a\/b<=t->e[t]?=X[t]?
def Qx(X e:List Sp.Ed)(a b:Nat):Prop := ∀t z,a<=t->t<b->e[t]?=S z->∃s,a<=s/\s<b/\X[s]?=S z
def Ju(X e:List Sp.Ed)(a b:Nat):Prop:=St X e/\Ord e a b/\Out X e a b/\Qx X e a b
theorem Qx.refl(X:List Sp.Ed)(a b:Nat):Qx X X a b:=λt z e j l=>⟨t,e,j,l⟩
variable {a b:Nat}{X:List Sp.Ed}
theorem Ju.refl(h:Ord X a b): Ju X X a b:=⟨St.refl _,h,λ_ _=>O,Qx.refl _ _ _⟩
variable {x y:Sp.Ed}
theorem lH{z:Sp.Ed}(h:Sp.iF x y)(k:ou y z): ou x z:=by unfold Sp.iF at h;unfold ou at *;omega
theorem lF{z:Sp.Ed}(h:ou x y)(k:Sp.iF y z): ou x z:=by unfold Sp.iF at k;unfold ou at *;omega
theorem n8(h:Ord X a b){s t:Nat}(h1:a<=s)(h2:s<=t)(l:t<b)(j:X[s]?=S x)(e:X[t]?=S y): Sp.iF x y:=by
 rcases VG h2 with h2|h2
 .exact h s t x y h1 h2 l j e
 .subst h2;rw[j] at e;injection e with e;subst e;exact Dh _
def Dn(X e:List Sp.Ed)(a k:Nat):Prop:=St X e/\e[k]?=X[a]?/\(∀t,a<=t->t<k->e[t]?=X[t+1]?)/\(∀t,t<a\/k<t->e[t]?=X[t]?)
theorem Dn.refl(X:List Sp.Ed)(a:Nat):Dn X X a a:=⟨St.refl _,O,λt e j=>by omega,λ_ _=>O⟩
theorem Dn.step{e:List Sp.Ed}{k:Nat}(h:Dn X e a k)(B:a<=k)(M:k+1<Wn X)(j:∀x y,X[a]?=S x->X[k+1]?=S y->ou y x): Dn X (sw e k (k+1)) a (k+1):=by
 obtain⟨z,A,C,l⟩:=h;have P:Wn e=Wn X:=z.1;have F:e[k]?=S e[k]:=Tw (by omega);have G:e[k+1]?=S e[k+1]:=Tw (by omega);have I:ou e[k+1] e[k]:=j _ _ (by rw[<-A,F]) (by rw[<-l (k+1) (by omega),G]);have K:sw e k (k+1)=sw e (k+1) k:=by
  apply List.ext_getElem?;intro t;rw[lC _ _ _ (by omega) (by omega),lC _ _ _ (by omega) (by omega)];by_cases r:t=k+1
  .subst r;rw[Tg O,Tf (by omega),Tg rfl]
  .rw[Tf r,Tf r]
 refine⟨by rw[K];exact z.trans (JK e k (by omega) I),?_,?_,?_⟩
 .rw[lC _ _ _ (by omega) (by omega),Tg O,A]
 .intro t u L;rw[lC _ _ _ (by omega) (by omega),Tf (by omega)];by_cases c:t=k
  .subst c;rw[Tg O,l _ (by omega)]
  .rw[Tf c,C t u (by omega)]
 .intro t Q;rw[lC _ _ _ (by omega) (by omega),Tf (by omega),Tf (by omega),l t (by omega)]
variable {m:Nat}
theorem Dn.close{e:List Sp.Ed}{i:Nat}(q:m=a+1)(hi:m<=i)(T:i<=b)(hb:b<=Wn X)(G:Ord X m b)(I:∀t x y,m<=t->t<i->X[a]?=S x->X[t]?=S y->ou y x)(K:∀t x y,i<=t->t<b->X[a]?=S x->X[t]?=S y->¬ou y x)(h:Dn X e a (i-1)): Ju X e a b:=by
 obtain⟨V,L,u,F⟩:=h;refine⟨V,?_,λt f=>F t (by omega),?_⟩
 .intro s t x y M A B j l;by_cases P:t<i-1
  .rw[u s M (by omega)] at j;rw[u t (by omega) P] at l;exact G _ _ _ _ (by omega) (by omega) (by omega) j l
  .by_cases Q:t=i-1
   .subst Q;rw[u s M A] at j;rw[L] at l;exact mQ (I (s+1) y x (by omega) (by omega) l j)
   .rw[F t (by omega)] at l;by_cases W:s<i-1
    .rw[u s M W] at j;exact G _ _ _ _ (by omega) (by omega) (by omega) j l
    .by_cases k:s=i-1
     .subst k;rw[L] at j;exact jO (K t x y (by omega) B j l)
     .rw[F s (by omega)] at j;exact G _ _ _ _ (by omega) A B j l
 .intro t z C R r;by_cases P:t<i-1
  .rw[u t C P] at r;exact⟨t+1,by omega,by omega,r⟩
  .by_cases Q:t=i-1
   .subst Q;rw[L] at r;exact⟨a,by omega,by omega,r⟩
   .rw[F t (by omega)] at r;exact⟨t,C,R,r⟩
def Up(X e:List Sp.Ed)(k m:Nat):Prop:=St X e/\e[k]?=X[m]?/\(∀t,k<t->t<=m->e[t]?=X[t-1]?)/\(∀t,t<k\/m<t->e[t]?=X[t]?)
theorem Up.refl(X:List Sp.Ed)(m:Nat):Up X X m m:=⟨St.refl _,O,λt e j=>by omega,λ_ _=>O⟩
theorem Up.step{e:List Sp.Ed}{k:Nat}(h:Up X e (k+1) m)(A:k+1<=m)(K:m<Wn X)(j:∀x y,X[m]?=S x->X[k]?=S y->ou x y): Up X (sw e (k+1) k) k m:=by
 obtain⟨u,z,B,l⟩:=h;have L:Wn e=Wn X:=u.1;have C:e[k]?=S e[k]:=Tw (by omega);have F:e[k+1]?=S e[k+1]:=Tw (by omega);have G:ou e[k+1] e[k]:=j _ _ (by rw[<-z,F]) (by rw[<-l k (by omega),C]);refine⟨u.trans (JK e k (by omega) G),?_,?_,?_⟩
 .rw[lC _ _ _ (by omega) (by omega),Tg O,z]
 .intro t I r;rw[lC _ _ _ (by omega) (by omega),Tf (by omega)];by_cases c:t=k+1
  .subst c;rw[Tg O,l _ (by omega)];rfl
  .rw[Tf c,B t (by omega) r]
 .intro t M;rw[lC _ _ _ (by omega) (by omega),Tf (by omega),Tf (by omega),l t (by omega)]
theorem Up.close{e:List Sp.Ed}{i:Nat}(q:b=m+1)(R:a<=i)(T:i<=m)(hb:b<=Wn X)(C:Ord X a m)(F:∀t x y,a<=t->t<i->X[m]?=S x->X[t]?=S y->¬ou x y)(G:∀t x y,i<=t->t<m->X[m]?=S x->X[t]?=S y->ou x y)(h:Up X e i m): Ju X e a b:=by
 obtain⟨V,I,u,A⟩:=h;refine⟨V,?_,λt f=>A t (by omega),?_⟩
 .intro s t x y K L W l j;by_cases Q:s<i
  .rw[A s (by omega)] at l;by_cases B:t<i
   .rw[A t (by omega)] at j;exact C _ _ _ _ K L (by omega) l j
   .by_cases k:t=i
    .subst k;rw[I] at j;exact jO (F s y x K Q j l)
    .rw[u t (by omega) (by omega)] at j;exact n8 C K (by omega) (by omega) l j
  .by_cases B:s=i
   .subst B;rw[I] at l;rw[u t (by omega) (by omega)] at j;exact mQ (G _ x y (by omega) (by omega) l j)
   .rw[u s (by omega) (by omega)] at l;rw[u t (by omega) (by omega)] at j;exact C _ _ _ _ (by omega) (by omega) (by omega) l j
 .intro t z M P r;by_cases Q:t<i
  .rw[A t (by omega)] at r;exact⟨t,M,P,r⟩
  .by_cases B:t=i
   .subst B;rw[I] at r;exact⟨m,by omega,by omega,r⟩
   .rw[u t (by omega) (by omega)] at r;exact⟨t-1,by omega,by omega,r⟩
theorem ED(X:List Sp.Ed)(a m b:Nat)(h1:a<=m)(h2:m<=b)(l:b<=Wn X)(t:Nat):(sA X a m b)[t]?=if a<=t/\t<a+(b-m) then X[t+(m-a)]? else if a+(b-m)<=t/\t<b then X[t-(b-m)]? else X[t]?:=by
 obtain⟨A,j,V,B,rfl,r,u,z⟩:=r6 X a m b h1 h2 l;have e:=kq A j V B;rw[show (Wn A)+Wn j=m by omega,r,show m+Wn V=b by omega] at e;rw[e];by_cases C:t<a
 .rw[Tf (by omega),Tf (by omega),Uf (by omega),Uf (by omega)]
 .by_cases F:t<a+(b-m)
  .rw[Tg (by omega),Tx (by omega),Uf (by omega)];rw[Tx (by omega),Tx (by omega),Uf (by omega)]
   congr 1;omega
  .by_cases G:t<b
   .rw[Tf (by omega),Tg (by omega),Tx (by omega),Tx (by omega),Uf (by omega)];rw[Tx (by omega),Uf (by omega)]
    congr 1;omega
   .rw[Tf (by omega),Tf (by omega),Tx (by omega),Tx (by omega),Tx (by omega)];rw[Tx (by omega),Tx (by omega),Tx (by omega)]
    congr 1;omega
theorem PE(h1:a<=m)(h2:m<=b)(r:b<=Wn X)(h:∀s t x y,a<=s->s<m->m<=t->t<b->X[s]?=S x->X[t]?=S y->ou y x): St X (sA X a m b):=by
 obtain⟨A,l,V,B,rfl,z,G,I⟩:=r6 X a m b h1 h2 r;have e:=kq A l V B;rw[show (Wn A)+Wn l=m by omega,z,show m+Wn V=b by omega] at e;rw[e];refine KC A l V B ?_;intro u hu v C;obtain⟨i,hi,rfl⟩:=List.getElem_of_mem hu;obtain⟨j,F,rfl⟩:=List.getElem_of_mem C;refine h (a+i) (m+j) _ _ (by omega) (by omega) (by omega) (by omega) ?_ ?_
 .rw[Tx (by omega),Uf (by omega),show a+i-Wn A=i by omega];exact Tw hi
 .rw[Tx (by omega),Tx (by omega),Uf (by omega),show m+j-Wn A-Wn l=j by omega];exact Tw F
def Cut(X:List Sp.Ed)(p e j c:Nat):Prop:=e<=c/\c<=j/\(∀x y,e<c->X[c-1]?=S x->X[p-(c-1)]?=S y->¬ou y x)/\(∀x y,c<j->X[c]?=S x->X[p-c]?=S y->ou y x)
variable {c:Nat}
theorem Hh{e i h:Nat}(aa:a<m)(ab:m<b)(hb:b<=Wn X)(g:e=(a+b)/2)(L:i=if e<m then e+m-b else a)(M:h=if e<m then e else m)(A:Ord X a m)(C:Ord X m b)(F:Cut X (e+m-1) i h c):a<=c/\c<=m/\m<=e+m-c/\e+m-c<=b/\c<=e/\e<=e+m-c/\St X (sA X c m (e+m-c))/\
  Ord (sA X c m (e+m-c)) a c/\Ord (sA X c m (e+m-c)) c e/\Ord (sA X c m (e+m-c)) e (e+m-c)/\Ord (sA X c m (e+m-c)) (e+m-c) b/\
  (∀s t x y,a<=s->s<e->e<=t->t<b->(sA X c m (e+m-c))[s]?=S x->(sA X c m (e+m-c))[t]?=S y->Sp.iF x y)/\
  Out X (sA X c m (e+m-c)) a b/\Qx X (sA X c m (e+m-c)) a b:=by
 obtain⟨h1,h2,h3,h4⟩:=F;have B:a<=c/\c<=m/\m<=e+m-c/\e+m-c<=b/\c<=e/\e<=e+m-c:=by
  by_cases F:e<m
  .rw[Tg F] at L M;omega
  .rw[Tf F] at L M;omega
 obtain⟨b1,f,p,b4,b5,b6⟩:=B;have K1:∀s t x y,c<=s->s<m->m<=t->t<e+m-c->X[s]?=S x->X[t]?=S y->ou y x:=by
  intro s t x y r u I Q l j;have o:c<h:=by
   by_cases F:e<m
   .rw[Tg F] at M;omega
   .rw[Tf F] at M;omega
  have R:X[c]?=S X[c]:=Tw (by omega);have T:X[e+m-1-c]?=S X[e+m-1-c]:=Tw (by omega);have k:=h4 _ _ o R T;exact lH (n8 C I (by omega) (by omega) j T) (lF k (n8 A b1 r u R l))
 have K2:∀s t x y,a<=s->s<c->e+m-c<=t->t<b->X[s]?=S x->X[t]?=S y->Sp.iF x y:=by
  intro s t x y r u I Q l j;have n:i<c:=by
   by_cases F:e<m
   .rw[Tg F] at L;omega
   .rw[Tf F] at L;omega
  have R:X[c-1]?=S X[c-1]:=Tw (by omega);have T:X[e+m-1-(c-1)]?=S X[e+m-1-(c-1)]:=Tw (by omega);have k:=jO (h3 _ _ n R T);exact oC (n8 A r (by omega) (by omega) l R) (oC k (n8 C (by omega) (by omega) Q T j))
 have G:∀t,(sA X c m (e+m-c))[t]?=if c<=t/\t<e then X[t+(m-c)]? else if e<=t/\t<e+m-c then X[t-(e-c)]? else X[t]?:=by
  intro t;rw[ED X c m (e+m-c) f p (by omega) t,show c+(e+m-c-m)=e by omega,show e+m-c-m=e-c by omega]
 have q:∀t,c<=t->t<e->(sA X c m (e+m-c))[t]?=X[t+(m-c)]?:=λt r u=>by rw[G,Tg ⟨r,u⟩]
 have V:∀t,e<=t->t<e+m-c->(sA X c m (e+m-c))[t]?=X[t-(e-c)]?:=λt r u=>by rw[G,Tf (by omega),Tg ⟨r,u⟩]
 have K:∀t,t<c\/e+m-c<=t->(sA X c m (e+m-c))[t]?=X[t]?:=λt k=>by rw[G,Tf (by omega),Tf (by omega)]
 refine⟨b1,f,p,b4,b5,b6,PE f p (by omega) K1,?_,?_,?_,?_,?_,?_,?_⟩
 .intro s t x y r u I l j;rw[K s (by omega)] at l;rw[K t (by omega)] at j;exact A _ _ _ _ r u (by omega) l j
 .intro s t x y r u I l j;rw[q s (by omega) (by omega)] at l;rw[q t (by omega) (by omega)] at j;exact C _ _ _ _ (by omega) (by omega) (by omega) l j
 .intro s t x y r u I l j;rw[V s (by omega) (by omega)] at l;rw[V t (by omega) (by omega)] at j;exact A _ _ _ _ (by omega) (by omega) (by omega) l j
 .intro s t x y r u I l j;rw[K s (by omega)] at l;rw[K t (by omega)] at j;exact C _ _ _ _ (by omega) u I l j
 .intro s t x y r u I Q l j;by_cases c1:s<c
  .rw[K s (by omega)] at l;by_cases W:t<e+m-c
   .rw[V t I W] at j;exact A _ _ _ _ r (by omega) (by omega) l j
   .rw[K t (by omega)] at j;exact K2 _ _ _ _ r c1 (by omega) Q l j
  .rw[q s (by omega) u] at l;by_cases W:t<e+m-c
   .rw[V t I W] at j;exact mQ (K1 _ _ _ _ (by omega) (by omega) (by omega) (by omega) j l)
   .rw[K t (by omega)] at j;exact C _ _ _ _ (by omega) (by omega) Q l j
 .intro t ht;exact K t (by omega)
 .intro t z r u P;by_cases c1:t<c
  .rw[K t (by omega)] at P;exact⟨t,r,u,P⟩
  .by_cases W:t<e
   .rw[q t (by omega) W] at P;exact⟨_,by omega,by omega,P⟩
   .by_cases c3:t<e+m-c
    .rw[V t (by omega) c3] at P;exact⟨_,by omega,by omega,P⟩
    .rw[K t (by omega)] at P;exact⟨t,r,u,P⟩
theorem uV{e:List Sp.Ed}{d:Nat}(h:Out X e a b)(k:Ord X c d)(hd:d<=a\/b<=c): Ord e c d:=by
 intro s t x y r u z j l;rw[h s (by omega)] at j;rw[h t (by omega)] at l;exact k _ _ _ _ r u z j l
theorem xo{R e j:List Sp.Ed}{l:Nat}(h1:a<=l)(h2:l<=b)(I:St X R)(hOut:Out X R a b)(A:Qx X R a b)(q:∀s t x y,a<=s->s<l->l<=t->t<b->R[s]?=S x->R[t]?=S y->Sp.iF x y)(i:Ju R e a l)(h:Ju e j l b): Ju X j a b:=by
 obtain⟨f,p,K,T⟩:=i;obtain⟨o,n,C,V⟩:=h;refine⟨I.trans (f.trans o),?_,?_,?_⟩
 .intro s t x y F G W r u;by_cases L:t<l
  .rw[C s (by omega)] at r;rw[C t (by omega)] at u;exact p _ _ _ _ F G L r u
  .by_cases g:s<l
   .rw[C s (by omega)] at r;obtain⟨s',M,P,B⟩:=T s x F g r;obtain⟨t',f1,f2,k⟩:=V t y (by omega) W u;rw[K t' (by omega)] at k;exact q _ _ _ _ M P f1 f2 B k
   .exact n _ _ _ _ (by omega) G W r u
 .intro t ht;rw[C t (by omega),K t (by omega),hOut t ht]
 .intro t z F G Q;by_cases L:t<l
  .rw[C t (by omega)] at Q;obtain⟨s,M,P,B⟩:=T t z F L Q;exact A _ _ (by omega) (by omega) B
  .obtain⟨s,M,P,B⟩:=V t z (by omega) G Q;rw[K s (by omega)] at B;exact A _ _ (by omega) (by omega) B
theorem BU(h:a>=c\/c>=b)(h1:Ord X a c)(h2:Ord X c b): Ord X a b:=by
 intro s t x y r e u j l;rcases h with h|h
 .exact h2 _ _ _ _ (by omega) e u j l
 .exact h1 _ _ _ _ r e (by omega) j l
end
def ri(g cap B N a b:Nat)(X:List Sp.Ed)(w:V5)(e:Ending)(w':V5):Prop:=e=Wd (Wb #[])/\∃j,w'.ownsRow B 162 3 (J (S ⟨g,0,U⟩) N cap) N (dq j)/\w.grownBy w' (S g)/\Ju X j a b
theorem CX(g cap B a m b N:Nat)(X:List Sp.Ed)(w:V5)(hX:Wn X=N)(h:w.ownsRow B 162 3 (J (S ⟨g,0,U⟩) N cap) N (dq X))(hm:m=a+1)(an:m<b)(hb:b<=N)(hl:N<=5000)(hO:Hid (Ord X m b)):V7 prog 223 #[J (S ⟨g,0,U⟩) N cap,Z Y a,Z Y m,Z Y b,.func (.func 106) #[] #[]] w (ri g cap B N a b X w):=by
 have HX:=cU hX;have HM:=cU hm;have ao:IntKind.i64.wrap ((m:Int)-(a:Int))=1:=by rw[TJ];omega
 have aq:a<m:=by omega
 have ar:(a:Int)<(N:Int):=by omega
 have au:(0:Int)<=(a:Int):=by omega
 clear hX hm;go_enter func223,ntmps223;go_wp2
 go_loopw [10,11] (λu v wr=>∃(i j:Nat),u=Z Y i/\v=Z Y j/\m<=i/\i<=j/\j<=b/\wr.ownsRow B 162 3 (J (S ⟨g,0,U⟩) N cap) N (dq X)/\w.grownBy wr (S g)/\Hid (∀t x y,m<=t->t<i->X[a]?=S x->X[t]?=S y->ou y x)/\Hid (∀t x y,j<=t->t<b->X[a]?=S x->X[t]?=S y->¬ou y x)) (λu v _=>(intOf v-intOf u).toNat)
 case atStart=>exact⟨m,b,rfl,rfl,Te _,by omega,Te _,h,ig _ _,λt x y V h2=>by omega,λt x y V h2=>by omega⟩
 case round =>
  obtain⟨i,j,rfl,rfl,W,af,q,s,M,R,o⟩:=hrel;by_cases av:i<j
  .have aj:(i:Int)<(j:Int):=by omega
   have aw:i<=(i+j)/2:=by omega
   have ax:(i+j)/2<j:=by omega
   have ay:(i+j)/2<N:=by omega
   have az:(((i+j)/2:Nat):Int)<(N:Int):=by omega
   have aA:((i:Int)+(j:Int))/2<(N:Int):=by omega
   have aB:0<=((i:Int)+(j:Int))/2:=by omega
   have aC:(((i:Int)+(j:Int))/2).toNat=(i+j)/2:=by omega
   obtain⟨K,L,⟨c0,c1,c2⟩,⟨d0,d1,d2⟩,_,P⟩:=oz (cT HX) s ((i+j)/2) a (by omega) (by omega);obtain⟨c,hc⟩:∃c,zi K L=c:=⟨_,rfl⟩
   have HC:=cU hc;have T:=cU (uo K L);rw[hc] at T;clear hc;have z:g<wr.heap.size:=Tu _ _ c0;by_cases Q:c<0
   .go_wp2_with fail
    go_region_held3 (λC=>(C.cell? ⟨g,(i+j)/2*3,U⟩=S (Z Y (K.dp:Int))/\C.cell? ⟨g,(i+j)/2*3+1,U⟩=S (Z Y (K.cS:Int))/\C.cell? ⟨g,(i+j)/2*3+2,U⟩=S (Z Y K.n))/\(C.cell? ⟨g,a*3,U⟩=S (Z Y (L.dp:Int))/\C.cell? ⟨g,a*3+1,U⟩=S (Z Y (L.cS:Int))/\C.cell? ⟨g,a*3+2,U⟩=S (Z Y L.n)))
     (first|(go_keep;done)|(exact⟨⟨(r.cell (p:=⟨g,_,U⟩) z).trans c0,(r.cell (p:=⟨g,_,U⟩) z).trans c1,(r.cell (p:=⟨g,_,U⟩) z).trans c2⟩,⟨(r.cell (p:=⟨g,_,U⟩) z).trans d0,(r.cell (p:=⟨g,_,U⟩) z).trans d1,(r.cell (p:=⟨g,_,U⟩) z).trans d2⟩⟩))
     (first|(go_at_call 106;refine(gD K L _).mono ?_;rintro e w2 ⟨rfl,r⟩;rw[cT HC]))
    have F:V4 wr w2:=V3.drew.trans r;go_wp2;go_roundw
    case rel =>
     refine⟨(i+j)/2+1,j,by go_num,O,by omega,by omega,q,de s F,dC M (fI F),?_,o⟩;intro t x y V h2 G hy;have aa:=(cT T).1 Q;rw[(cT P).2] at G;injection G with G;subst G;exact lH (n8 (cT hO) V (by omega) (by omega) hy (cT P).1) aa
    case measure=>simp[intOf];omega
   .go_wp2_with fail
    go_region_held3 (λC=>(C.cell? ⟨g,(i+j)/2*3,U⟩=S (Z Y (K.dp:Int))/\C.cell? ⟨g,(i+j)/2*3+1,U⟩=S (Z Y (K.cS:Int))/\C.cell? ⟨g,(i+j)/2*3+2,U⟩=S (Z Y K.n))/\(C.cell? ⟨g,a*3,U⟩=S (Z Y (L.dp:Int))/\C.cell? ⟨g,a*3+1,U⟩=S (Z Y (L.cS:Int))/\C.cell? ⟨g,a*3+2,U⟩=S (Z Y L.n)))
     (first|(go_keep;done)|(exact⟨⟨(r.cell (p:=⟨g,_,U⟩) z).trans c0,(r.cell (p:=⟨g,_,U⟩) z).trans c1,(r.cell (p:=⟨g,_,U⟩) z).trans c2⟩,⟨(r.cell (p:=⟨g,_,U⟩) z).trans d0,(r.cell (p:=⟨g,_,U⟩) z).trans d1,(r.cell (p:=⟨g,_,U⟩) z).trans d2⟩⟩))
     (first|(go_at_call 106;refine(gD K L _).mono ?_;rintro e w2 ⟨rfl,r⟩;rw[cT HC]))
    have F:V4 wr w2:=V3.drew.trans r;go_wp2;go_roundw
    case rel =>
     refine⟨i,(i+j)/2,O,by go_num,W,by omega,by omega,de s F,dC M (fI F),R,?_⟩;intro t x y V h2 G hy hn;rw[(cT P).2] at G;injection G with G;subst G;exact(Int.not_lt.2 Q) ((cT T).2 (lH (n8 (cT hO) (by omega) V h2 (cT P).1 hy) hn))
    case measure=>simp[intOf];omega
  .obtain rfl:i=j:=by omega
   clear af;go_wp2;have aD:IntKind.i64.wrap ((i:Int)-1)=((i-1:Nat):Int):=by rw[TJ];omega
   go_loopw [13] (λu ab=>∃(k:Nat) (l:List Sp.Ed),u=Z Y k/\a<=k/\k<=i-1/\ab.ownsRow B 162 3 (J (S ⟨g,0,U⟩) N cap) N (dq l)/\w.grownBy ab (S g)/\Hid (Wn l=N)/\Hid (Dn X l a k)) (λu _=>(i-(intOf u).toNat))
   case atStart=>exact⟨a,X,rfl,Te _,by omega,s,M,HX,Dn.refl _ _⟩
   case round =>
    obtain⟨k,l,rfl,ag,aE,A,I,HY,HD⟩:=hrel;clear s M h;by_cases ak:k<i-1
    .have ah:(k:Int)<((i-1:Nat):Int):=by omega
     have aF:(k:Int)<(N:Int):=by omega
     have aG:(k:Int)+1<(N:Int):=by omega
     have aH:(0:Int)<=(k:Int)+1:=by omega
     have aI:((k:Int)+1).toNat=k+1:=by omega
     have aJ:IntKind.i64.wrap ((k:Int)+1)=(k:Int)+1:=by rw[TJ];omega
     have f0:=dM A (k*3);have f1:=dM A (k*3+1);have f2:=dM A (k*3+2);have f3:=dM A ((k+1)*3);have f4:=dM A ((k+1)*3+1);have f5:=dM A ((k+1)*3+2);obtain⟨z0,z1,⟨r0,r1,r2⟩,⟨s0,s1,s2⟩,ad,aK⟩:=oz (cT HY) A k (k+1) (by omega) (by omega);have ai:=cU I;clear A I;go_wp2_with fail
     go_region
     go_wp2;go_roundw
     case rel =>
      refine⟨k+1,sw l k (k+1),by go_num,by omega,by omega,(cT ad).1,dC (cT ai) (cT ad).2,by show _=_;rw[zt];exact cT HY,(cT HD).step ag (by rw[cT HX];omega) (λx y G hy=>(cT R) (k+1) x y (by have:=cT HM;omega) (by omega) G hy)⟩
     case measure=>simp[intOf];omega
    .have ah:¬(k:Int)<((i-1:Nat):Int):=by omega
     have ae:k=i-1:=by omega
     go_wp2
     go_end0
     subst ae;exact⟨O,l,A,I,(cT HD).close (cT HM) W q (by rw[cT HX];exact hb) (cT hO) (cT R) (cT o)⟩
theorem AG(g cap B a m b N:Nat)(X:List Sp.Ed)(w:V5)(hX:Wn X=N)(h:w.ownsRow B 162 3 (J (S ⟨g,0,U⟩) N cap) N (dq X))(ao:a+1<m)(hm:b=m+1)(hb:b<=N)(hl:N<=5000)(hO:Hid (Ord X a m)):V7 prog 223 #[J (S ⟨g,0,U⟩) N cap,Z Y a,Z Y m,Z Y b,.func (.func 106) #[] #[]] w (ri g cap B N a b X w):=by
 have HX:=cU hX;have HM:=cU hm;have aq:IntKind.i64.wrap ((m:Int)-(a:Int))=(m:Int)-(a:Int):=by rw[TJ];omega
 have aj:((m:Int)-(a:Int) == 1)=Wg:=by rw[Tt];omega
 have ar:IntKind.i64.wrap ((b:Int)-(m:Int))=1:=by rw[TJ];omega
 have au:m<b:=by omega
 have av:(m:Int)<(N:Int):=by omega
 have aw:(0:Int)<=(m:Int):=by omega
 clear hX hm;go_enter func223,ntmps223;go_wp2
 go_loopw [14,15] (λu v wr=>∃(i j:Nat),u=Z Y i/\v=Z Y j/\a<=i/\i<=j/\j<=m/\wr.ownsRow B 162 3 (J (S ⟨g,0,U⟩) N cap) N (dq X)/\w.grownBy wr (S g)/\Hid (∀t x y,a<=t->t<i->X[m]?=S x->X[t]?=S y->¬ou x y)/\Hid (∀t x y,j<=t->t<m->X[m]?=S x->X[t]?=S y->ou x y)) (λu v _=>(intOf v-intOf u).toNat)
 case atStart=>exact⟨a,m,rfl,rfl,Te _,by omega,Te _,h,ig _ _,λt x y V h2=>by omega,λt x y V h2=>by omega⟩
 case round =>
  obtain⟨i,j,rfl,rfl,W,af,s,o,M,aa,R⟩:=hrel;by_cases ax:i<j
  .have ak:(i:Int)<(j:Int):=by omega
   have ay:i<=(i+j)/2:=by omega
   have az:(i+j)/2<j:=by omega
   have aA:(i+j)/2<N:=by omega
   have aB:(((i+j)/2:Nat):Int)<(N:Int):=by omega
   have aC:((i:Int)+(j:Int))/2<(N:Int):=by omega
   have aD:0<=((i:Int)+(j:Int))/2:=by omega
   have aE:(((i:Int)+(j:Int))/2).toNat=(i+j)/2:=by omega
   obtain⟨K,L,⟨c0,c1,c2⟩,⟨d0,d1,d2⟩,_,P⟩:=oz (cT HX) o m ((i+j)/2) (by omega) (by omega);obtain⟨c,hc⟩:∃c,zi K L=c:=⟨_,rfl⟩
   have HC:=cU hc;have T:=cU (uo K L);rw[hc] at T;clear hc;have z:g<wr.heap.size:=Tu _ _ c0;by_cases Q:c<0
   .go_wp2_with fail
    go_region_held3 (λC=>(C.cell? ⟨g,m*3,U⟩=S (Z Y (K.dp:Int))/\C.cell? ⟨g,m*3+1,U⟩=S (Z Y (K.cS:Int))/\C.cell? ⟨g,m*3+2,U⟩=S (Z Y K.n))/\(C.cell? ⟨g,(i+j)/2*3,U⟩=S (Z Y (L.dp:Int))/\C.cell? ⟨g,(i+j)/2*3+1,U⟩=S (Z Y (L.cS:Int))/\C.cell? ⟨g,(i+j)/2*3+2,U⟩=S (Z Y L.n)))
     (first|(go_keep;done)|(exact⟨⟨(r.cell (p:=⟨g,_,U⟩) z).trans c0,(r.cell (p:=⟨g,_,U⟩) z).trans c1,(r.cell (p:=⟨g,_,U⟩) z).trans c2⟩,⟨(r.cell (p:=⟨g,_,U⟩) z).trans d0,(r.cell (p:=⟨g,_,U⟩) z).trans d1,(r.cell (p:=⟨g,_,U⟩) z).trans d2⟩⟩))
     (first|(go_at_call 106;refine(gD K L _).mono ?_;rintro e w2 ⟨rfl,r⟩;rw[cT HC]))
    have G:V4 wr w2:=V3.drew.trans r;go_wp2;go_roundw
    case rel =>
     refine⟨i,(i+j)/2,O,by go_num,W,by omega,by omega,de o G,dC M (fI G),aa,?_⟩;intro t x y V h2 F hy;have ab:=(cT T).1 Q;rw[(cT P).1] at F;injection F with F;subst F;exact lF ab (n8 (cT hO) (by omega) V h2 (cT P).2 hy)
    case measure=>simp[intOf];omega
   .go_wp2_with fail
    go_region_held3 (λC=>(C.cell? ⟨g,m*3,U⟩=S (Z Y (K.dp:Int))/\C.cell? ⟨g,m*3+1,U⟩=S (Z Y (K.cS:Int))/\C.cell? ⟨g,m*3+2,U⟩=S (Z Y K.n))/\(C.cell? ⟨g,(i+j)/2*3,U⟩=S (Z Y (L.dp:Int))/\C.cell? ⟨g,(i+j)/2*3+1,U⟩=S (Z Y (L.cS:Int))/\C.cell? ⟨g,(i+j)/2*3+2,U⟩=S (Z Y L.n)))
     (first|(go_keep;done)|(exact⟨⟨(r.cell (p:=⟨g,_,U⟩) z).trans c0,(r.cell (p:=⟨g,_,U⟩) z).trans c1,(r.cell (p:=⟨g,_,U⟩) z).trans c2⟩,⟨(r.cell (p:=⟨g,_,U⟩) z).trans d0,(r.cell (p:=⟨g,_,U⟩) z).trans d1,(r.cell (p:=⟨g,_,U⟩) z).trans d2⟩⟩))
     (first|(go_at_call 106;refine(gD K L _).mono ?_;rintro e w2 ⟨rfl,r⟩;rw[cT HC]))
    have G:V4 wr w2:=V3.drew.trans r;go_wp2
    rotate_left
    .rename_i F;exfalso;simp at F;omega
    go_roundw
    case rel =>
     refine⟨(i+j)/2+1,j,by go_num,O,by omega,by omega,s,de o G,dC M (fI G),?_,R⟩;intro t x y V h2 F hy hn;rw[(cT P).1] at F;injection F with F;subst F;exact(Int.not_lt.2 Q) ((cT T).2 (lF hn (n8 (cT hO) V (by omega) (by omega) hy (cT P).2)))
    case measure=>simp[intOf];omega
  .obtain rfl:i=j:=by omega
   clear af;go_wp2
   go_loopw [17] (λu ad=>∃(k:Nat) (l:List Sp.Ed),u=Z Y k/\i<=k/\k<=m/\ad.ownsRow B 162 3 (J (S ⟨g,0,U⟩) N cap) N (dq l)/\w.grownBy ad (S g)/\Hid (Wn l=N)/\Hid (Up X l k m)) (λu _=>(intOf u).toNat)
   case atStart=>exact⟨m,X,rfl,by omega,Te _,o,M,HX,Up.refl _ _⟩
   case round =>
    obtain⟨k,l,rfl,aF,aG,A,I,HY,HD⟩:=hrel;clear o M h;by_cases an:i<k
    .obtain⟨q,HQ⟩:∃q,Hid (k=q+1):=⟨k-1,by show _=_;omega⟩
     have aH:q<k:=by have:=cT HQ;omega
     have ag:(i:Int)<(k:Int):=by omega
     have aI:(k:Int)<(N:Int):=by omega
     have aJ:(q:Int)<(N:Int):=by omega
     have aK:(0:Int)<=(q:Int):=by omega
     have aL:IntKind.i64.wrap ((k:Int)-1)=(q:Int):=by have:=cT HQ;rw[TJ];omega
     have f0:=dM A (k*3);have f1:=dM A (k*3+1);have f2:=dM A (k*3+2);have f3:=dM A (q*3);have f4:=dM A (q*3+1);have f5:=dM A (q*3+2);obtain⟨z0,z1,⟨r0,r1,r2⟩,⟨s0,s1,s2⟩,ae,aM⟩:=oz (cT HY) A k q (by omega) (by omega);have ah:=cU I;clear A I;go_wp2_with fail
     go_region
     go_wp2;go_roundw
     case rel =>
      have ai:=cT HQ;subst ai;refine⟨q,sw l (q+1) q,by go_num,by omega,by omega,(cT ae).1,dC (cT ah) (cT ae).2,by show _=_;rw[zt];exact cT HY,(cT HD).step (by omega) (by rw[cT HX];omega) (λx y F hy=>(cT R) q x y (by omega) (by omega) F hy)⟩
     case measure=>have:=cT HQ;simp[intOf];omega
    .have ag:¬(i:Int)<(k:Int):=by omega
     obtain rfl:i=k:=by omega
     go_wp2
     go_end0
     exact⟨O,l,A,I,(cT HD).close (cT HM) W s (by rw[cT HX];exact hb) (cT hO) (cT aa) (cT R)⟩
end Go.Proofs.YtgkkdpegcieakaaGreatDoor
