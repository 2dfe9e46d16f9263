import Derived.Test.YtgkkdpegcieakaaGreatDoorCw03
set_option linter.all false
set_option maxRecDepth 100000
set_option maxHeartbeats 16000000
namespace Go.Proofs.YtgkkdpegcieakaaGreatDoor
open Go.Proofs.Tryz
open Value renaming int→Z,slice→J,tuple→WX
open Ending renaming returned→WZ
open Option renaming none→U,some→S
open Bool renaming true→W8,false→W9
open Or renaming inl→Xa,inr→Xb
open List renaming length→Xg
open IntKind renaming i64→Y
open Go renaming World→WR,Value→WS,Calls→WT
open Go.RowKit
section
theorem j9(x:Int)(w:WR):WT prog 160 #[Z Y x] w λe b=>e=WZ (.bool W9)/\b=w:=by
 have h:(x != x)=W9:=by simp
 go_enter func160,ntmps160;go_wp2;go_ret;exact⟨O,O⟩
theorem oA(x y:Int)(w:WR):WT prog 108 #[Z Y x,Z Y y] w λe j=>e=WZ (Z Y (lH x y))/\j=w:=by
 rcases Int.lt_trichotomy x y with h|h|h
 .have b:lH x y = -1:=T0 h;rw[b];clear b;go_enter func108,ntmps108;go_wp2_with (go_at_call 160;refine(j9 _ _).mono ?_;rintro e j ⟨rfl,rfl⟩);go_ret;exact⟨O,O⟩
 .subst h;have b:lH x x=0:=by simp[lH]
  rw[b];clear b;have m:¬x<x:=Int.lt_irrefl x;go_enter func108,ntmps108;go_wp2_with (go_at_call 160;refine(j9 _ _).mono ?_;rintro e j ⟨rfl,rfl⟩);go_ret;exact⟨O,O⟩
 .have l:¬x<y:=by omega
  have b:lH x y=1:=by unfold lH;rw[TZ l,T0 h]
  rw[b];clear b;go_enter func108,ntmps108;go_wp2_with (go_at_call 160;refine(j9 _ _).mono ?_;rintro e j ⟨rfl,rfl⟩);go_ret;exact⟨O,O⟩
def Pj(x y:Int):Int:=if x=0 then y else x
theorem PG(g:Nat)(x y:Int)(w:WR)(C:w.cell? ⟨g,0,U⟩=S (Z Y x))(h1:w.cell? ⟨g,1,U⟩=S (Z Y y)):WT prog 107 #[J (S ⟨g,0,U⟩) 2 2] w λe A=>e=WZ (Z Y (Pj x y))/\A=w:=by
 go_enter func107,ntmps107;go_wp2
 go_loopw [8] (λi wr=>wr=w/\(i=Z Y 0\/(i=Z Y 1/\Hid (x=0))\/(i=Z Y 2/\Hid (x=0)/\Hid (y=0)))) (λi _=>2-(intOf i).toNat)
 case atStart=>exact⟨rfl,Xa rfl⟩
 case round =>
  obtain⟨rfl,B⟩:=hrel;rcases B with rfl|⟨rfl,b⟩|⟨rfl,b,r⟩
  .by_cases j:x=0
   .have b:=cT j;have u:(x != 0)=W9:=by simp[j]
    clear j;go_wp2;go_roundw
    case rel=>exact⟨by trivial,Xb (Xa ⟨rfl,b⟩)⟩
    case measure=>simp[intOf]
   .have u:(x != 0)=W8:=by simp[j]
    have l:Hid (Pj x y=x):=TZ j;clear j;go_wp2;go_ret;exact⟨by rw[cS l];rfl,O⟩
  .have l:Hid (Pj x y=y):=T0 (cS b);by_cases m:y=0
   .have r:=cT m;have z:(y != 0)=W9:=by simp[m]
    clear m;go_wp2;go_roundw
    case rel=>exact⟨by trivial,Xb (Xb ⟨rfl,b,r⟩)⟩
    case measure=>simp[intOf]
   .have z:(y != 0)=W8:=by simp[m]
    clear m;go_wp2;go_ret;exact⟨by rw[cS l];rfl,O⟩
  .have l:Hid (Pj x y=0):=(T0 (cS b)).trans (cS r);go_wp2;go_ret;exact⟨by rw[cS l];rfl,O⟩
def LJ(e:Sp.Ed):WS := .agg #[Z Y (e.dj:Int),Z Y (e.cR:Int),Z Y e.n]
def zr(a b:Sp.Ed):Int:=Pj (lH a.dj b.dj) (lH a.cR b.cR)
theorem K6(a b:Sp.Ed):zr a b<0↔(a.dj<b.dj\/(a.dj=b.dj/\a.cR<b.cR)):=by
 unfold zr Pj lH
 repeat' split
 all_goals omega
theorem xN(W:WR)(x y:WS)(e n:Nat)(b:n=W.heap.size):(W.alloc (.cells #[x,y] e)).cell? ⟨n,0,U⟩=S x/\(W.alloc (.cells #[x,y] e)).cell? ⟨n,1,U⟩=S y:=by
 subst b;exact⟨T5 _ _ 0 _ _ _ (T9 W _),T5 _ _ 1 _ _ _ (T9 W _)⟩
theorem PY(W:WR)(n:Nat)(b:n=W.heap.size)(x y:Int):WT prog 107 #[J (S ⟨n,0,U⟩) 2 2] (W.alloc (.cells #[Z Y x,Z Y y] 3)).drew λe j=>e=WZ (Z Y (Pj x y))/\j=(W.alloc (.cells #[Z Y x,Z Y y] 3)).drew:=PG n x y _ (xN W _ _ _ n b).1 (xN W _ _ _ n b).2
theorem gF(a b:Sp.Ed)(w:WR):WT prog 106 #[LJ a,LJ b] w λe j=>e=WZ (Z Y (zr a b))/\WQ w j:=by
 unfold LJ;unfold zr;generalize ((a.dj:Nat):Int)=m at *;generalize ((a.cR:Nat):Int)=r at *;generalize ((b.dj:Nat):Int)=u at *;generalize ((b.cR:Nat):Int)=y at *;go_enter func106,ntmps106;go_wp2_with fail
 go_region_held3 (λj=>(j.cell? ⟨w.heap.size,0,U⟩=S (Z Y m)/\j.cell? ⟨w.heap.size,1,U⟩=S (Z Y r))/\(j.cell? ⟨w.heap.size+1,0,U⟩=S (Z Y u)/\j.cell? ⟨w.heap.size+1,1,U⟩=S (Z Y y)))
  (go_keep)
  (first|(go_at_call 108;refine(oA _ _ _).mono ?_;rintro e j ⟨rfl,l⟩;obtain rfl:=l.symm)|(go_at_call 107;refine(PY _ _ (by simp) (lH m u) (lH r y)).mono ?_;rintro e j ⟨rfl,l⟩;obtain rfl:=l.symm))
 go_wp2;go_ret;refine⟨O,?_⟩;exact(((WO.alloc WN _).alloc (by simp) _).alloc (by simp;omega) _).drew
end
section
theorem QV(E:List Sp.Ed):(dp E).length=Xg E*3:=by
 induction E with
 |nil=>rfl
 |cons p t b=>simp[dp] at b ⊢;omega
theorem Qd(E:List Sp.Ed)(x:Sp.Ed):∀j,j<Xg E->(((dp E).set (j*3) (Z Y (x.dj:Int))).set (j*3+1) (Z Y (x.cR:Int))).set (j*3+2) (Z Y x.n)=dp (E.set j x):=by
 induction E with
 |nil=>intro j h;simp at h
 |cons p t b =>
  intro j h;have e:∀(q:Sp.Ed) (u:List Sp.Ed),dp (q::u)=Z Y (q.dj:Int)::Z Y (q.cR:Int)::Z Y q.n::dp u:=λq u=>by simp[dp]
  cases j with
  |zero=>simp[e]
  |succ j =>
   have:=b j (by simpa using h);rw[List.set_cons_succ,e,e,<-this,show (j+1)*3=j*3+1+1+1 by omega];simp[List.set_cons_succ]
def tY(w:WR)(g j:Nat)(x:Sp.Ed):WR:=((w.setCell ⟨g,j*3,U⟩ (Z Y (x.dj:Int))).setCell ⟨g,j*3+1,U⟩ (Z Y (x.cR:Int))).setCell ⟨g,j*3+2,U⟩ (Z Y x.n)
variable {w:WR}
theorem Fp{B e g cap:Nat}{X:List Sp.Ed}(h:w.ownsRow B e 3 (J (S ⟨g,0,U⟩) (Xg X) cap) (Xg X) (dp X))(j:Nat)(I:j<Xg X)(x:Sp.Ed):(tY w g j x).ownsRow B e 3 (J (S ⟨g,0,U⟩) (Xg X) cap) (Xg X) (dp (X.set j x))/\w.grownBy (tY w g j x) (S g):=by
 obtain⟨W,L⟩:=h;rcases L with ⟨z,q⟩|⟨i,A,b,z,M,C,m,r,u,N⟩
 .omega
 .injection z with e1 e2 e3;injection e1 with e1;injection e1 with e1;subst e1 e3;have P:=setCell_eq_setRow w g (j*3) b e (0,0) (Z Y (x.dj:Int)) C;have F:=U8 w g b (b.setIfInBounds (j*3) (Z Y (x.dj:Int))) e (0,0) C;have Q:=setCell_eq_setRow _ g (j*3+1) _ e (0,0) (Z Y (x.cR:Int)) F;have G:=U8 _ g _ ((b.setIfInBounds (j*3) (Z Y (x.dj:Int))).setIfInBounds (j*3+1) (Z Y (x.cR:Int))) e (0,0) F;have R:=setCell_eq_setRow _ g (j*3+2) _ e (0,0) (Z Y x.n) G;have T:=U8 _ g _ (((b.setIfInBounds (j*3) (Z Y (x.dj:Int))).setIfInBounds (j*3+1) (Z Y (x.cR:Int))).setIfInBounds (j*3+2) (Z Y x.n)) e (0,0) G;have V:tY w g j x=((w.setRow g (b.setIfInBounds (j*3) (Z Y (x.dj:Int)))).setRow g ((b.setIfInBounds (j*3) (Z Y (x.dj:Int))).setIfInBounds (j*3+1) (Z Y (x.cR:Int)))).setRow g (((b.setIfInBounds (j*3) (Z Y (x.dj:Int))).setIfInBounds (j*3+1) (Z Y (x.cR:Int))).setIfInBounds (j*3+2) (Z Y x.n)):=by
   unfold tY;rw[P,Q,R]
  rw[V];refine⟨⟨by rw[QV,VR],.inr ⟨g,cap,_,O,M,T,m,r,by simpa using u,?_⟩⟩,⟨O,O,O,by simp[World.setRow],λk f y=>?_⟩⟩
  .rw[<-Qd X x j I,<-N];simp only[Array.toList_setIfInBounds,List.take_set]
  .have l:k≠g:=λe=>y (by rw[e])
   rw[U5 _ g k _ l,U5 _ g k _ l,U5 _ g k _ l]
theorem dD{a b c:WR}{r:Option Nat}(h:a.grownBy b r)(k:b.grownBy c r):a.grownBy c r:=⟨k.os.trans h.os,k.tape.trans h.tape,k.output.trans h.output,Uc h.size k.size,λi hi e=>(k.block i (Ux hi h.size) e).trans (h.block i hi e)⟩
theorem fH{w':WR}{r:Option Nat}(h:WQ w w'): w.grownBy w' r:=⟨h.os,h.tape,h.output,h.size,λk b _=>h.block k b⟩
theorem iv(w:WR)(r:Option Nat):w.grownBy w r:=⟨O,O,O,TY _,λ_ _ _=>O⟩
def JX(X:List Sp.Ed)(i j:Nat)(hi:i<Xg X)(b:j<Xg X):List Sp.Ed:=(X.set i X[j]).set j X[i]
theorem L8{B e g cap:Nat}{X:List Sp.Ed}(h:w.ownsRow B e 3 (J (S ⟨g,0,U⟩) (Xg X) cap) (Xg X) (dp X))(i j:Nat)(hi:i<Xg X)(m:j<Xg X):(tY (tY w g i X[j]) g j X[i]).drew.ownsRow B e 3 (J (S ⟨g,0,U⟩) (Xg X) cap) (Xg X) (dp (JX X i j hi m))/\w.grownBy (tY (tY w g i X[j]) g j X[i]).drew (S g):=by
 obtain⟨u,y⟩:=Fp h i hi X[j];have l:(X.set i X[j]).length=Xg X:=VR;have b:=u;rw[<-l] at b;obtain⟨r,z⟩:=Fp b j (by rw[l];exact m) X[i];rw[l] at r;exact⟨dd r WO.drew,dD (dD y z) (fH WO.drew)⟩
end
section
def sw(X:List Sp.Ed)(i j:Nat):List Sp.Ed:=if h:i<Xg X/\j<Xg X then JX X i j h.1 h.2 else X
theorem zP(X:List Sp.Ed)(i j:Nat):(sw X i j).length=Xg X:=by
 unfold sw;split
 .simp[JX]
 .rfl
def IH(X:List Sp.Ed)(a b:Nat):Nat->List Sp.Ed
 |0=>X
 |i+1=>sw (IH X a b i) (a+i) (b+i)
theorem pE(X:List Sp.Ed)(a b:Nat):∀n,(IH X a b n).length=Xg X
 |0=>rfl
 |n+1=>by rw[IH,zP,pE]
variable {w:WR}{g cap e B:Nat}
theorem dL{n:Nat}{l:List WS}(h:w.ownsRow B e 3 (J (S ⟨g,0,U⟩) n cap) n l)(k:Nat): w.frozen? ⟨g,k,U⟩=W9:=by
 rcases h.2 with ⟨b,u⟩|⟨y,j,m,b,z,r,_⟩
 .cases b
 .injection b with e1 e2 e3;injection e1 with e1;injection e1 with e1;subst e1;simp[World.frozen?,r]
theorem xO{X:List Sp.Ed}(h:w.ownsRow B e 3 (J (S ⟨g,0,U⟩) (Xg X) cap) (Xg X) (dp X))(j:Nat)(b:j<Xg X):w.cell? ⟨g,j*3,U⟩=S (Z Y (X[j].dj:Int))/\w.cell? ⟨g,j*3+1,U⟩=S (Z Y (X[j].cR:Int))/\w.cell? ⟨g,j*3+2,U⟩=S (Z Y X[j].n):=by
 obtain⟨l,m,r⟩:=I2 X j b;exact⟨(h.cellAt _ (by omega)).trans l,(h.cellAt _ (by omega)).trans m,(h.cellAt _ (by omega)).trans r⟩
theorem oV{n:Nat}{X:List Sp.Ed}(r:Xg X=n)(h:w.ownsRow B e 3 (J (S ⟨g,0,U⟩) n cap) n (dp X))(i j:Nat)(hi:i<n)(m:j<n): ∃b l:Sp.Ed,
  (w.cell? ⟨g,i*3,U⟩=S (Z Y (b.dj:Int))/\w.cell? ⟨g,i*3+1,U⟩=S (Z Y (b.cR:Int))/\w.cell? ⟨g,i*3+2,U⟩=S (Z Y b.n))/\
  (w.cell? ⟨g,j*3,U⟩=S (Z Y (l.dj:Int))/\w.cell? ⟨g,j*3+1,U⟩=S (Z Y (l.cR:Int))/\w.cell? ⟨g,j*3+2,U⟩=S (Z Y l.n))/\
  Hid ((tY (tY w g i l) g j b).drew.ownsRow B e 3 (J (S ⟨g,0,U⟩) n cap) n (dp (sw X i j))/\w.grownBy (tY (tY w g i l) g j b).drew (S g))/\Hid (X[i]?=S b/\X[j]?=S l):=by
 subst r;have e:sw X i j=JX X i j hi m:=by unfold sw;rw[dif_pos ⟨hi,m⟩]
 rw[e];exact⟨X[i],X[j],xO h i hi,xO h j m,L8 h i j hi m,Uk hi,Uk m⟩
theorem xe(g cap B a b n:Nat)(X:List Sp.Ed)(z:WS)(w:WR)(h:w.ownsRow B 162 3 (J (S ⟨g,0,U⟩) (Xg X) cap) (Xg X) (dp X))(A:a+n<=b)(hb:b+n<=Xg X)(G:Xg X<=5000):WT prog 255 #[J (S ⟨g,0,U⟩) (Xg X) cap,Z Y a,Z Y b,Z Y n,z] w λe u=>e=WZ (WX #[])/\
   u.ownsRow B 162 3 (J (S ⟨g,0,U⟩) (Xg X) cap) (Xg X) (dp (IH X a b n))/\w.grownBy u (S g):=by
 go_enter func255,ntmps255;go_wp2
 go_loopw [10] (λi wr=>∃k:Nat,k<=n/\i=Z Y k/\wr.ownsRow B 162 3 (J (S ⟨g,0,U⟩) (Xg X) cap) (Xg X) (dp (IH X a b k))/\w.grownBy wr (S g)) (λi _=>n-(intOf i).toNat)
 case atStart=>exact⟨0,Ud _,rfl,h,iv _ _⟩
 case round =>
  obtain⟨k,I,rfl,j,l⟩:=hrel;by_cases C:k<n
  .have L:(a:Int)+(k:Int)<(Xg X:Int):=by omega
   have M:(b:Int)+(k:Int)<(Xg X:Int):=by omega
   have N:=dL j ((a+k)*3);have P:=dL j ((a+k)*3+1);have Q:=dL j ((a+k)*3+2);have R:=dL j ((b+k)*3);have T:=dL j ((b+k)*3+1);have V:=dL j ((b+k)*3+2);obtain⟨W,q,⟨t,s,p⟩,⟨o,y1,y2⟩,y,HX⟩:=oV (pE X a b k) j (a+k) (b+k) (by omega) (by omega);have m:=cT l;have F:a+k<b+k:=by omega
   clear j l h;go_wp2_with fail
   go_region
   go_wp2;go_roundw
   case rel=>exact⟨k+1,by omega,by go_num,(cS y).1,dD (cS m) (cS y).2⟩
   case measure=>simp[intOf];omega
  .have r:n=k:=by omega
   subst r;go_wp2
   go_end0
   exact⟨O,j,l⟩
end
section
theorem lB(X:List Sp.Ed)(i j:Nat)(hi:i<Xg X)(b:j<Xg X)(t:Nat):(sw X i j)[t]?=if t=j then X[i]? else if t=i then X[j]? else X[t]?:=by
 unfold sw;rw[dif_pos ⟨hi,b⟩];unfold JX;by_cases l:t=j
 .subst l;rw[T0 rfl];simp[b]
 .rw[TZ l,V7 (λe=>l e.symm)];by_cases m:t=i
  .subst m;rw[T0 rfl];simp[hi,b]
  .rw[TZ m,V7 (λe=>m e.symm)]
theorem NK(X:List Sp.Ed)(a b:Nat):∀n,a+n<=b->b+n<=Xg X->∀t,(IH X a b n)[t]?=if a<=t/\t<a+n then X[t+(b-a)]? else if b<=t/\t<b+n then X[t-(b-a)]? else X[t]?:=by
 intro n
 induction n with
 |zero=>intro u y t;rw[TZ (by omega),TZ (by omega)];rfl
 |succ n e =>
  intro u y t;have e:=e (by omega) (by omega);rw[IH,lB _ _ _ (by rw[pE];omega) (by rw[pE];omega),e,e,e];by_cases j:t=b+n
  .subst j;rw[T0 O,TZ (by omega),TZ (by omega),TZ (by omega),T0 (by omega),show b+n-(b-a)=a+n by omega]
  .rw[TZ j];by_cases l:t=a+n
   .subst l;rw[T0 O,TZ (by omega),TZ (by omega),T0 (by omega),show a+n+(b-a)=b+n by omega]
   .rw[TZ l];by_cases m:a<=t/\t<a+n
    .rw[T0 m,T0 (by omega)]
    .rw[TZ m,TZ (by omega:¬(a<=t/\t<a+(n+1)))];by_cases r:b<=t/\t<b+n
     .rw[T0 r,T0 (by omega)]
     .rw[TZ r,TZ (by omega)]
theorem sB(A P M Q B:List Sp.Ed)(h:Xg P=Xg Q):IH (A++(P++(M++(Q++B)))) (Xg A) (Xg A+Xg P+Xg M) (Xg P)=A++(Q++(M++(P++B))):=by
 apply List.ext_getElem?;intro t;rw[NK _ _ _ _ (by omega) (by simp;omega)];by_cases b:Xg A<=t/\t<Xg A+Xg P
 .rw[T0 b,show (Xg A)+Xg P+Xg M-Xg A=Xg P+Xg M by omega];rw[Ul (by omega),Ul (by omega),Ul (by omega),UY (by omega)];rw[Ul (by omega),UY (by omega)]
  congr 1;omega
 .rw[TZ b];by_cases e:Xg A+Xg P+Xg M<=t/\t<Xg A+Xg P+Xg M+Xg P
  .rw[T0 e,show (Xg A)+Xg P+Xg M-Xg A=Xg P+Xg M by omega];rw[Ul (by omega),UY (by omega)];rw[Ul (by omega),Ul (by omega),Ul (by omega),UY (by omega)]
   congr 1;omega
  .rw[TZ e];by_cases j:t<Xg A
   .rw[UY j,UY j]
   .by_cases l:t<Xg A+Xg P+Xg M
    .rw[Ul (by omega),Ul (by omega),UY (by omega)];rw[Ul (by omega),Ul (by omega),UY (by omega)]
     congr 1;omega
    .rw[Ul (by omega),Ul (by omega),Ul (by omega),Ul (by omega)];rw[Ul (by omega),Ul (by omega),Ul (by omega),Ul (by omega)]
     congr 1;omega
def sQ(X:List Sp.Ed)(a m b:Nat):List Sp.Ed:=X.take a++((X.take b).drop m++((X.take m).drop a++X.drop b))
theorem kq(A b V B:List Sp.Ed):sQ (A++(b++(V++B))) (Xg A) (Xg A+Xg b) (Xg A+Xg b+Xg V)=A++(V++(b++B)):=by
 unfold sQ;have e:(A++(b++(V++B))).take (Xg A)=A:=by simp
 have j:(A++(b++(V++B))).take (Xg A+Xg b)=A++b:=by
  rw[<-UO,Vk (by simp <;> omega),Vc (by simp <;> omega)]
 have l:(A++(b++(V++B))).take (Xg A+Xg b+Xg V)=A++b++V:=by
  rw[<-UO,<-UO,Vk (by simp <;> omega),Vc (by simp <;> omega)]
 have m:(A++(b++(V++B))).drop (Xg A+Xg b+Xg V)=B:=by
  rw[<-UO,<-UO,List.drop_left' (by simp <;> omega)]
 rw[e,j,l,m,List.drop_left' (by simp),List.drop_left' (by simp)]
theorem rD(X:List Sp.Ed)(a m b:Nat)(h1:a<=m)(h2:m<=b)(r:b<=Xg X):∃A e V B,X=A++(e++(V++B))/\(Xg A)=a/\(Xg e)=m-a/\(Xg V)=b-m:=by
 refine⟨X.take a,(X.take m).drop a,(X.take b).drop m,X.drop b,?_,by simp;omega,by simp;omega,by simp;omega⟩;have j:(X.take b).drop m++X.drop b=X.drop m:=by
  have:=U7 b X
  conv=>rhs;rw[<-this]
  rw[Wx (by simp;omega)]
 have l:(X.take m).drop a++X.drop m=X.drop a:=by
  have:=U7 m X
  conv=>rhs;rw[<-this]
  rw[Wx (by simp;omega)]
 rw[j,l,U7]
end
section
theorem Qz(b:List Sp.Ed)(m i j:Nat)(G:j<i)(I:i<=m)(L:m+j<=Xg b):sQ (IH b (m-i) m j) (m-(i-j)) m (m+j)=sQ b (m-i) m (m+j):=by
 obtain⟨A,e,V,B,rfl,z,M,N⟩:=rD b (m-i) m (m+j) (by omega) (by omega) L;obtain⟨l,r,rfl,C⟩:∃l r,e=l++r/\(Xg l)=j:=⟨e.take j,e.drop j,(U7 _ _).symm,by simp;omega⟩
 rw[UG] at M;have F:=sB A l r V B (by omega);have u:=kq (A++V) r l B;have y:=kq A (l++r) V B;rw[UG] at u y;rw[show (Xg A)+Xg l+Xg r=m by omega,C,z] at F;rw[show (Xg A)+Xg V+Xg r=m by omega,show (Xg A)+Xg V=m-(i-j) by omega,C] at u;rw[show (Xg A)+(Xg l+Xg r)=m by omega,show m+Xg V=m+j by omega,z] at y;rw[y,UO,F,<-UO,u];simp[UO]
theorem PW(b:List Sp.Ed)(m i j:Nat)(F:i<j)(G:i<=m)(I:m+j<=Xg b):sQ (IH b (m-i) (m+j-i) i) (m-i) m (m+(j-i))=sQ b (m-i) m (m+j):=by
 obtain⟨A,e,V,B,rfl,u,M,L⟩:=rD b (m-i) m (m+j) (by omega) (by omega) I;obtain⟨l,r,rfl,N⟩:∃l r,V=l++r/\(Xg l)=j-i:=⟨V.take (j-i),V.drop (j-i),(U7 _ _).symm,by simp;omega⟩
 rw[UG] at L;have z:=sB A e l r B (by omega);have C:=kq A r l (e++B);have y:=kq A e (l++r) B;rw[UG] at y;rw[show (Xg A)+Xg e+Xg l=m+j-i by omega,show (Xg e)=i by omega,u] at z;rw[show (Xg A)+Xg r=m by omega,show m+Xg l=m+(j-i) by omega,u] at C;rw[show (Xg A)+Xg e=m by omega,show m+(Xg l+Xg r)=m+j by omega,u] at y;rw[y,UO,z,C];simp[UO]
theorem LY(b:List Sp.Ed)(m i:Nat)(u:i<=m)(y:m+i<=Xg b):IH b (m-i) m i=sQ b (m-i) m (m+i):=by
 obtain⟨A,e,V,B,rfl,l,z,C⟩:=rD b (m-i) m (m+i) (by omega) (by omega) y;have j:=sB A e [] V B (by omega);have r:=kq A e V B;simp only[U2,Vl,U9] at j;rw[show (Xg A)+Xg e=m by omega,show (Xg e)=i by omega,l] at j;rw[show (Xg A)+Xg e=m by omega,show m+Xg V=m+i by omega,l] at r;rw[j,r]
theorem nR(g cap B a b n N:Nat)(m r u:Int)(X:List Sp.Ed)(y:WS)(w:WR)(ha:m=(a:Int))(j:r=(b:Int))(A:u=(n:Int))(C:Xg X=N)(h:w.ownsRow B 162 3 (J (S ⟨g,0,U⟩) N cap) N (dp X))(l:a+n<=b)(hb:b+n<=N)(F:N<=5000):WT prog 255 #[J (S ⟨g,0,U⟩) N cap,Z Y m,Z Y r,Z Y u,y] w λe z=>e=WZ (WX #[])/\
   z.ownsRow B 162 3 (J (S ⟨g,0,U⟩) N cap) N (dp (IH X a b n))/\w.grownBy z (S g):=by
 subst ha j A C;exact xe g cap B a b n X y w h l hb F
theorem D3(g cap B a m b N:Nat)(X:List Sp.Ed)(G:WS)(w:WR)(R:Xg X=N)(h:w.ownsRow B 162 3 (J (S ⟨g,0,U⟩) N cap) N (dp X))(t:a<m)(s:m<b)(hb:b<=N)(I:N<=5000):WT prog 241 #[J (S ⟨g,0,U⟩) N cap,Z Y a,Z Y m,Z Y b,G] w λe T=>e=WZ (WX #[])/\
   T.ownsRow B 162 3 (J (S ⟨g,0,U⟩) N cap) N (dp (sQ X a m b))/\w.grownBy T (S g):=by
 have p:=cT R;clear R;go_enter func241,ntmps241;go_wp2
 go_loopw [10,11] (λu v wr=>∃(i j:Nat) (l:List Sp.Ed),u=Z Y i/\v=Z Y j/\0<i/\0<j/\i<=m-a/\j<=b-m/\Hid (Xg l=N)/\wr.ownsRow B 162 3 (J (S ⟨g,0,U⟩) N cap) N (dp l)/\w.grownBy wr (S g)/\Hid (sQ l (m-i) m (m+j)=sQ X a m b)) (λu v _=>(intOf u).toNat+(intOf v).toNat)
 case atStart=>exact⟨m-a,b-m,X,by go_num,by go_num,by omega,by omega,by omega,by omega,p,h,iv _ _,by show _=_;rw[show m-(m-a)=a by omega,show m+(b-m)=b by omega]⟩
 case round =>
  obtain⟨i,j,l,rfl,rfl,L,M,hi,o,A,V,F,P⟩:=hrel;have Q:=cT V;have C:=cT F;clear V F h;rcases Nat.lt_trichotomy i j with r|r|r
  .have W:((i:Int) != (j:Int))=W8:=by rw[VH];omega
   go_wp2_with fail;refine(nR g cap B (m-i) (m+j-i) i N _ _ _ l G _ (by omega) (by omega) (by omega) (cS A) (cS Q) (by omega) (by omega) I).mono ?_;rintro e q ⟨rfl,y,z⟩;go_wp2;go_roundw
   case rel=>exact⟨i,j-i,_,rfl,by go_num,L,by omega,hi,by omega,by show _=_;rw[pE];exact cS A,y,dD (cS C) z,by show _=_;rw[<-cS P];exact PW l m i j r (by omega) (by rw[cS A];omega)⟩
   case measure=>simp[intOf];omega
  .subst r;have W:((i:Int) != (i:Int))=W9:=by simp
   go_wp2_with fail;refine(nR g cap B (m-i) m i N _ _ _ l G _ (by omega) (by omega) (by omega) (cS A) (cS Q) (by omega) (by omega) I).mono ?_;rintro e q ⟨rfl,y,z⟩;go_wp2
   go_end0
   refine⟨O,?_,dD (cS C) z⟩;rw[<-cS P,<-LY l m i (by omega) (by rw[cS A];omega)];exact y
  .have W:((i:Int) != (j:Int))=W8:=by rw[VH];omega
   go_wp2_with fail;refine(nR g cap B (m-i) m j N _ _ _ l G _ (by omega) (by omega) (by omega) (cS A) (cS Q) (by omega) (by omega) I).mono ?_;rintro e q ⟨rfl,y,z⟩;go_wp2;go_roundw
   case rel=>exact⟨i-j,j,_,by go_num,rfl,by omega,M,by omega,o,by show _=_;rw[pE];exact cS A,y,dD (cS C) z,by show _=_;rw[<-cS P];exact Qz l m i j r (by omega) (by rw[cS A];omega)⟩
   case measure=>simp[intOf];omega
end
namespace Sp
open Go
def fV(L:List Ln):Tb:=(L.filter λl=>!l.jz).map λl=>(l.dj,l.n)
theorem rO(A B:List Ln):fV (A++B)=fV A++fV B:=by simp[fV]
theorem tq(L:List Ln):(fV L).length=nv L:=by
 have h:∀M:List Ln,(M.filter λl=>!l.jz).length+(M.filter λl=>l.jz).length=Xg M:=by
  intro M
  induction M with
  |nil=>rfl
  |cons l t b=>cases hl:l.jz <;> simp[hl] <;> omega
 have:=h L;unfold fV nv oM;rw[UX];omega
theorem vG(L:List Ln)(n:Nat)(h:Xg L<=n)(a:Int):Bw L n a=dF (fV L) a:=by
 unfold Bw dF fV;rw[Vc h]
 induction L with
 |nil=>rfl
 |cons l t b =>
  have:=b (by simp at h;omega);cases hl:l.jz with
  |true=>simp only[List.any_cons,S1,hl,Bool.not_true,Bool.false_and,Bool.false_or,VO];simpa [S1] using this
  |false=>simp only[List.any_cons,S1,hl,Bool.not_false,Bool.true_and,VO,UL,U4];rw[<-this]
theorem tm{T b:Tb}(h:T.Perm b)(a:Int):dF T a=dF b a:=by
 unfold dF;apply Bool.eq_iff_iff.2;rw[Vu,Vu];constructor
 .rintro⟨p,j,e⟩;exact⟨p,h.mem_iff.1 j,e⟩
 .rintro⟨p,j,e⟩;exact⟨p,h.mem_iff.2 j,e⟩
theorem tt{T b:Tb}(h:T.Perm b)(a:Int):dw T a=dw b a:=(h.filter _).length_eq
theorem qs(L:List Ln)(a:Int):dw (fV L) a=low L a:=by
 unfold dw fV low;rw[List.filter_map,UX,List.filter_filter]
 congr 2
 funext l
 simp[OV,Bool.and_comm]
theorem Hy(T:Tb)(a v:Int):(gJ T a v).Perm ((a,v)::T):=by
 unfold gJ;refine List.perm_middle.trans ?_;rw[U7]
theorem gD(P Q:List (Option Ln)):dH (P++Q)=dH P++dH Q:=by simp[dH]
theorem I9(P:List (Option Ln)):∀k,(dT P k).length=(dH P).length:=by
 induction P with
 |nil=>intro k;rfl
 |cons p t b =>
  intro k;cases p with
  |none=>simpa [dT,dH] using b (k+1)
  |some l=>simpa [dT,dH] using b (k+1)
theorem Ex(P R:List (Option Ln))(l:Ln):(dT (P++S l::R) 0).getD (dH P).length 0=Xg P:=by
 rw[oS,<-I9 P 0];simp[dT,List.getD]
theorem E0(P R:List (Option Ln))(l:Ln):(dH (P++S l::R))[(dH P).length]?=S l:=by
 rw[gD];simp[dH]
theorem NJ:∀(R P:List (Option Ln)) (T:Tb),di T->T.Perm (fV (dH P))->(∀i,i<(dH P).length->kJ (dH (P++R)) i=W9)->
  (∃i,first (kJ (dH (P++R))) (dH (P++R)).length=S i/\gv R (Xg P) T=.error ((dT (P++R) 0).getD i 0))\/
  (first (kJ (dH (P++R))) (dH (P++R)).length=U/\∃B,gv R (Xg P) T=.ok B/\di B/\B.Perm (fV (dH (P++R)))):=by
 intro R
 induction R with
 |nil =>
  intro P T z y u;right;rw[Vr] at u ⊢;exact⟨ja u,T,O,z,y⟩
 |cons q r C =>
  intro P T z y u;have e:P++q::r=(P++[q])++r:=by simp
  have m:(P++[q]).length=Xg P+1:=by simp
  cases q with
  |none =>
   have b:dH (P++[U])=dH P:=by rw[gD];simp[dH]
   have:=C (P++[U]) T z (by rw[b];exact y) (by rw[b,<-e];exact u);rw[<-e,m] at this;exact this
  |some l =>
   have b:dH (P++[S l])=dH P++[l]:=by rw[gD];simp[dH]
   have A:=E0 P r l;have F:(dH P).length<(dH (P++S l::r)).length:=by rw[gD];simp[dH]
   have G:(dH (P++S l::r)).take (dH P).length=dH P:=by rw[gD];simp
   cases j:l.jz with
   |true =>
    have I:fV (dH (P++[S l]))=fV (dH P):=by rw[b,rO];simp[fV,j]
    have N:kJ (dH (P++S l::r)) (dH P).length=W9:=by unfold kJ;rw[A];simp[j]
    have:=C (P++[S l]) T z (by rw[I];exact y) (by
     intro i hi;rw[<-e];rw[b] at hi;simp at hi;rcases Wp (Nat.le_of_lt_succ hi) with h|h
     .exact u i h
     .rw[h];exact N)
    rw[<-e,m] at this;have L:gv (S l::r) (Xg P) T=gv r (Xg P+1) T:=by simp only[gv,j,UL]
    rw[L];exact this
   |false =>
    have M:kJ (dH (P++S l::r)) (dH P).length=dF T l.dj:=by
     unfold kJ;rw[A];simp only[j,Bool.not_false,Bool.true_and];rw[tm y,<-vG (dH P) (dH P).length WN];unfold Bw;rw[G,Vd]
    cases hh:dF T l.dj with
    |true =>
     left;refine⟨(dH P).length,nZ F u (by rw[M,hh]),?_⟩;rw[Ex];simp only[gv,j,hh];rfl
    |false =>
     have I:fV (dH (P++[S l]))=fV (dH P)++[(l.dj,l.n)]:=by rw[b,rO];simp[fV,j]
     have:=C (P++[S l]) (gJ T l.dj l.n) (iq z hh) (by
      rw[I];refine(Hy T l.dj l.n).trans ?_;refine(List.Perm.cons _ y).trans ?_;exact(List.perm_append_singleton _ _).symm) (by
       intro i hi;rw[<-e];rw[b] at hi;simp at hi;rcases Wp (Nat.le_of_lt_succ hi) with h|h
       .exact u i h
       .rw[h,M,hh])
     rw[<-e,m] at this;have L:gv (S l::r) (Xg P) T=gv r (Xg P+1) (gJ T l.dj l.n):=by simp only[gv,j,hh];rfl
     rw[L];exact this
def gj(L M:List Ln):List Ed:=(M.filter λl=>l.jz).map λl=>⟨low L l.dj,low L l.cR,l.n⟩
theorem rN(L A B:List Ln):gj L (A++B)=gj L A++gj L B:=by simp[gj]
theorem Ie(L:List Ln):(gj L L).length=oM L:=by simp[gj,oM]
theorem Np(T:Tb)(L:List Ln)(V:T.Perm (fV L)):∀(R P:List (Option Ln)),dH (P++R)=L->(∀i,i<(dH P).length->loose L i=W9)->
  (∃i,first (loose L) (Xg L)=S i/\ge T R (Xg P) (gj L (dH P))=.error ((dT (P++R) 0).getD i 0))\/
  (first (loose L) (Xg L)=U/\ge T R (Xg P) (gj L (dH P))=.ok (gj L L)):=by
 have z:∀a,dF T a=Bw L (Xg L) a:=λa=>by rw[tm V,vG L _ WN]
 have A:∀a,dw T a=low L a:=λa=>by rw[tt V,qs]
 intro R
 induction R with
 |nil =>
  intro P B C;right;rw[Vr] at B;rw[B] at C;rw[B];exact⟨ja C,O⟩
 |cons q r M =>
  intro P B C;have e:P++q::r=(P++[q])++r:=by simp
  have m:(P++[q]).length=Xg P+1:=by simp
  cases q with
  |none =>
   have b:dH (P++[U])=dH P:=by rw[gD];simp[dH]
   have:=M (P++[U]) (by rw[<-e];exact B) (by rw[b];exact C);rw[<-e,m,b] at this;exact this
  |some l =>
   have b:dH (P++[S l])=dH P++[l]:=by rw[gD];simp[dH]
   have y:=E0 P r l;have F:(dH P).length<(dH (P++S l::r)).length:=by rw[gD];simp[dH]
   rw[B] at y F;have u:loose L (dH P).length=W9->∀i,i<(dH (P++[S l])).length->loose L i=W9:=by
    intro G i hi;rw[b] at hi;simp at hi;rcases Wp (Nat.le_of_lt_succ hi) with h|h
    .exact C i h
    .rw[h];exact G
   cases j:l.jz with
   |false =>
    have G:loose L (dH P).length=W9:=by unfold loose;rw[y];simp[j]
    have N:gj L (dH (P++[S l]))=gj L (dH P):=by rw[b,rN];simp[gj,j]
    have:=M (P++[S l]) (by rw[<-e];exact B) (u G);rw[<-e,m,N] at this;have Q:ge T (S l::r) (Xg P) (gj L (dH P))=ge T r (Xg P+1) (gj L (dH P)):=by simp only[ge,j];rfl
    rw[Q];exact this
   |true =>
    by_cases I:dF T l.dj=W8/\dF T l.cR=W8
    .have G:loose L (dH P).length=W9:=by unfold loose;rw[y];simp[j,<-z,I.1,I.2]
     have N:gj L (dH (P++[S l]))=gj L (dH P)++[⟨low L l.dj,low L l.cR,l.n⟩]:=by rw[b,rN];simp[gj,j]
     have:=M (P++[S l]) (by rw[<-e];exact B) (u G);rw[<-e,m,N] at this;have Q:ge T (S l::r) (Xg P) (gj L (dH P))=ge T r (Xg P+1) (gj L (dH P)++[⟨low L l.dj,low L l.cR,l.n⟩]):=by
      simp only[ge,j,UL];rw[T0 I,A,A]
     rw[Q];exact this
    .left;refine⟨(dH P).length,nZ F C ?_,?_⟩
     .unfold loose;rw[y];simp only[j,Bool.true_and,<-z];cases W:dF T l.dj with
      |false=>rfl
      |true =>
       cases X:dF T l.cR with
       |false=>rfl
       |true=>exact absurd ⟨W,X⟩ I
     .rw[Ex];simp only[ge,j,UL];rw[TZ I]
end Sp
namespace Sp
open Go
variable {T:Tb}
theorem vz(e:di T){j:Nat}(l:j<Xg T): dw T (T[j]).1=j:=jO (by omega) (λi hi b=>eu e b l) (λi hi b=>fe e b hi)
theorem zR(b:di T){k:Nat}(r:k<Xg T): T.filter (λp=>dw T p.1 == k)=[T[k]]:=by
 have e:T=T.take k++T[k]::T.drop (k+1):=by
  rw[<-UJ r,U7]
 have u:(T.take k).filter (λp=>dw T p.1 == k)=[]:=by
  rw[Ww];intro p l;obtain⟨j,m,rfl⟩:=UP.1 l;rw[Vj] at m;rw[List.getElem_take,vz b (by omega)];simp;omega
 have y:(T.drop (k+1)).filter (λp=>dw T p.1 == k)=[]:=by
  rw[Ww];intro p l;obtain⟨j,m,rfl⟩:=UP.1 l;rw[Vb] at m;rw[List.getElem_drop,vz b (by omega)];simp;omega
 have z:([T[k]]:Tb).filter (λp=>dw T p.1 == k)=[T[k]]:=by
  rw[VO,vz b r];simp
 have A:(T.take k++([T[k]]++T.drop (k+1))).filter (λp=>dw T p.1 == k)=[T[k]]:=by rw[VB,VB,u,y,z];rfl
 exact(congrArg (List.filter (λp=>dw T p.1 == k)) e).trans A
variable {L:List Ln}
theorem IA(m:di T)(e:T.Perm (fV L)){k:Nat}(r:k<Xg T): (RL L k (Xg L)).map (λl=>(l.dj,l.n))=[T[k]]:=by
 have b:∀a,low L a=dw T a:=λa=>by rw[tt e,qs]
 have u:(RL L k (Xg L)).map (λl=>(l.dj,l.n))=(fV L).filter (λp=>dw T p.1 == k):=by
  unfold RL fV;rw[Vd,List.filter_map,List.filter_filter]
  congr 2
  funext l
  simp[SN,b,Bool.and_comm]
 rw[u];have j:=e.filter (λp=>dw T p.1 == k);rw[zR m r] at j;exact(List.singleton_perm.1 j).symm
theorem MA(b:di T)(e:T.Perm (fV L)): ∀n,n<=Xg T->(vs L n).map (λl=>(l.dj,l.n))=T.take n:=by
 intro n
 induction n with
 |zero=>intro _;rfl
 |succ n j =>
  intro m;rw[vs,Vn,j (by omega),IA b e (by omega)];exact(Vf (by omega)).symm
theorem OC(e:di T)(b:T.Perm (fV L)): (vs L (nv L)).map (λl=>(l.dj,l.n))=T:=by
 have j:Xg T=nv L:=by rw[b.length_eq,tq]
 rw[MA e b _ (by omega),Vc (by omega)]
theorem tw{α : Type}(f : α->Nat)(a:Nat):∀X:List α,X.Pairwise (λx y=>f x<=f y)->X.filter (λx=>decide (f x<a+1))=X.filter (λx=>decide (f x<a))++X.filter (λx=>f x == a):=by
 intro X
 induction X with
 |nil=>intro _;rfl
 |cons x t m =>
  intro h;have l:=(U6.1 h).1;have:=m (U6.1 h).2;rcases Nat.lt_trichotomy (f x) a with b|b|b
  .simp[VO,b,show f x<a+1 by omega,show ¬f x=a by omega,this]
  .have e:t.filter (λx=>decide (f x<a))=[]:=by
    rw[Ww];intro y j;have:=l y j;simp;omega
   rw[e] at this;simp[VO,b,e,this]
  .have e:t.filter (λx=>decide (f x<a))=[]:=by
    rw[Ww];intro y j;have:=l y j;simp;omega
   simp[VO,show ¬f x<a by omega,show ¬f x<a+1 by omega,show ¬f x=a by omega,e,this]
def iF(x y:Ed):Prop:=x.dj<y.dj\/(x.dj=y.dj/\x.cR<=y.cR)
def isKey(a b:Nat)(e:Ed):Bool:=e.dj == a&&e.cR == b
theorem N4(L:List Ln)(a b:Nat):RI L a b (Xg L)=(gj L L).filter (isKey a b):=by
 unfold RI gj;rw[Vd,List.filter_map,List.filter_filter];have e:L.filter (Qm L a b)=L.filter (λl=>(isKey a b ∘ λl=>(⟨low L l.dj,low L l.cR,l.n⟩:Ed)) l&&l.jz):=by
  congr 1
  funext l
  simp[Qm,isKey,Bool.and_comm]
 rw[e];apply Ws;intro l j;have:=(VE.1 j).2;simp[isKey] at this;rw[this.1.1,this.1.2]
theorem SH{n:Nat}{X:List Ed}(z:X.Pairwise iF)(hb:∀x∈X,x.dj<n/\x.cR<n)(A:∀a b,X.filter (isKey a b)=(gj L L).filter (isKey a b)): X=es L n n:=by
 have m:X.Pairwise (λx y=>x.dj<=y.dj):=z.imp (λh=>by rcases h with h | h <;> omega);have e:∀a b,(X.filter (λx=>x.dj == a)).filter (λx=>decide (x.cR<b))=G6 L a b:=by
  intro a b;have r:(X.filter (λx=>x.dj == a)).Pairwise (λx y=>x.cR<=y.cR):=by
   rw[List.pairwise_filter];refine z.imp (λh=>?_);intro j B;simp at j B;rcases h with h|h <;> omega
  induction b with
  |zero=>simp[G6]
  |succ b u =>
   rw[tw (λx:Ed=>x.cR) b _ r,u,G6,N4,<-A]
   congr 1
   rw[List.filter_filter]
   congr 1
   funext x
   simp[isKey,Bool.and_comm]
 have l:∀a,X.filter (λx=>decide (x.dj<a))=es L n a:=by
  intro a
  induction a with
  |zero=>simp[es]
  |succ a u =>
   rw[tw (λx:Ed=>x.dj) a _ m,u,es,<-e a n]
   congr 1
   rw[List.filter_filter];apply List.filter_congr;intro x j;have:=(hb x j).2;simp[this]
 rw[<-l n,Wv.2];intro x j;simpa using (hb x j).1
theorem QA(z:di T)(m:T.Perm (fV L))(r:first (loose L) (Xg L)=U): ∀x∈gj L L,x.dj<nv L/\x.cR<nv L:=by
 have b:∀a,low L a=dw T a:=λa=>by rw[tt m,qs]
 have e:∀a,Bw L (Xg L) a=dF T a:=λa=>by rw[tm m,vG L _ WN]
 have A:Xg T=nv L:=by rw[m.length_eq,tq]
 intro x C;obtain⟨l,u,rfl⟩:=Ve.1 C;obtain⟨F,y⟩:=VE.1 u;obtain⟨i,hi,rfl⟩:=UP.1 F;unfold first at r
 rw[List.find?_eq_none] at r;have j:=r i (VT.2 hi);unfold loose at j;rw[Uk hi] at j;simp only[y,Bool.true_and,e] at j;have B:dF T (L[i]).dj=W8/\dF T (L[i]).cR=W8:=by
  cases G:dF T (L[i]).dj <;> cases hb:dF T (L[i]).cR <;> simp[G,hb] at j ⊢
 simp only[b];obtain⟨I,_⟩:=(iR z _).1 B.1;obtain⟨M,_⟩:=(iR z _).1 B.2;omega
end Sp
section
def St(X e:List Sp.Ed):Prop:=Xg e=Xg X/\∀a b,e.filter (Sp.isKey a b)=X.filter (Sp.isKey a b)
theorem St.refl(X:List Sp.Ed):St X X:=⟨O,λ_ _=>O⟩
variable {X:List Sp.Ed}
theorem St.trans{e j:List Sp.Ed}(h:St X e)(k:St e j): St X j:=⟨k.1.trans h.1,λa b=>(k.2 a b).trans (h.2 a b)⟩
def ot(x y:Sp.Ed):Prop:=x.dj<y.dj\/(x.dj=y.dj/\x.cR<y.cR)
theorem uy(x y:Sp.Ed):zr x y<0↔ot x y:=K6 x y
variable {y x:Sp.Ed}
theorem jD(h:¬ot x y): Sp.iF y x:=by unfold ot at h;unfold Sp.iF;omega
theorem mN(h:ot x y): Sp.iF x y:=by unfold ot at h;unfold Sp.iF;omega
theorem oN{z:Sp.Ed}(h:Sp.iF x y)(k:Sp.iF y z): Sp.iF x z:=by unfold Sp.iF at *;omega
theorem C5(x:Sp.Ed):Sp.iF x x:=by unfold Sp.iF;omega
theorem G3(h:ot x y)(a b:Nat): ¬(Sp.isKey a b x=W8/\Sp.isKey a b y=W8):=by
 rintro⟨e,j⟩;simp[Sp.isKey] at e j;unfold ot at h;omega
theorem JT(A j V B:List Sp.Ed)(h:∀u∈j,∀v∈V,ot v u):St (A++(j++(V++B))) (A++(V++(j++B))):=by
 refine⟨by simp;omega,λa b=>?_⟩;simp only[VB];have:j.filter (Sp.isKey a b)=[]\/V.filter (Sp.isKey a b)=[]:=by
  apply WG;intro l;have m:j.filter (Sp.isKey a b)≠[]:=λe=>l (Xa e)
  have r:V.filter (Sp.isKey a b)≠[]:=λe=>l (Xb e)
  obtain⟨u,hu⟩:=List.exists_mem_of_ne_nil _ m;obtain⟨v,z⟩:=List.exists_mem_of_ne_nil _ r;obtain⟨u1,u2⟩:=VE.1 hu;obtain⟨C,F⟩:=VE.1 z;exact G3 (h u u1 v C) a b ⟨F,u2⟩
 rcases this with e|e <;> rw[e] <;> simp
theorem P4(A B:List Sp.Ed)(x y:Sp.Ed):sw (A++(x::y::B)) (Xg A+1) (Xg A)=A++(y::x::B):=by
 apply List.ext_getElem?;intro t;rw[lB _ _ _ (by simp) (by simp)];by_cases b:t=Xg A
 .subst b;simp
 .rw[TZ b];by_cases e:t=Xg A+1
  .subst e;simp
  .rw[TZ e];by_cases j:t<Xg A
   .rw[UY j,UY j]
   .rw[Ul (by omega),Ul (by omega)];obtain⟨k,l⟩:∃k,t-Xg A=k+2:=⟨t-Xg A-2,by omega⟩
    rw[l];rfl
theorem To(X:List Sp.Ed)(j:Nat)(b:j+1<Xg X):X=X.take j++(X[j]::X[j+1]::X.drop (j+2)):=by
 rw[<-UJ b,<-UJ (by omega),U7]
theorem KZ(X:List Sp.Ed)(j:Nat)(l:j+1<Xg X)(h:ot X[j+1] X[j]):St X (sw X (j+1) j):=by
 have e:=To X j l;have m:(X.take j).length=j:=by simp;omega
 have b:=P4 (X.take j) (X.drop (j+2)) X[j] X[j+1];rw[m,<-e] at b;rw[b];have:=JT (X.take j) [X[j]] [X[j+1]] (X.drop (j+2)) (by simpa using h);simp only[UM,U2] at this;rw[<-e] at this;exact this
def Ord(X:List Sp.Ed)(a b:Nat):Prop := ∀s t x y,a<=s->s<t->t<b->X[s]?=S x->X[t]?=S y->Sp.iF x y
def vM(X:List Sp.Ed)(a b j:Nat):Prop := ∀s t x y,a<=s->s<t->t<b->t≠j->X[s]?=S x->X[t]?=S y->Sp.iF x y
variable {a:Nat}
theorem MM{i:Nat}(h:Ord X a i): vM X a (i+1) i:=λs t x y b e j l=>h s t x y b e (by omega)
theorem FA{b j:Nat}(h:vM X a b j)(he:j<=a\/∃p,p+1=j/\∃x y,X[p]?=S x/\X[j]?=S y/\¬ot y x): Ord X a b:=by
 intro s t x y r B C m u;by_cases z:t=j
 .rcases he with he|⟨p,I,F,L,e,l,A⟩
  .omega
  .subst z;rw[u] at l;injection l with l;subst l;by_cases G:s=p
   .subst G;rw[m] at e;injection e with e;subst e;exact jD A
   .exact oN (h s p x F r (by omega) (by omega) (by omega) m e) (jD A)
 .exact h s t x y r B C z m u
theorem LF{b j:Nat}(h:vM X a b (j+1))(z:a<=j)(L:j+1<b)(F:j+1<Xg X)(A:ot X[j+1] X[j]): vM (sw X (j+1) j) a b j:=by
 intro s t x y G M B N e l;rw[lB _ _ _ F (by omega)] at e l;rw[TZ N] at l;have C:X[j+1]?=S X[j+1]:=Uk F;have u:X[j]?=S X[j]:=Uk (by omega);by_cases m:t=j+1
 .rw[T0 m,u] at l;injection l with l;subst l;by_cases r:s=j
  .rw[T0 r,C] at e;injection e with e;subst e;exact mN A
  .rw[TZ r,TZ (by omega)] at e;exact h s j _ _ G (by omega) (by omega) (by omega) e u
 .rw[TZ m] at l;by_cases r:s=j
  .rw[T0 r,C] at e;injection e with e;subst e;exact h (j+1) t _ _ (by omega) (by omega) B m C l
  .rw[TZ r] at e;by_cases I:s=j+1
   .rw[T0 I,u] at e;injection e with e;subst e;exact h j t _ _ z (by omega) B m u l
   .rw[TZ I] at e;exact h s t _ _ G M B m e l
end
section
def Fj(g cap B N a b:Nat)(X:List Sp.Ed)(w:WR)(e:Ending)(w':WR):Prop:=e=WZ (WX #[])/\∃j,w'.ownsRow B 162 3 (J (S ⟨g,0,U⟩) N cap) N (dp j)/\w.grownBy w' (S g)/\St X j/\Ord j a b/\∀t,t<a\/b<=t->j[t]?=X[t]?
theorem wI(g cap B a b N:Nat)(X:List Sp.Ed)(w:WR)(hX:Xg X=N)(h:w.ownsRow B 162 3 (J (S ⟨g,0,U⟩) N cap) N (dp X))(an:a<=b)(hb:b<=N)(hl:N<=5000):WT prog 222 #[J (S ⟨g,0,U⟩) N cap,Z Y a,Z Y b,.func (.func 106) #[] #[]] w (Fj g cap B N a b X w):=by
 have HX:=cT hX;clear hX;go_enter func222,ntmps222;go_wp2
 go_loopw [8] (λu wr=>∃(i:Nat) (l:List Sp.Ed),u=Z Y i/\a<i/\(i<=b\/i=a+1)/\wr.ownsRow B 162 3 (J (S ⟨g,0,U⟩) N cap) N (dp l)/\w.grownBy wr (S g)/\Hid (Xg l=N)/\Hid (St X l)/\Hid (Ord l a i)/\Hid (∀t,t<a\/b<=t->l[t]?=X[t]?)) (λu _=>b+1-(intOf u).toNat)
 case atStart=>exact⟨a+1,X,by go_num,by omega,Xb rfl,h,iv _ _,HX,St.refl _,λs t x y W h2 h3=>by omega,λt _=>rfl⟩
 case round =>
  obtain⟨i,l,rfl,ao,aq,ho,ad,HY,af,ag,o⟩:=hrel;by_cases ar:i<b
  .have ak:(i:Int)<(b:Int):=by omega
   go_wp2
   go_loopw [9] (λu ah=>∃(j:Nat) (m:List Sp.Ed),u=Z Y j/\a<=j/\j<=i/\ah.ownsRow B 162 3 (J (S ⟨g,0,U⟩) N cap) N (dp m)/\w.grownBy ah (S g)/\Hid (Xg m=N)/\Hid (St X m)/\Hid (vM m a (i+1) j)/\Hid (∀t,t<a\/b<=t->m[t]?=X[t]?)) (λu _=>(intOf u).toNat)
   case atStart=>exact⟨i,l,rfl,by omega,TY _,ho,ad,HY,af,MM (cS ag),o⟩
   case round =>
    obtain⟨j,m,rfl,au,av,P,F,HZ,Q,R,C⟩:=hrel;clear ho ad;by_cases aw:a<j
    .obtain⟨q,HQ⟩:∃q,Hid (j=q+1):=⟨j-1,by show _=_;omega⟩
     have ax:q<j:=by have:=cS HQ;omega
     have ay:a<=q:=by have:=cS HQ;omega
     have az:j<N:=by omega
     have aa:(a:Int)<(j:Int):=by omega
     have aA:(j:Int)<(N:Int):=by omega
     have aB:(q:Int)<(N:Int):=by omega
     have p0:(0:Int)<=(j:Int):=by omega
     have p1:(0:Int)<=(q:Int):=by omega
     have aC:IntKind.i64.wrap ((j:Int)-1)=(q:Int):=by have:=cS HQ;rw[Uy];omega
     obtain⟨L,M,⟨c0,c1,c2⟩,⟨d0,d1,d2⟩,_,T⟩:=oV (cS HZ) P j q (by omega) (by omega);obtain⟨c,hc⟩:∃c,zr L M=c:=⟨_,rfl⟩
     have HC:=cT hc;have ae:=cT (uy L M);rw[hc] at ae;clear hc;have z:g<wr.heap.size:=Ui _ _ c0;by_cases ab:c<0
     .go_wp2_with fail
      go_region_held3 (λG=>(G.cell? ⟨g,j*3,U⟩=S (Z Y (L.dj:Int))/\G.cell? ⟨g,j*3+1,U⟩=S (Z Y (L.cR:Int))/\G.cell? ⟨g,j*3+2,U⟩=S (Z Y L.n))/\(G.cell? ⟨g,q*3,U⟩=S (Z Y (M.dj:Int))/\G.cell? ⟨g,q*3+1,U⟩=S (Z Y (M.cR:Int))/\G.cell? ⟨g,q*3+2,U⟩=S (Z Y M.n)))
       (first|(go_keep;done)|(exact⟨⟨(r.cell (p:=⟨g,_,U⟩) z).trans c0,(r.cell (p:=⟨g,_,U⟩) z).trans c1,(r.cell (p:=⟨g,_,U⟩) z).trans c2⟩,⟨(r.cell (p:=⟨g,_,U⟩) z).trans d0,(r.cell (p:=⟨g,_,U⟩) z).trans d1,(r.cell (p:=⟨g,_,U⟩) z).trans d2⟩⟩))
       (first|(go_at_call 106;refine(gF L M _).mono ?_;rintro e w2 ⟨rfl,r⟩;rw[cS HC]))
      have I:WQ wr w2:=WO.drew.trans r;have A:=dd P I;have f0:=dL A (j*3);have f1:=dL A (j*3+1);have f2:=dL A (j*3+2);have f3:=dL A (q*3);have f4:=dL A (q*3+1);have f5:=dL A (q*3+2);obtain⟨z1,z0,⟨r0,r1,r2⟩,⟨s0,s1,s2⟩,HO,V⟩:=oV (cS HZ) A j q (by omega) (by omega);have ai:=cT (dD F (fH I));obtain rfl:z1=L:=by have W:=(cS T).1;rw[(cS V).1] at W;injection W
      obtain rfl:z0=M:=by have W:=(cS T).2;rw[(cS V).2] at W;injection W
      have HL:Hid (ot z1 z0):=(cS ae).1 ab;clear r I P A c0 c1 c2 d0 d1 d2 F;go_wp2_with fail
      go_region
      go_wp2;go_roundw
      case rel =>
       have aj:=cS HQ;subst aj;have hq:q+1<Xg m:=by rw[cS HZ];omega
       have e1:m[q+1]=z1:=by have:=(cS V).1;rw[Uk hq] at this;injection this
       have e2:m[q]=z0:=by have:=(cS V).2;rw[Uk (by omega)] at this;injection this
       refine⟨q,sw m (q+1) q,by go_num,by omega,by omega,(cS HO).1,dD (cS ai) (cS HO).2,by show _=_;rw[zP];exact cS HZ,(cS Q).trans (KZ m q hq (by rw[e1,e2];exact cS HL)),LF (cS R) (by omega) (by omega) hq (by rw[e1,e2];exact cS HL),?_⟩;intro t ht;rw[lB _ _ _ hq (by omega),TZ (by omega),TZ (by omega)];exact(cS C) t ht
      case measure=>have:=cS HQ;simp[intOf];omega
     .go_wp2_with fail
      go_region_held3 (λG=>(G.cell? ⟨g,j*3,U⟩=S (Z Y (L.dj:Int))/\G.cell? ⟨g,j*3+1,U⟩=S (Z Y (L.cR:Int))/\G.cell? ⟨g,j*3+2,U⟩=S (Z Y L.n))/\(G.cell? ⟨g,q*3,U⟩=S (Z Y (M.dj:Int))/\G.cell? ⟨g,q*3+1,U⟩=S (Z Y (M.cR:Int))/\G.cell? ⟨g,q*3+2,U⟩=S (Z Y M.n)))
       (first|(go_keep;done)|(exact⟨⟨(r.cell (p:=⟨g,_,U⟩) z).trans c0,(r.cell (p:=⟨g,_,U⟩) z).trans c1,(r.cell (p:=⟨g,_,U⟩) z).trans c2⟩,⟨(r.cell (p:=⟨g,_,U⟩) z).trans d0,(r.cell (p:=⟨g,_,U⟩) z).trans d1,(r.cell (p:=⟨g,_,U⟩) z).trans d2⟩⟩))
       (first|(go_at_call 106;refine(gF L M _).mono ?_;rintro e w2 ⟨rfl,r⟩;rw[cS HC]))
      have I:WQ wr w2:=WO.drew.trans r;go_wp2;go_roundw
      case rel=>exact⟨i+1,m,by go_num,by omega,by omega,dd P I,dD F (fH I),HZ,Q,FA (cS R) (Xb ⟨q,(cS HQ).symm,M,L,(cS T).2,(cS T).1,λhq=>(Int.not_lt.2 ab) ((cS ae).2 hq)⟩),C⟩
      case measure=>simp[intOf];omega
    .have aa:¬(a:Int)<(j:Int):=by omega
     have aD:decide ((a:Int)<(j:Int))=W9:=Uu aa;go_wp2_with fail
     go_quiet (fail)
     go_wp2;go_roundw
     case rel=>exact⟨i+1,m,by go_num,by omega,by omega,dd P (below_drewN _ _),dD F (fH (below_drewN _ _)),HZ,Q,FA (cS R) (Xa (by omega)),C⟩
     case measure=>simp[intOf];omega
  .go_wp2
   go_end0
   exact⟨O,l,ho,ad,cS af,λs t x y W h2 h3=>(cS ag) s t x y W h2 (by omega),cS o⟩
end
section
def Out(X e:List Sp.Ed)(a b:Nat):Prop := ∀t,t<a\/b<=t->e[t]?=X[t]?
def Rj(X e:List Sp.Ed)(a b:Nat):Prop := ∀t z,a<=t->t<b->e[t]?=S z->∃s,a<=s/\s<b/\X[s]?=S z
def Kz(X e:List Sp.Ed)(a b:Nat):Prop:=St X e/\Ord e a b/\Out X e a b/\Rj X e a b
theorem Rj.refl(X:List Sp.Ed)(a b:Nat):Rj X X a b:=λt z e j l=>⟨t,e,j,l⟩
variable {X:List Sp.Ed}{a b:Nat}
theorem Kz.refl(h:Ord X a b): Kz X X a b:=⟨St.refl _,h,λ_ _=>O,Rj.refl _ _ _⟩
variable {y x:Sp.Ed}
theorem lD{z:Sp.Ed}(h:Sp.iF x y)(k:ot y z): ot x z:=by unfold Sp.iF at h;unfold ot at *;omega
theorem lF{z:Sp.Ed}(h:ot x y)(k:Sp.iF y z): ot x z:=by unfold Sp.iF at k;unfold ot at *;omega
theorem nL(h:Ord X a b){s t:Nat}(h1:a<=s)(h2:s<=t)(l:t<b)(j:X[s]?=S x)(e:X[t]?=S y): Sp.iF x y:=by
 rcases Wp h2 with h2|h2
 .exact h s t x y h1 h2 l j e
 .subst h2;rw[j] at e;injection e with e;subst e;exact C5 _
def Dn(X e:List Sp.Ed)(a k:Nat):Prop:=St X e/\e[k]?=X[a]?/\(∀t,a<=t->t<k->e[t]?=X[t+1]?)/\(∀t,t<a\/k<t->e[t]?=X[t]?)
theorem Dn.refl(X:List Sp.Ed)(a:Nat):Dn X X a a:=⟨St.refl _,O,λt e j=>by omega,λ_ _=>O⟩
theorem Dn.step{e:List Sp.Ed}{k:Nat}(h:Dn X e a k)(B:a<=k)(N:k+1<Xg X)(j:∀x y,X[a]?=S x->X[k+1]?=S y->ot y x): Dn X (sw e k (k+1)) a (k+1):=by
 obtain⟨z,A,C,l⟩:=h;have P:Xg e=Xg X:=z.1;have F:e[k]?=S e[k]:=Uk (by omega);have G:e[k+1]?=S e[k+1]:=Uk (by omega);have I:ot e[k+1] e[k]:=j _ _ (by rw[<-A,F]) (by rw[<-l (k+1) (by omega),G]);have L:sw e k (k+1)=sw e (k+1) k:=by
  apply List.ext_getElem?;intro t;rw[lB _ _ _ (by omega) (by omega),lB _ _ _ (by omega) (by omega)];by_cases r:t=k+1
  .subst r;rw[T0 O,TZ (by omega),T0 rfl]
  .rw[TZ r,TZ r]
 refine⟨by rw[L];exact z.trans (KZ e k (by omega) I),?_,?_,?_⟩
 .rw[lB _ _ _ (by omega) (by omega),T0 O,A]
 .intro t u M;rw[lB _ _ _ (by omega) (by omega),TZ (by omega)];by_cases c:t=k
  .subst c;rw[T0 O,l _ (by omega)]
  .rw[TZ c,C t u (by omega)]
 .intro t Q;rw[lB _ _ _ (by omega) (by omega),TZ (by omega),TZ (by omega),l t (by omega)]
variable {m:Nat}
theorem Dn.close{e:List Sp.Ed}{i:Nat}(q:m=a+1)(hi:m<=i)(T:i<=b)(hb:b<=Xg X)(G:Ord X m b)(I:∀t x y,m<=t->t<i->X[a]?=S x->X[t]?=S y->ot y x)(L:∀t x y,i<=t->t<b->X[a]?=S x->X[t]?=S y->¬ot y x)(h:Dn X e a (i-1)): Kz X e a b:=by
 obtain⟨V,M,u,F⟩:=h;refine⟨V,?_,λt f=>F t (by omega),?_⟩
 .intro s t x y N A B j l;by_cases P:t<i-1
  .rw[u s N (by omega)] at j;rw[u t (by omega) P] at l;exact G _ _ _ _ (by omega) (by omega) (by omega) j l
  .by_cases Q:t=i-1
   .subst Q;rw[u s N A] at j;rw[M] at l;exact mN (I (s+1) y x (by omega) (by omega) l j)
   .rw[F t (by omega)] at l;by_cases W:s<i-1
    .rw[u s N W] at j;exact G _ _ _ _ (by omega) (by omega) (by omega) j l
    .by_cases k:s=i-1
     .subst k;rw[M] at j;exact jD (L t x y (by omega) B j l)
     .rw[F s (by omega)] at j;exact G _ _ _ _ (by omega) A B j l
 .intro t z C R r;by_cases P:t<i-1
  .rw[u t C P] at r;exact⟨t+1,by omega,by omega,r⟩
  .by_cases Q:t=i-1
   .subst Q;rw[M] at r;exact⟨a,by omega,by omega,r⟩
   .rw[F t (by omega)] at r;exact⟨t,C,R,r⟩
def Up(X e:List Sp.Ed)(k m:Nat):Prop:=St X e/\e[k]?=X[m]?/\(∀t,k<t->t<=m->e[t]?=X[t-1]?)/\(∀t,t<k\/m<t->e[t]?=X[t]?)
theorem Up.refl(X:List Sp.Ed)(m:Nat):Up X X m m:=⟨St.refl _,O,λt e j=>by omega,λ_ _=>O⟩
theorem Up.step{e:List Sp.Ed}{k:Nat}(h:Up X e (k+1) m)(A:k+1<=m)(L:m<Xg X)(j:∀x y,X[m]?=S x->X[k]?=S y->ot x y): Up X (sw e (k+1) k) k m:=by
 obtain⟨u,z,B,l⟩:=h;have M:Xg e=Xg X:=u.1;have C:e[k]?=S e[k]:=Uk (by omega);have F:e[k+1]?=S e[k+1]:=Uk (by omega);have G:ot e[k+1] e[k]:=j _ _ (by rw[<-z,F]) (by rw[<-l k (by omega),C]);refine⟨u.trans (KZ e k (by omega) G),?_,?_,?_⟩
 .rw[lB _ _ _ (by omega) (by omega),T0 O,z]
 .intro t I r;rw[lB _ _ _ (by omega) (by omega),TZ (by omega)];by_cases c:t=k+1
  .subst c;rw[T0 O,l _ (by omega)];rfl
  .rw[TZ c,B t (by omega) r]
 .intro t N;rw[lB _ _ _ (by omega) (by omega),TZ (by omega),TZ (by omega),l t (by omega)]
theorem Up.close{e:List Sp.Ed}{i:Nat}(q:b=m+1)(R:a<=i)(T:i<=m)(hb:b<=Xg X)(C:Ord X a m)(F:∀t x y,a<=t->t<i->X[m]?=S x->X[t]?=S y->¬ot x y)(G:∀t x y,i<=t->t<m->X[m]?=S x->X[t]?=S y->ot x y)(h:Up X e i m): Kz X e a b:=by
 obtain⟨V,I,u,A⟩:=h;refine⟨V,?_,λt f=>A t (by omega),?_⟩
 .intro s t x y L M W l j;by_cases Q:s<i
  .rw[A s (by omega)] at l;by_cases B:t<i
   .rw[A t (by omega)] at j;exact C _ _ _ _ L M (by omega) l j
   .by_cases k:t=i
    .subst k;rw[I] at j;exact jD (F s y x L Q j l)
    .rw[u t (by omega) (by omega)] at j;exact nL C L (by omega) (by omega) l j
  .by_cases B:s=i
   .subst B;rw[I] at l;rw[u t (by omega) (by omega)] at j;exact mN (G _ x y (by omega) (by omega) l j)
   .rw[u s (by omega) (by omega)] at l;rw[u t (by omega) (by omega)] at j;exact C _ _ _ _ (by omega) (by omega) (by omega) l j
 .intro t z N P r;by_cases Q:t<i
  .rw[A t (by omega)] at r;exact⟨t,N,P,r⟩
  .by_cases B:t=i
   .subst B;rw[I] at r;exact⟨m,by omega,by omega,r⟩
   .rw[u t (by omega) (by omega)] at r;exact⟨t-1,by omega,by omega,r⟩
theorem FQ(X:List Sp.Ed)(a m b:Nat)(h1:a<=m)(h2:m<=b)(l:b<=Xg X)(t:Nat):(sQ X a m b)[t]?=if a<=t/\t<a+(b-m) then X[t+(m-a)]? else if a+(b-m)<=t/\t<b then X[t-(b-m)]? else X[t]?:=by
 obtain⟨A,j,V,B,rfl,r,u,z⟩:=rD X a m b h1 h2 l;have e:=kq A j V B;rw[show (Xg A)+Xg j=m by omega,r,show m+Xg V=b by omega] at e;rw[e];by_cases C:t<a
 .rw[TZ (by omega),TZ (by omega),UY (by omega),UY (by omega)]
 .by_cases F:t<a+(b-m)
  .rw[T0 (by omega),Ul (by omega),UY (by omega)];rw[Ul (by omega),Ul (by omega),UY (by omega)]
   congr 1;omega
  .by_cases G:t<b
   .rw[TZ (by omega),T0 (by omega),Ul (by omega),Ul (by omega),UY (by omega)];rw[Ul (by omega),UY (by omega)]
    congr 1;omega
   .rw[TZ (by omega),TZ (by omega),Ul (by omega),Ul (by omega),Ul (by omega)];rw[Ul (by omega),Ul (by omega),Ul (by omega)]
    congr 1;omega
theorem Py(h1:a<=m)(h2:m<=b)(r:b<=Xg X)(h:∀s t x y,a<=s->s<m->m<=t->t<b->X[s]?=S x->X[t]?=S y->ot y x): St X (sQ X a m b):=by
 obtain⟨A,l,V,B,rfl,z,G,I⟩:=rD X a m b h1 h2 r;have e:=kq A l V B;rw[show (Xg A)+Xg l=m by omega,z,show m+Xg V=b by omega] at e;rw[e];refine JT A l V B ?_;intro u hu v C;obtain⟨i,hi,rfl⟩:=List.getElem_of_mem hu;obtain⟨j,F,rfl⟩:=List.getElem_of_mem C;refine h (a+i) (m+j) _ _ (by omega) (by omega) (by omega) (by omega) ?_ ?_
 .rw[Ul (by omega),UY (by omega),show a+i-Xg A=i by omega];exact Uk hi
 .rw[Ul (by omega),Ul (by omega),UY (by omega),show m+j-Xg A-Xg l=j by omega];exact Uk F
def Cut(X:List Sp.Ed)(p e j c:Nat):Prop:=e<=c/\c<=j/\(∀x y,e<c->X[c-1]?=S x->X[p-(c-1)]?=S y->¬ot y x)/\(∀x y,c<j->X[c]?=S x->X[p-c]?=S y->ot y x)
variable {c:Nat}
theorem Hs{e i h:Nat}(aa:a<m)(ab:m<b)(hb:b<=Xg X)(g:e=(a+b)/2)(M:i=if e<m then e+m-b else a)(N:h=if e<m then e else m)(A:Ord X a m)(C:Ord X m b)(F:Cut X (e+m-1) i h c):a<=c/\c<=m/\m<=e+m-c/\e+m-c<=b/\c<=e/\e<=e+m-c/\St X (sQ X c m (e+m-c))/\
  Ord (sQ X c m (e+m-c)) a c/\Ord (sQ X c m (e+m-c)) c e/\Ord (sQ X c m (e+m-c)) e (e+m-c)/\Ord (sQ X c m (e+m-c)) (e+m-c) b/\
  (∀s t x y,a<=s->s<e->e<=t->t<b->(sQ X c m (e+m-c))[s]?=S x->(sQ X c m (e+m-c))[t]?=S y->Sp.iF x y)/\
  Out X (sQ X c m (e+m-c)) a b/\Rj X (sQ X c m (e+m-c)) a b:=by
 obtain⟨h1,h2,h3,h4⟩:=F;have B:a<=c/\c<=m/\m<=e+m-c/\e+m-c<=b/\c<=e/\e<=e+m-c:=by
  by_cases F:e<m
  .rw[T0 F] at M N;omega
  .rw[TZ F] at M N;omega
 obtain⟨b1,f,p,b4,b5,b6⟩:=B;have K1:∀s t x y,c<=s->s<m->m<=t->t<e+m-c->X[s]?=S x->X[t]?=S y->ot y x:=by
  intro s t x y r u I Q l j;have o:c<h:=by
   by_cases F:e<m
   .rw[T0 F] at N;omega
   .rw[TZ F] at N;omega
  have R:X[c]?=S X[c]:=Uk (by omega);have T:X[e+m-1-c]?=S X[e+m-1-c]:=Uk (by omega);have k:=h4 _ _ o R T;exact lD (nL C I (by omega) (by omega) j T) (lF k (nL A b1 r u R l))
 have K2:∀s t x y,a<=s->s<c->e+m-c<=t->t<b->X[s]?=S x->X[t]?=S y->Sp.iF x y:=by
  intro s t x y r u I Q l j;have n:i<c:=by
   by_cases F:e<m
   .rw[T0 F] at M;omega
   .rw[TZ F] at M;omega
  have R:X[c-1]?=S X[c-1]:=Uk (by omega);have T:X[e+m-1-(c-1)]?=S X[e+m-1-(c-1)]:=Uk (by omega);have k:=jD (h3 _ _ n R T);exact oN (nL A r (by omega) (by omega) l R) (oN k (nL C (by omega) (by omega) Q T j))
 have G:∀t,(sQ X c m (e+m-c))[t]?=if c<=t/\t<e then X[t+(m-c)]? else if e<=t/\t<e+m-c then X[t-(e-c)]? else X[t]?:=by
  intro t;rw[FQ X c m (e+m-c) f p (by omega) t,show c+(e+m-c-m)=e by omega,show e+m-c-m=e-c by omega]
 have q:∀t,c<=t->t<e->(sQ X c m (e+m-c))[t]?=X[t+(m-c)]?:=λt r u=>by rw[G,T0 ⟨r,u⟩]
 have V:∀t,e<=t->t<e+m-c->(sQ X c m (e+m-c))[t]?=X[t-(e-c)]?:=λt r u=>by rw[G,TZ (by omega),T0 ⟨r,u⟩]
 have L:∀t,t<c\/e+m-c<=t->(sQ X c m (e+m-c))[t]?=X[t]?:=λt k=>by rw[G,TZ (by omega),TZ (by omega)]
 refine⟨b1,f,p,b4,b5,b6,Py f p (by omega) K1,?_,?_,?_,?_,?_,?_,?_⟩
 .intro s t x y r u I l j;rw[L s (by omega)] at l;rw[L t (by omega)] at j;exact A _ _ _ _ r u (by omega) l j
 .intro s t x y r u I l j;rw[q s (by omega) (by omega)] at l;rw[q t (by omega) (by omega)] at j;exact C _ _ _ _ (by omega) (by omega) (by omega) l j
 .intro s t x y r u I l j;rw[V s (by omega) (by omega)] at l;rw[V t (by omega) (by omega)] at j;exact A _ _ _ _ (by omega) (by omega) (by omega) l j
 .intro s t x y r u I l j;rw[L s (by omega)] at l;rw[L t (by omega)] at j;exact C _ _ _ _ (by omega) u I l j
 .intro s t x y r u I Q l j;by_cases c1:s<c
  .rw[L s (by omega)] at l;by_cases W:t<e+m-c
   .rw[V t I W] at j;exact A _ _ _ _ r (by omega) (by omega) l j
   .rw[L t (by omega)] at j;exact K2 _ _ _ _ r c1 (by omega) Q l j
  .rw[q s (by omega) u] at l;by_cases W:t<e+m-c
   .rw[V t I W] at j;exact mN (K1 _ _ _ _ (by omega) (by omega) (by omega) (by omega) j l)
   .rw[L t (by omega)] at j;exact C _ _ _ _ (by omega) (by omega) Q l j
 .intro t ht;exact L t (by omega)
 .intro t z r u P;by_cases c1:t<c
  .rw[L t (by omega)] at P;exact⟨t,r,u,P⟩
  .by_cases W:t<e
   .rw[q t (by omega) W] at P;exact⟨_,by omega,by omega,P⟩
   .by_cases c3:t<e+m-c
    .rw[V t (by omega) c3] at P;exact⟨_,by omega,by omega,P⟩
    .rw[L t (by omega)] at P;exact⟨t,r,u,P⟩
theorem wg{e:List Sp.Ed}{d:Nat}(h:Out X e a b)(k:Ord X c d)(hd:d<=a\/b<=c): Ord e c d:=by
 intro s t x y r u z j l;rw[h s (by omega)] at j;rw[h t (by omega)] at l;exact k _ _ _ _ r u z j l
theorem yc{R e j:List Sp.Ed}{l:Nat}(h1:a<=l)(h2:l<=b)(I:St X R)(hOut:Out X R a b)(A:Rj X R a b)(q:∀s t x y,a<=s->s<l->l<=t->t<b->R[s]?=S x->R[t]?=S y->Sp.iF x y)(i:Kz R e a l)(h:Kz e j l b): Kz X j a b:=by
 obtain⟨f,p,L,T⟩:=i;obtain⟨o,n,C,V⟩:=h;refine⟨I.trans (f.trans o),?_,?_,?_⟩
 .intro s t x y F G W r u;by_cases M:t<l
  .rw[C s (by omega)] at r;rw[C t (by omega)] at u;exact p _ _ _ _ F G M r u
  .by_cases g:s<l
   .rw[C s (by omega)] at r;obtain⟨s',N,P,B⟩:=T s x F g r;obtain⟨t',f1,f2,k⟩:=V t y (by omega) W u;rw[L t' (by omega)] at k;exact q _ _ _ _ N P f1 f2 B k
   .exact n _ _ _ _ (by omega) G W r u
 .intro t ht;rw[C t (by omega),L t (by omega),hOut t ht]
 .intro t z F G Q;by_cases M:t<l
  .rw[C t (by omega)] at Q;obtain⟨s,N,P,B⟩:=T t z F M Q;exact A _ _ (by omega) (by omega) B
  .obtain⟨s,N,P,B⟩:=V t z (by omega) G Q;rw[L s (by omega)] at B;exact A _ _ (by omega) (by omega) B
theorem CG(h:a>=c\/c>=b)(h1:Ord X a c)(h2:Ord X c b): Ord X a b:=by
 intro s t x y r e u j l;rcases h with h|h
 .exact h2 _ _ _ _ (by omega) e u j l
 .exact h1 _ _ _ _ r e (by omega) j l
end
section
def qZ(g cap B N a b:Nat)(X:List Sp.Ed)(w:WR)(e:Ending)(w':WR):Prop:=e=WZ (WX #[])/\∃j,w'.ownsRow B 162 3 (J (S ⟨g,0,U⟩) N cap) N (dp j)/\w.grownBy w' (S g)/\Kz X j a b
theorem CS(g cap B a m b N:Nat)(X:List Sp.Ed)(w:WR)(hX:Xg X=N)(h:w.ownsRow B 162 3 (J (S ⟨g,0,U⟩) N cap) N (dp X))(hm:m=a+1)(ao:m<b)(hb:b<=N)(hl:N<=5000)(hO:Hid (Ord X m b)):WT prog 223 #[J (S ⟨g,0,U⟩) N cap,Z Y a,Z Y m,Z Y b,.func (.func 106) #[] #[]] w (qZ g cap B N a b X w):=by
 have HX:=cT hX;have HM:=cT hm;have aq:IntKind.i64.wrap ((m:Int)-(a:Int))=1:=by rw[Uy];omega
 have ar:a<m:=by omega
 have au:(a:Int)<(N:Int):=by omega
 have av:(0:Int)<=(a:Int):=by omega
 clear hX hm;go_enter func223,ntmps223;go_wp2
 go_loopw [10,11] (λu v wr=>∃(i j:Nat),u=Z Y i/\v=Z Y j/\m<=i/\i<=j/\j<=b/\wr.ownsRow B 162 3 (J (S ⟨g,0,U⟩) N cap) N (dp X)/\w.grownBy wr (S g)/\Hid (∀t x y,m<=t->t<i->X[a]?=S x->X[t]?=S y->ot y x)/\Hid (∀t x y,j<=t->t<b->X[a]?=S x->X[t]?=S y->¬ot y x)) (λu v _=>(intOf v-intOf u).toNat)
 case atStart=>exact⟨m,b,rfl,rfl,TY _,by omega,TY _,h,iv _ _,λt x y W h2=>by omega,λt x y W h2=>by omega⟩
 case round =>
  obtain⟨i,j,rfl,rfl,q,ag,s,o,P,T,aa⟩:=hrel;by_cases aw:i<j
  .have ak:(i:Int)<(j:Int):=by omega
   have ax:i<=(i+j)/2:=by omega
   have ay:(i+j)/2<j:=by omega
   have az:(i+j)/2<N:=by omega
   have aA:(((i+j)/2:Nat):Int)<(N:Int):=by omega
   have aB:((i:Int)+(j:Int))/2<(N:Int):=by omega
   have aC:0<=((i:Int)+(j:Int))/2:=by omega
   have aD:(((i:Int)+(j:Int))/2).toNat=(i+j)/2:=by omega
   obtain⟨L,M,⟨c0,c1,c2⟩,⟨d0,d1,d2⟩,_,Q⟩:=oV (cS HX) o ((i+j)/2) a (by omega) (by omega);obtain⟨c,hc⟩:∃c,zr L M=c:=⟨_,rfl⟩
   have HC:=cT hc;have V:=cT (uy L M);rw[hc] at V;clear hc;have z:g<wr.heap.size:=Ui _ _ c0;by_cases R:c<0
   .go_wp2_with fail
    go_region_held3 (λC=>(C.cell? ⟨g,(i+j)/2*3,U⟩=S (Z Y (L.dj:Int))/\C.cell? ⟨g,(i+j)/2*3+1,U⟩=S (Z Y (L.cR:Int))/\C.cell? ⟨g,(i+j)/2*3+2,U⟩=S (Z Y L.n))/\(C.cell? ⟨g,a*3,U⟩=S (Z Y (M.dj:Int))/\C.cell? ⟨g,a*3+1,U⟩=S (Z Y (M.cR:Int))/\C.cell? ⟨g,a*3+2,U⟩=S (Z Y M.n)))
     (first|(go_keep;done)|(exact⟨⟨(r.cell (p:=⟨g,_,U⟩) z).trans c0,(r.cell (p:=⟨g,_,U⟩) z).trans c1,(r.cell (p:=⟨g,_,U⟩) z).trans c2⟩,⟨(r.cell (p:=⟨g,_,U⟩) z).trans d0,(r.cell (p:=⟨g,_,U⟩) z).trans d1,(r.cell (p:=⟨g,_,U⟩) z).trans d2⟩⟩))
     (first|(go_at_call 106;refine(gF L M _).mono ?_;rintro e w2 ⟨rfl,r⟩;rw[cS HC]))
    have F:WQ wr w2:=WO.drew.trans r;go_wp2;go_roundw
    case rel =>
     refine⟨(i+j)/2+1,j,by go_num,O,by omega,by omega,s,dd o F,dD P (fH F),?_,aa⟩;intro t x y W h2 G hy;have ab:=(cS V).1 R;rw[(cS Q).2] at G;injection G with G;subst G;exact lD (nL (cS hO) W (by omega) (by omega) hy (cS Q).1) ab
    case measure=>simp[intOf];omega
   .go_wp2_with fail
    go_region_held3 (λC=>(C.cell? ⟨g,(i+j)/2*3,U⟩=S (Z Y (L.dj:Int))/\C.cell? ⟨g,(i+j)/2*3+1,U⟩=S (Z Y (L.cR:Int))/\C.cell? ⟨g,(i+j)/2*3+2,U⟩=S (Z Y L.n))/\(C.cell? ⟨g,a*3,U⟩=S (Z Y (M.dj:Int))/\C.cell? ⟨g,a*3+1,U⟩=S (Z Y (M.cR:Int))/\C.cell? ⟨g,a*3+2,U⟩=S (Z Y M.n)))
     (first|(go_keep;done)|(exact⟨⟨(r.cell (p:=⟨g,_,U⟩) z).trans c0,(r.cell (p:=⟨g,_,U⟩) z).trans c1,(r.cell (p:=⟨g,_,U⟩) z).trans c2⟩,⟨(r.cell (p:=⟨g,_,U⟩) z).trans d0,(r.cell (p:=⟨g,_,U⟩) z).trans d1,(r.cell (p:=⟨g,_,U⟩) z).trans d2⟩⟩))
     (first|(go_at_call 106;refine(gF L M _).mono ?_;rintro e w2 ⟨rfl,r⟩;rw[cS HC]))
    have F:WQ wr w2:=WO.drew.trans r;go_wp2;go_roundw
    case rel =>
     refine⟨i,(i+j)/2,O,by go_num,q,by omega,by omega,dd o F,dD P (fH F),T,?_⟩;intro t x y W h2 G hy hn;rw[(cS Q).2] at G;injection G with G;subst G;exact(Int.not_lt.2 R) ((cS V).2 (lD (nL (cS hO) (by omega) W h2 (cS Q).1 hy) hn))
    case measure=>simp[intOf];omega
  .obtain rfl:i=j:=by omega
   clear ag;go_wp2;have aE:IntKind.i64.wrap ((i:Int)-1)=((i-1:Nat):Int):=by rw[Uy];omega
   go_loopw [13] (λu ad=>∃(k:Nat) (l:List Sp.Ed),u=Z Y k/\a<=k/\k<=i-1/\ad.ownsRow B 162 3 (J (S ⟨g,0,U⟩) N cap) N (dp l)/\w.grownBy ad (S g)/\Hid (Xg l=N)/\Hid (Dn X l a k)) (λu _=>(i-(intOf u).toNat))
   case atStart=>exact⟨a,X,rfl,TY _,by omega,o,P,HX,Dn.refl _ _⟩
   case round =>
    obtain⟨k,l,rfl,ah,aF,A,I,HY,HD⟩:=hrel;clear o P h;by_cases an:k<i-1
    .have ai:(k:Int)<((i-1:Nat):Int):=by omega
     have aG:(k:Int)<(N:Int):=by omega
     have aH:(k:Int)+1<(N:Int):=by omega
     have aI:(0:Int)<=(k:Int)+1:=by omega
     have aJ:((k:Int)+1).toNat=k+1:=by omega
     have aK:IntKind.i64.wrap ((k:Int)+1)=(k:Int)+1:=by rw[Uy];omega
     have f0:=dL A (k*3);have f1:=dL A (k*3+1);have f2:=dL A (k*3+2);have f3:=dL A ((k+1)*3);have f4:=dL A ((k+1)*3+1);have f5:=dL A ((k+1)*3+2);obtain⟨z0,z1,⟨r0,r1,r2⟩,⟨s0,s1,s2⟩,ae,aL⟩:=oV (cS HY) A k (k+1) (by omega) (by omega);have aj:=cT I;clear A I;go_wp2_with fail
     go_region
     go_wp2;go_roundw
     case rel =>
      refine⟨k+1,sw l k (k+1),by go_num,by omega,by omega,(cS ae).1,dD (cS aj) (cS ae).2,by show _=_;rw[zP];exact cS HY,(cS HD).step ah (by rw[cS HX];omega) (λx y G hy=>(cS T) (k+1) x y (by have:=cS HM;omega) (by omega) G hy)⟩
     case measure=>simp[intOf];omega
    .have ai:¬(k:Int)<((i-1:Nat):Int):=by omega
     have af:k=i-1:=by omega
     go_wp2
     go_end0
     subst af;exact⟨O,l,A,I,(cS HD).close (cS HM) q s (by rw[cS HX];exact hb) (cS hO) (cS T) (cS aa)⟩
end
end Go.Proofs.YtgkkdpegcieakaaGreatDoor
