import Derived.Test.YtgkkdpegcieakaaGreatDoorCz03
set_option linter.unusedVariables false
set_option linter.unusedSimpArgs false
set_option maxRecDepth 100000
set_option maxHeartbeats 16000000
namespace Go.Proofs.YtgkkdpegcieakaaGreatDoor
open Go.Proofs.Tryz
open Value renaming int→Z
open IntKind renaming i64→Y
open Go renaming World→TJ,Value→TK,Calls→TL
section
open Go.RowKit
theorem kt(x:Int)(w:TJ):TL prog 160 #[Z Y x] w λe b=>e=.returned (.bool false)/\b=w:=by
 have h:(x != x)=false:=by simp
 go_enter func160,ntmps160;go_wp2;go_ret;exact⟨rfl,rfl⟩
theorem oX(x y:Int)(w:TJ):TL prog 108 #[Z Y x,Z Y y] w λe j=>e=.returned (Z Y (lD x y))/\j=w:=by
 rcases Int.lt_trichotomy x y with h|h|h
 .have b:lD x y = -1:=cg h;rw[b];clear b;go_enter func108,ntmps108;go_wp2_with (go_at_call 160;refine(kt _ _).mono ?_;rintro e j ⟨rfl,rfl⟩);go_ret;exact⟨rfl,rfl⟩
 .subst h;have b:lD x x=0:=by simp[lD]
  rw[b];clear b;have m:¬x<x:=Int.lt_irrefl x;go_enter func108,ntmps108;go_wp2_with (go_at_call 160;refine(kt _ _).mono ?_;rintro e j ⟨rfl,rfl⟩);go_ret;exact⟨rfl,rfl⟩
 .have l:¬x<y:=by omega
  have b:lD x y=1:=by unfold lD;rw[cd l,cg h]
  rw[b];clear b;go_enter func108,ntmps108;go_wp2_with (go_at_call 160;refine(kt _ _).mono ?_;rintro e j ⟨rfl,rfl⟩);go_ret;exact⟨rfl,rfl⟩
def Om(x y:Int):Int:=if x=0 then y else x
theorem Nx(g:Nat)(x y:Int)(w:TJ)(C:w.cell? ⟨g,0,none⟩=some (Z Y x))(h1:w.cell? ⟨g,1,none⟩=some (Z Y y)):TL prog 107 #[.slice (some ⟨g,0,none⟩) 2 2] w λe A=>e=.returned (Z Y (Om x y))/\A=w:=by
 go_enter func107,ntmps107;go_wp2
 go_loopw [8] (λi wr=>wr=w/\(i=Z Y 0\/(i=Z Y 1/\Hid (x=0))\/(i=Z Y 2/\Hid (x=0)/\Hid (y=0)))) (λi _=>2-(intOf i).toNat)
 case atStart=>exact⟨rfl,Or.inl rfl⟩
 case round =>
  obtain⟨rfl,B⟩:=hrel;rcases B with rfl|⟨rfl,b⟩|⟨rfl,b,r⟩
  .by_cases j:x=0
   .have b:=cP j;have u:(x != 0)=false:=by simp[j]
    clear j;go_wp2;go_roundw
    case rel=>exact⟨by trivial,Or.inr (Or.inl ⟨rfl,b⟩)⟩
    case measure=>simp[intOf]
   .have u:(x != 0)=true:=by simp[j]
    have l:Hid (Om x y=x):=cd j;clear j;go_wp2;go_ret;exact⟨by rw[cO l];rfl,rfl⟩
  .have l:Hid (Om x y=y):=cg (cO b);by_cases m:y=0
   .have r:=cP m;have z:(y != 0)=false:=by simp[m]
    clear m;go_wp2;go_roundw
    case rel=>exact⟨by trivial,Or.inr (Or.inr ⟨rfl,b,r⟩)⟩
    case measure=>simp[intOf]
   .have z:(y != 0)=true:=by simp[m]
    clear m;go_wp2;go_ret;exact⟨by rw[cO l];rfl,rfl⟩
  .have l:Hid (Om x y=0):=(cg (cO b)).trans (cO r);go_wp2;go_ret;exact⟨by rw[cO l];rfl,rfl⟩
def GA(e:Sp.Ed):TK := .agg #[Z Y (e.de:Int),Z Y (e.vo:Int),Z Y e.n]
def yk(a b:Sp.Ed):Int:=Om (lD a.de b.de) (lD a.vo b.vo)
theorem IE(a b:Sp.Ed):yk a b<0↔(a.de<b.de\/(a.de=b.de/\a.vo<b.vo)):=by
 unfold yk Om lD
 repeat' split
 all_goals omega
theorem xL(W:TJ)(x y:TK)(e n:Nat)(b:n=W.heap.size):(W.alloc (.cells #[x,y] e)).cell? ⟨n,0,none⟩=some x/\(W.alloc (.cells #[x,y] e)).cell? ⟨n,1,none⟩=some y:=by
 subst b;exact⟨cn _ _ 0 _ _ _ (ct W _),cn _ _ 1 _ _ _ (ct W _)⟩
theorem MP(W:TJ)(n:Nat)(b:n=W.heap.size)(x y:Int):TL prog 107 #[.slice (some ⟨n,0,none⟩) 2 2] (W.alloc (.cells #[Z Y x,Z Y y] 3)).drew λe j=>e=.returned (Z Y (Om x y))/\j=(W.alloc (.cells #[Z Y x,Z Y y] 3)).drew:=Nx n x y _ (xL W _ _ _ n b).1 (xL W _ _ _ n b).2
theorem gA(a b:Sp.Ed)(w:TJ):TL prog 106 #[GA a,GA b] w λe j=>e=.returned (Z Y (yk a b))/\TI w j:=by
 unfold GA;unfold yk;generalize ((a.de:Nat):Int)=m at *;generalize ((a.vo:Nat):Int)=r at *;generalize ((b.de:Nat):Int)=u at *;generalize ((b.vo:Nat):Int)=y at *;go_enter func106,ntmps106;go_wp2_with fail
 go_region_held3 (λj=>(j.cell? ⟨w.heap.size,0,none⟩=some (Z Y m)/\j.cell? ⟨w.heap.size,1,none⟩=some (Z Y r))/\(j.cell? ⟨w.heap.size+1,0,none⟩=some (Z Y u)/\j.cell? ⟨w.heap.size+1,1,none⟩=some (Z Y y)))
  (go_keep)
  (first|(go_at_call 108;refine(oX _ _ _).mono ?_;rintro e j ⟨rfl,l⟩;obtain rfl:=l.symm)|(go_at_call 107;refine(MP _ _ (by simp) (lD m u) (lD r y)).mono ?_;rintro e j ⟨rfl,l⟩;obtain rfl:=l.symm))
 go_wp2;go_ret;refine⟨rfl,?_⟩;exact(((TH.alloc TG _).alloc (by simp) _).alloc (by simp;omega) _).drew
end
section
open Go.RowKit
theorem MZ(E:List Sp.Ed):(dh E).length=E.length*3:=by
 induction E with
 |nil=>rfl
 |cons p t b=>simp[dh] at b ⊢;omega
theorem Od(E:List Sp.Ed)(x:Sp.Ed):∀j,j<E.length->(((dh E).set (j*3) (Z Y (x.de:Int))).set (j*3+1) (Z Y (x.vo:Int))).set (j*3+2) (Z Y x.n)=dh (E.set j x):=by
 induction E with
 |nil=>intro j h;simp at h
 |cons p t b =>
  intro j h;have e:∀(q:Sp.Ed) (u:List Sp.Ed),dh (q::u)=Z Y (q.de:Int)::Z Y (q.vo:Int)::Z Y q.n::dh u:=λq u=>by simp[dh]
  cases j with
  |zero=>simp[e]
  |succ j =>
   have:=b j (by simpa using h);rw[List.set_cons_succ,e,e,<-this,show (j+1)*3=j*3+1+1+1 by omega];simp[List.set_cons_succ]
def tR(w:TJ)(g j:Nat)(x:Sp.Ed):TJ:=((w.setCell ⟨g,j*3,none⟩ (Z Y (x.de:Int))).setCell ⟨g,j*3+1,none⟩ (Z Y (x.vo:Int))).setCell ⟨g,j*3+2,none⟩ (Z Y x.n)
variable {w:TJ}
theorem Dj{B e g cap:Nat}{X:List Sp.Ed}(h:w.ownsRow B e 3 (.slice (some ⟨g,0,none⟩) X.length cap) X.length (dh X))(j:Nat)(F:j<X.length)(x:Sp.Ed):(tR w g j x).ownsRow B e 3 (.slice (some ⟨g,0,none⟩) X.length cap) X.length (dh (X.set j x))/\w.grownBy (tR w g j x) (some g):=by
 obtain⟨O,G⟩:=h;rcases G with ⟨z,P⟩|⟨Q,A,b,z,H,C,m,r,u,I⟩
 .omega
 .injection z with e1 e2 e3;injection e1 with e1;injection e1 with e1;subst e1 e3;have J:=setCell_eq_setRow w g (j*3) b e (0,0) (Z Y (x.de:Int)) C;have D:=sT w g b (b.setIfInBounds (j*3) (Z Y (x.de:Int))) e (0,0) C;have K:=setCell_eq_setRow _ g (j*3+1) _ e (0,0) (Z Y (x.vo:Int)) D;have E:=sT _ g _ ((b.setIfInBounds (j*3) (Z Y (x.de:Int))).setIfInBounds (j*3+1) (Z Y (x.vo:Int))) e (0,0) D;have L:=setCell_eq_setRow _ g (j*3+2) _ e (0,0) (Z Y x.n) E;have M:=sT _ g _ (((b.setIfInBounds (j*3) (Z Y (x.de:Int))).setIfInBounds (j*3+1) (Z Y (x.vo:Int))).setIfInBounds (j*3+2) (Z Y x.n)) e (0,0) E;have N:tR w g j x=((w.setRow g (b.setIfInBounds (j*3) (Z Y (x.de:Int)))).setRow g ((b.setIfInBounds (j*3) (Z Y (x.de:Int))).setIfInBounds (j*3+1) (Z Y (x.vo:Int)))).setRow g (((b.setIfInBounds (j*3) (Z Y (x.de:Int))).setIfInBounds (j*3+1) (Z Y (x.vo:Int))).setIfInBounds (j*3+2) (Z Y x.n)):=by
   unfold tR;rw[J,K,L]
  rw[N];refine⟨⟨by rw[MZ,QX],.inr ⟨g,cap,_,rfl,H,M,m,r,by simpa using u,?_⟩⟩,⟨rfl,rfl,rfl,by simp[World.setRow],λk R y=>?_⟩⟩
  .rw[<-Od X x j F,<-I];simp only[Array.toList_setIfInBounds,List.take_set]
  .have l:k≠g:=λe=>y (by rw[e])
   rw[qk _ g k _ l,qk _ g k _ l,qk _ g k _ l]
theorem dv{a b c:TJ}{r:Option Nat}(h:a.grownBy b r)(k:b.grownBy c r):a.grownBy c r:=⟨k.os.trans h.os,k.tape.trans h.tape,k.output.trans h.output,cx h.size k.size,λi hi e=>(k.block i (dT hi h.size) e).trans (h.block i hi e)⟩
theorem fG{w':TJ}{r:Option Nat}(h:TI w w'): w.grownBy w' r:=⟨h.os,h.tape,h.output,h.size,λk b _=>h.block k b⟩
theorem iv(w:TJ)(r:Option Nat):w.grownBy w r:=⟨rfl,rfl,rfl,b7 _,λ_ _ _=>rfl⟩
def Ip(X:List Sp.Ed)(i j:Nat)(hi:i<X.length)(b:j<X.length):List Sp.Ed:=(X.set i X[j]).set j X[i]
theorem Ka{B e g cap:Nat}{X:List Sp.Ed}(h:w.ownsRow B e 3 (.slice (some ⟨g,0,none⟩) X.length cap) X.length (dh X))(i j:Nat)(hi:i<X.length)(m:j<X.length):(tR (tR w g i X[j]) g j X[i]).drew.ownsRow B e 3 (.slice (some ⟨g,0,none⟩) X.length cap) X.length (dh (Ip X i j hi m))/\w.grownBy (tR (tR w g i X[j]) g j X[i]).drew (some g):=by
 obtain⟨u,y⟩:=Dj h i hi X[j];have l:(X.set i X[j]).length=X.length:=QX;have b:=u;rw[<-l] at b;obtain⟨r,z⟩:=Dj b j (by rw[l];exact m) X[i];rw[l] at r;exact⟨cW r TH.drew,dv (dv y z) (fG TH.drew)⟩
end
section
open Go.RowKit
def sw(X:List Sp.Ed)(i j:Nat):List Sp.Ed:=if h:i<X.length/\j<X.length then Ip X i j h.1 h.2 else X
theorem zl(X:List Sp.Ed)(i j:Nat):(sw X i j).length=X.length:=by
 unfold sw;split
 .simp[Ip]
 .rfl
def Gj(X:List Sp.Ed)(a b:Nat):Nat->List Sp.Ed
 |0=>X
 |i+1=>sw (Gj X a b i) (a+i) (b+i)
theorem pg(X:List Sp.Ed)(a b:Nat):∀n,(Gj X a b n).length=X.length
 |0=>rfl
 |n+1=>by rw[Gj,zl,pg]
variable {B g e cap:Nat}{w:TJ}
theorem dI{n:Nat}{l:List TK}(h:w.ownsRow B e 3 (.slice (some ⟨g,0,none⟩) n cap) n l)(k:Nat): w.frozen? ⟨g,k,none⟩=false:=by
 rcases h.2 with ⟨b,u⟩|⟨y,j,m,b,z,r,_⟩
 .cases b
 .injection b with e1 e2 e3;injection e1 with e1;injection e1 with e1;subst e1;simp[World.frozen?,r]
theorem xJ{X:List Sp.Ed}(h:w.ownsRow B e 3 (.slice (some ⟨g,0,none⟩) X.length cap) X.length (dh X))(j:Nat)(b:j<X.length):w.cell? ⟨g,j*3,none⟩=some (Z Y (X[j].de:Int))/\w.cell? ⟨g,j*3+1,none⟩=some (Z Y (X[j].vo:Int))/\w.cell? ⟨g,j*3+2,none⟩=some (Z Y X[j].n):=by
 obtain⟨l,m,r⟩:=Kb X j b;exact⟨(h.cellAt _ (by omega)).trans l,(h.cellAt _ (by omega)).trans m,(h.cellAt _ (by omega)).trans r⟩
theorem o7{n:Nat}{X:List Sp.Ed}(r:X.length=n)(h:w.ownsRow B e 3 (.slice (some ⟨g,0,none⟩) n cap) n (dh X))(i j:Nat)(hi:i<n)(m:j<n): ∃b l:Sp.Ed,
  (w.cell? ⟨g,i*3,none⟩=some (Z Y (b.de:Int))/\w.cell? ⟨g,i*3+1,none⟩=some (Z Y (b.vo:Int))/\w.cell? ⟨g,i*3+2,none⟩=some (Z Y b.n))/\
  (w.cell? ⟨g,j*3,none⟩=some (Z Y (l.de:Int))/\w.cell? ⟨g,j*3+1,none⟩=some (Z Y (l.vo:Int))/\w.cell? ⟨g,j*3+2,none⟩=some (Z Y l.n))/\
  Hid ((tR (tR w g i l) g j b).drew.ownsRow B e 3 (.slice (some ⟨g,0,none⟩) n cap) n (dh (sw X i j))/\w.grownBy (tR (tR w g i l) g j b).drew (some g))/\Hid (X[i]?=some b/\X[j]?=some l):=by
 subst r;have e:sw X i j=Ip X i j hi m:=by unfold sw;rw[dif_pos ⟨hi,m⟩]
 rw[e];exact⟨X[i],X[j],xJ h i hi,xJ h j m,Ka h i j hi m,cH hi,cH m⟩
theorem wL(g cap B a b n:Nat)(X:List Sp.Ed)(z:TK)(w:TJ)(h:w.ownsRow B 162 3 (.slice (some ⟨g,0,none⟩) X.length cap) X.length (dh X))(A:a+n<=b)(hb:b+n<=X.length)(E:X.length<=5000):TL prog 255 #[.slice (some ⟨g,0,none⟩) X.length cap,Z Y a,Z Y b,Z Y n,z] w λe u=>e=.returned (.tuple #[])/\
   u.ownsRow B 162 3 (.slice (some ⟨g,0,none⟩) X.length cap) X.length (dh (Gj X a b n))/\w.grownBy u (some g):=by
 go_enter func255,ntmps255;go_wp2
 go_loopw [10] (λi wr=>∃k:Nat,k<=n/\i=Z Y k/\wr.ownsRow B 162 3 (.slice (some ⟨g,0,none⟩) X.length cap) X.length (dh (Gj X a b k))/\w.grownBy wr (some g)) (λi _=>n-(intOf i).toNat)
 case atStart=>exact⟨0,cy _,rfl,h,iv _ _⟩
 case round =>
  obtain⟨k,F,rfl,j,l⟩:=hrel;by_cases C:k<n
  .have G:(a:Int)+(k:Int)<(X.length:Int):=by omega
   have H:(b:Int)+(k:Int)<(X.length:Int):=by omega
   have I:=dI j ((a+k)*3);have J:=dI j ((a+k)*3+1);have K:=dI j ((a+k)*3+2);have L:=dI j ((b+k)*3);have M:=dI j ((b+k)*3+1);have N:=dI j ((b+k)*3+2);obtain⟨O,P,⟨Q,R,S⟩,⟨T,U,V⟩,y,W⟩:=o7 (pg X a b k) j (a+k) (b+k) (by omega) (by omega);have m:=cP l;have D:a+k<b+k:=by omega
   clear j l h;go_wp2_with fail
   go_region
   go_wp2;go_roundw
   case rel=>exact⟨k+1,by omega,by go_num,(cO y).1,dv (cO m) (cO y).2⟩
   case measure=>simp[intOf];omega
  .have r:n=k:=by omega
   subst r;go_wp2
   go_end0
   exact⟨rfl,j,l⟩
end
section
theorem lH(X:List Sp.Ed)(i j:Nat)(hi:i<X.length)(b:j<X.length)(t:Nat):(sw X i j)[t]?=if t=j then X[i]? else if t=i then X[j]? else X[t]?:=by
 unfold sw;rw[dif_pos ⟨hi,b⟩];unfold Ip;by_cases l:t=j
 .subst l;rw[cg rfl];simp[b]
 .rw[cd l,RI (λe=>l e.symm)];by_cases m:t=i
  .subst m;rw[cg rfl];simp[hi,b]
  .rw[cd m,RI (λe=>m e.symm)]
theorem Lw(X:List Sp.Ed)(a b:Nat):∀n,a+n<=b->b+n<=X.length->∀t,(Gj X a b n)[t]?=if a<=t/\t<a+n then X[t+(b-a)]? else if b<=t/\t<b+n then X[t-(b-a)]? else X[t]?:=by
 intro n
 induction n with
 |zero=>intro u y t;rw[cd (by omega),cd (by omega)];rfl
 |succ n e =>
  intro u y t;have e:=e (by omega) (by omega);rw[Gj,lH _ _ _ (by rw[pg];omega) (by rw[pg];omega),e,e,e];by_cases j:t=b+n
  .subst j;rw[cg rfl,cd (by omega),cd (by omega),cd (by omega),cg (by omega),show b+n-(b-a)=a+n by omega]
  .rw[cd j];by_cases l:t=a+n
   .subst l;rw[cg rfl,cd (by omega),cd (by omega),cg (by omega),show a+n+(b-a)=b+n by omega]
   .rw[cd l];by_cases m:a<=t/\t<a+n
    .rw[cg m,cg (by omega)]
    .rw[cd m,cd (by omega:¬(a<=t/\t<a+(n+1)))];by_cases r:b<=t/\t<b+n
     .rw[cg r,cg (by omega)]
     .rw[cd r,cd (by omega)]
theorem sB(A P M Q B:List Sp.Ed)(h:P.length=Q.length):Gj (A++(P++(M++(Q++B)))) A.length (A.length+P.length+M.length) P.length=A++(Q++(M++(P++B))):=by
 apply List.ext_getElem?;intro t;rw[Lw _ _ _ _ (by omega) (by simp;omega)];by_cases b:A.length<=t/\t<A.length+P.length
 .rw[cg b,show A.length+P.length+M.length-A.length=P.length+M.length by omega];rw[cF (by omega),cF (by omega),cF (by omega),qa (by omega)];rw[cF (by omega),qa (by omega)]
  congr 1;omega
 .rw[cd b];by_cases e:A.length+P.length+M.length<=t/\t<A.length+P.length+M.length+P.length
  .rw[cg e,show A.length+P.length+M.length-A.length=P.length+M.length by omega];rw[cF (by omega),qa (by omega)];rw[cF (by omega),cF (by omega),cF (by omega),qa (by omega)]
   congr 1;omega
  .rw[cd e];by_cases j:t<A.length
   .rw[qa j,qa j]
   .by_cases l:t<A.length+P.length+M.length
    .rw[cF (by omega),cF (by omega),qa (by omega)];rw[cF (by omega),cF (by omega),qa (by omega)]
     congr 1;omega
    .rw[cF (by omega),cF (by omega),cF (by omega),cF (by omega)];rw[cF (by omega),cF (by omega),cF (by omega),cF (by omega)]
     congr 1;omega
def sL(X:List Sp.Ed)(a m b:Nat):List Sp.Ed:=X.take a++((X.take b).drop m++((X.take m).drop a++X.drop b))
theorem kq(A U V B:List Sp.Ed):sL (A++(U++(V++B))) A.length (A.length+U.length) (A.length+U.length+V.length)=A++(V++(U++B)):=by
 unfold sL;have b:(A++(U++(V++B))).take A.length=A:=by simp
 have e:(A++(U++(V++B))).take (A.length+U.length)=A++U:=by
  rw[<-mR,zs (by simp <;> omega),zS (by simp <;> omega)]
 have j:(A++(U++(V++B))).take (A.length+U.length+V.length)=A++U++V:=by
  rw[<-mR,<-mR,zs (by simp <;> omega),zS (by simp <;> omega)]
 have l:(A++(U++(V++B))).drop (A.length+U.length+V.length)=B:=by
  rw[<-mR,<-mR,List.drop_left' (by simp <;> omega)]
 rw[b,e,j,l,List.drop_left' (by simp),List.drop_left' (by simp)]
theorem qV(X:List Sp.Ed)(a m b:Nat)(h1:a<=m)(h2:m<=b)(l:b<=X.length):∃A U V B,X=A++(U++(V++B))/\A.length=a/\U.length=m-a/\V.length=b-m:=by
 refine⟨X.take a,(X.take m).drop a,(X.take b).drop m,X.drop b,?_,by simp;omega,by simp;omega,by simp;omega⟩;have e:(X.take b).drop m++X.drop b=X.drop m:=by
  have:=r4 b X
  conv=>rhs;rw[<-this]
  rw[Tq (by simp;omega)]
 have j:(X.take m).drop a++X.drop m=X.drop a:=by
  have:=r4 m X
  conv=>rhs;rw[<-this]
  rw[Tq (by simp;omega)]
 rw[e,j,r4]
end
section
open Go.RowKit
theorem NC(b:List Sp.Ed)(m i j:Nat)(D:j<i)(E:i<=m)(F:m+j<=b.length):sL (Gj b (m-i) m j) (m-(i-j)) m (m+j)=sL b (m-i) m (m+j):=by
 obtain⟨A,U,V,B,rfl,y,G,H⟩:=qV b (m-i) m (m+j) (by omega) (by omega) F;obtain⟨e,l,rfl,z⟩:∃e l,U=e++l/\e.length=j:=⟨U.take j,U.drop j,(r4 _ _).symm,by simp;omega⟩
 rw[lN] at G;have C:=sB A e l V B (by omega);have r:=kq (A++V) l e B;have u:=kq A (e++l) V B;rw[lN] at r u;rw[show A.length+e.length+l.length=m by omega,z,y] at C;rw[show A.length+V.length+l.length=m by omega,show A.length+V.length=m-(i-j) by omega,z] at r;rw[show A.length+(e.length+l.length)=m by omega,show m+V.length=m+j by omega,y] at u;rw[u,mR,C,<-mR,r];simp[mR]
theorem Ot(b:List Sp.Ed)(m i j:Nat)(C:i<j)(D:i<=m)(E:m+j<=b.length):sL (Gj b (m-i) (m+j-i) i) (m-i) m (m+(j-i))=sL b (m-i) m (m+j):=by
 obtain⟨A,U,V,B,rfl,r,G,F⟩:=qV b (m-i) m (m+j) (by omega) (by omega) E;obtain⟨e,l,rfl,H⟩:∃e l,V=e++l/\e.length=j-i:=⟨V.take (j-i),V.drop (j-i),(r4 _ _).symm,by simp;omega⟩
 rw[lN] at F;have y:=sB A U e l B (by omega);have z:=kq A l e (U++B);have u:=kq A U (e++l) B;rw[lN] at u;rw[show A.length+U.length+e.length=m+j-i by omega,show U.length=i by omega,r] at y;rw[show A.length+l.length=m by omega,show m+e.length=m+(j-i) by omega,r] at z;rw[show A.length+U.length=m by omega,show m+(e.length+l.length)=m+j by omega,r] at u;rw[u,mR,y,z];simp[mR]
theorem Hw(b:List Sp.Ed)(m i:Nat)(r:i<=m)(u:m+i<=b.length):Gj b (m-i) m i=sL b (m-i) m (m+i):=by
 obtain⟨A,U,V,B,rfl,j,y,z⟩:=qV b (m-i) m (m+i) (by omega) (by omega) u;have e:=sB A U [] V B (by omega);have l:=kq A U V B;simp only[sj,Bb,ub] at e;rw[show A.length+U.length=m by omega,show U.length=i by omega,j] at e;rw[show A.length+U.length=m by omega,show m+V.length=m+i by omega,j] at l;rw[e,l]
theorem nZ(g cap B a b n N:Nat)(m r u:Int)(X:List Sp.Ed)(y:TK)(w:TJ)(ha:m=(a:Int))(j:r=(b:Int))(A:u=(n:Int))(C:X.length=N)(h:w.ownsRow B 162 3 (.slice (some ⟨g,0,none⟩) N cap) N (dh X))(l:a+n<=b)(hb:b+n<=N)(D:N<=5000):TL prog 255 #[.slice (some ⟨g,0,none⟩) N cap,Z Y m,Z Y r,Z Y u,y] w λe z=>e=.returned (.tuple #[])/\
   z.ownsRow B 162 3 (.slice (some ⟨g,0,none⟩) N cap) N (dh (Gj X a b n))/\w.grownBy z (some g):=by
 subst ha j A C;exact wL g cap B a b n X y w h l hb D
theorem Cn(g cap B a m b N:Nat)(X:List Sp.Ed)(E:TK)(w:TJ)(K:X.length=N)(h:w.ownsRow B 162 3 (.slice (some ⟨g,0,none⟩) N cap) N (dh X))(Q:a<m)(R:m<b)(hb:b<=N)(F:N<=5000):TL prog 241 #[.slice (some ⟨g,0,none⟩) N cap,Z Y a,Z Y m,Z Y b,E] w λe L=>e=.returned (.tuple #[])/\
   L.ownsRow B 162 3 (.slice (some ⟨g,0,none⟩) N cap) N (dh (sL X a m b))/\w.grownBy L (some g):=by
 have S:=cP K;clear K;go_enter func241,ntmps241;go_wp2
 go_loopw [10,11] (λu v wr=>∃(i j:Nat) (l:List Sp.Ed),u=Z Y i/\v=Z Y j/\0<i/\0<j/\i<=m-a/\j<=b-m/\Hid (l.length=N)/\wr.ownsRow B 162 3 (.slice (some ⟨g,0,none⟩) N cap) N (dh l)/\w.grownBy wr (some g)/\Hid (sL l (m-i) m (m+j)=sL X a m b)) (λu v _=>(intOf u).toNat+(intOf v).toNat)
 case atStart=>exact⟨m-a,b-m,X,by go_num,by go_num,by omega,by omega,by omega,by omega,S,h,iv _ _,by show _=_;rw[show m-(m-a)=a by omega,show m+(b-m)=b by omega]⟩
 case round =>
  obtain⟨i,j,l,rfl,rfl,G,H,hi,T,A,M,D,I⟩:=hrel;have J:=cP M;have C:=cP D;clear M D h;rcases Nat.lt_trichotomy i j with r|r|r
  .have O:((i:Int) != (j:Int))=true:=by rw[E8];omega
   go_wp2_with fail;refine(nZ g cap B (m-i) (m+j-i) i N _ _ _ l E _ (by omega) (by omega) (by omega) (cO A) (cO J) (by omega) (by omega) F).mono ?_;rintro e P ⟨rfl,y,z⟩;go_wp2;go_roundw
   case rel=>exact⟨i,j-i,_,rfl,by go_num,G,by omega,hi,by omega,by show _=_;rw[pg];exact cO A,y,dv (cO C) z,by show _=_;rw[<-cO I];exact Ot l m i j r (by omega) (by rw[cO A];omega)⟩
   case measure=>simp[intOf];omega
  .subst r;have O:((i:Int) != (i:Int))=false:=by simp
   go_wp2_with fail;refine(nZ g cap B (m-i) m i N _ _ _ l E _ (by omega) (by omega) (by omega) (cO A) (cO J) (by omega) (by omega) F).mono ?_;rintro e P ⟨rfl,y,z⟩;go_wp2
   go_end0
   refine⟨rfl,?_,dv (cO C) z⟩;rw[<-cO I,<-Hw l m i (by omega) (by rw[cO A];omega)];exact y
  .have O:((i:Int) != (j:Int))=true:=by rw[E8];omega
   go_wp2_with fail;refine(nZ g cap B (m-i) m j N _ _ _ l E _ (by omega) (by omega) (by omega) (cO A) (cO J) (by omega) (by omega) F).mono ?_;rintro e P ⟨rfl,y,z⟩;go_wp2;go_roundw
   case rel=>exact⟨i-j,j,_,by go_num,rfl,by omega,H,by omega,T,by show _=_;rw[pg];exact cO A,y,dv (cO C) z,by show _=_;rw[<-cO I];exact NC l m i j r (by omega) (by rw[cO A];omega)⟩
   case measure=>simp[intOf];omega
end
namespace Sp
open Go
def fP(L:List Ln):Tb:=(L.filter λl=>!l.iR).map λl=>(l.de,l.n)
theorem qK(A B:List Ln):fP (A++B)=fP A++fP B:=by simp[fP]
theorem su(L:List Ln):(fP L).length=nv L:=by
 have h:∀M:List Ln,(M.filter λl=>!l.iR).length+(M.filter λl=>l.iR).length=M.length:=by
  intro M
  induction M with
  |nil=>rfl
  |cons l t b=>cases hl:l.iR <;> simp[hl] <;> omega
 have:=h L;unfold fP nv oY;rw[rY];omega
theorem uK(L:List Ln)(n:Nat)(h:L.length<=n)(a:Int):BC L n a=dw (fP L) a:=by
 unfold BC dw fP;rw[zS h]
 induction L with
 |nil=>rfl
 |cons l t b =>
  have:=b (by simp at h;omega);cases hl:l.iR with
  |true=>simp only[List.any_cons,QC,hl,Bool.not_true,Bool.false_and,Bool.false_or,He];simpa [QC] using this
  |false=>simp only[List.any_cons,QC,hl,Bool.not_false,Bool.true_and,He,l9,wj];rw[<-this]
theorem sH{T U:Tb}(h:T.Perm U)(a:Int):dw T a=dw U a:=by
 unfold dw;apply Bool.eq_iff_iff.2;rw[Ci,Ci];constructor
 .rintro⟨p,b,e⟩;exact⟨p,h.mem_iff.1 b,e⟩
 .rintro⟨p,b,e⟩;exact⟨p,h.mem_iff.2 b,e⟩
theorem s9{T U:Tb}(h:T.Perm U)(a:Int):dm T a=dm U a:=(h.filter _).length_eq
theorem ql(L:List Ln)(a:Int):dm (fP L) a=low L a:=by
 unfold dm fP low;rw[List.filter_map,rY,List.filter_filter]
 congr 2
 funext l
 simp[Mo,Bool.and_comm]
theorem E7(T:Tb)(a v:Int):(gI T a v).Perm ((a,v)::T):=by
 unfold gI;refine List.perm_middle.trans ?_;rw[r4]
theorem gB(P Q:List (Option Ln)):dA (P++Q)=dA P++dA Q:=by simp[dA]
theorem JN(P:List (Option Ln)):∀k,(dQ P k).length=(dA P).length:=by
 induction P with
 |nil=>intro k;rfl
 |cons p t b =>
  intro k;cases p with
  |none=>simpa [dQ,dA] using b (k+1)
  |some l=>simpa [dQ,dA] using b (k+1)
theorem Di(P R:List (Option Ln))(l:Ln):(dQ (P++some l::R) 0).getD (dA P).length 0=P.length:=by
 rw[o6,<-JN P 0];simp[dQ,List.getD]
theorem Dz(P R:List (Option Ln))(l:Ln):(dA (P++some l::R))[(dA P).length]?=some l:=by
 rw[gB];simp[dA]
theorem Kx:∀(R P:List (Option Ln)) (T:Tb),da T->T.Perm (fP (dA P))->(∀i,i<(dA P).length->kL (dA (P++R)) i=false)->
  (∃i,first (kL (dA (P++R))) (dA (P++R)).length=some i/\gv R P.length T=.error ((dQ (P++R) 0).getD i 0))\/
  (first (kL (dA (P++R))) (dA (P++R)).length=none/\∃B,gv R P.length T=.ok B/\da B/\B.Perm (fP (dA (P++R)))):=by
 intro R
 induction R with
 |nil =>
  intro P T z y u;right;rw[B2] at u ⊢;exact⟨jg u,T,rfl,z,y⟩
 |cons q r C =>
  intro P T z y u;have e:P++q::r=(P++[q])++r:=by simp
  have m:(P++[q]).length=P.length+1:=by simp
  cases q with
  |none =>
   have b:dA (P++[none])=dA P:=by rw[gB];simp[dA]
   have:=C (P++[none]) T z (by rw[b];exact y) (by rw[b,<-e];exact u);rw[<-e,m] at this;exact this
  |some l =>
   have b:dA (P++[some l])=dA P++[l]:=by rw[gB];simp[dA]
   have A:=Dz P r l;have D:(dA P).length<(dA (P++some l::r)).length:=by rw[gB];simp[dA]
   have E:(dA (P++some l::r)).take (dA P).length=dA P:=by rw[gB];simp
   cases j:l.iR with
   |true =>
    have F:fP (dA (P++[some l]))=fP (dA P):=by rw[b,qK];simp[fP,j]
    have I:kL (dA (P++some l::r)) (dA P).length=false:=by unfold kL;rw[A];simp[j]
    have:=C (P++[some l]) T z (by rw[F];exact y) (by
     intro i hi;rw[<-e];rw[b] at hi;simp at hi;rcases Tg (Nat.le_of_lt_succ hi) with h|h
     .exact u i h
     .rw[h];exact I)
    rw[<-e,m] at this;have G:gv (some l::r) P.length T=gv r (P.length+1) T:=by simp only[gv,j,l9]
    rw[G];exact this
   |false =>
    have H:kL (dA (P++some l::r)) (dA P).length=dw T l.de:=by
     unfold kL;rw[A];simp only[j,Bool.not_false,Bool.true_and];rw[sH y,<-uK (dA P) (dA P).length TG];unfold BC;rw[E,wI]
    cases hh:dw T l.de with
    |true =>
     left;refine⟨(dA P).length,oa D u (by rw[H,hh]),?_⟩;rw[Di];simp only[gv,j,hh];rfl
    |false =>
     have F:fP (dA (P++[some l]))=fP (dA P)++[(l.de,l.n)]:=by rw[b,qK];simp[fP,j]
     have:=C (P++[some l]) (gI T l.de l.n) (iq z hh) (by
      rw[F];refine(E7 T l.de l.n).trans ?_;refine(List.Perm.cons _ y).trans ?_;exact(List.perm_append_singleton _ _).symm) (by
       intro i hi;rw[<-e];rw[b] at hi;simp at hi;rcases Tg (Nat.le_of_lt_succ hi) with h|h
       .exact u i h
       .rw[h,H,hh])
     rw[<-e,m] at this;have G:gv (some l::r) P.length T=gv r (P.length+1) (gI T l.de l.n):=by simp only[gv,j,hh];rfl
     rw[G];exact this
def gj(L M:List Ln):List Ed:=(M.filter λl=>l.iR).map λl=>⟨low L l.de,low L l.vo,l.n⟩
theorem qJ(L A B:List Ln):gj L (A++B)=gj L A++gj L B:=by simp[gj]
theorem EG(L:List Ln):(gj L L).length=oY L:=by simp[gj,oY]
theorem LS(T:Tb)(L:List Ln)(J:T.Perm (fP L)):∀(R P:List (Option Ln)),dA (P++R)=L->(∀i,i<(dA P).length->loose L i=false)->
  (∃i,first (loose L) L.length=some i/\ge T R P.length (gj L (dA P))=.error ((dQ (P++R) 0).getD i 0))\/
  (first (loose L) L.length=none/\ge T R P.length (gj L (dA P))=.ok (gj L L)):=by
 have z:∀a,dw T a=BC L L.length a:=λa=>by rw[sH J,uK L _ TG]
 have A:∀a,dm T a=low L a:=λa=>by rw[s9 J,ql]
 intro R
 induction R with
 |nil =>
  intro P B C;right;rw[B2] at B;rw[B] at C;rw[B];exact⟨jg C,rfl⟩
 |cons q r G =>
  intro P B C;have e:P++q::r=(P++[q])++r:=by simp
  have m:(P++[q]).length=P.length+1:=by simp
  cases q with
  |none =>
   have b:dA (P++[none])=dA P:=by rw[gB];simp[dA]
   have:=G (P++[none]) (by rw[<-e];exact B) (by rw[b];exact C);rw[<-e,m,b] at this;exact this
  |some l =>
   have b:dA (P++[some l])=dA P++[l]:=by rw[gB];simp[dA]
   have y:=Dz P r l;have D:(dA P).length<(dA (P++some l::r)).length:=by rw[gB];simp[dA]
   rw[B] at y D;have u:loose L (dA P).length=false->∀i,i<(dA (P++[some l])).length->loose L i=false:=by
    intro E i hi;rw[b] at hi;simp at hi;rcases Tg (Nat.le_of_lt_succ hi) with h|h
    .exact C i h
    .rw[h];exact E
   cases j:l.iR with
   |false =>
    have E:loose L (dA P).length=false:=by unfold loose;rw[y];simp[j]
    have H:gj L (dA (P++[some l]))=gj L (dA P):=by rw[b,qJ];simp[gj,j]
    have:=G (P++[some l]) (by rw[<-e];exact B) (u E);rw[<-e,m,H] at this;have I:ge T (some l::r) P.length (gj L (dA P))=ge T r (P.length+1) (gj L (dA P)):=by simp only[ge,j];rfl
    rw[I];exact this
   |true =>
    by_cases F:dw T l.de=true/\dw T l.vo=true
    .have E:loose L (dA P).length=false:=by unfold loose;rw[y];simp[j,<-z,F.1,F.2]
     have H:gj L (dA (P++[some l]))=gj L (dA P)++[⟨low L l.de,low L l.vo,l.n⟩]:=by rw[b,qJ];simp[gj,j]
     have:=G (P++[some l]) (by rw[<-e];exact B) (u E);rw[<-e,m,H] at this;have I:ge T (some l::r) P.length (gj L (dA P))=ge T r (P.length+1) (gj L (dA P)++[⟨low L l.de,low L l.vo,l.n⟩]):=by
      simp only[ge,j,l9];rw[cg F,A,A]
     rw[I];exact this
    .left;refine⟨(dA P).length,oa D C ?_,?_⟩
     .unfold loose;rw[y];simp only[j,Bool.true_and,<-z];cases K:dw T l.de with
      |false=>rfl
      |true =>
       cases M:dw T l.vo with
       |false=>rfl
       |true=>exact absurd ⟨K,M⟩ F
     .rw[Di];simp only[ge,j,l9];rw[cd F]
end Sp
namespace Sp
open Go
variable {T:Tb}
theorem vK(e:da T){j:Nat}(l:j<T.length): dm T (T[j]).1=j:=jN (by omega) (λi hi b=>et e b l) (λi hi b=>fg e b hi)
theorem yM(b:da T){k:Nat}(r:k<T.length): T.filter (λp=>dm T p.1 == k)=[T[k]]:=by
 have e:T=T.take k++T[k]::T.drop (k+1):=by
  rw[<-kp r,r4]
 have u:(T.take k).filter (λp=>dm T p.1 == k)=[]:=by
  rw[Tp];intro p l;obtain⟨j,m,rfl⟩:=oM.1 l;rw[A3] at m;rw[List.getElem_take,vK b (by omega)];simp;omega
 have y:(T.drop (k+1)).filter (λp=>dm T p.1 == k)=[]:=by
  rw[Tp];intro p l;obtain⟨j,m,rfl⟩:=oM.1 l;rw[uT] at m;rw[List.getElem_drop,vK b (by omega)];simp;omega
 have z:([T[k]]:Tb).filter (λp=>dm T p.1 == k)=[T[k]]:=by
  rw[He,vK b r];simp
 have A:(T.take k++([T[k]]++T.drop (k+1))).filter (λp=>dm T p.1 == k)=[T[k]]:=by rw[Dr,Dr,u,y,z];rfl
 exact(congrArg (List.filter (λp=>dm T p.1 == k)) e).trans A
variable {L:List Ln}
theorem ES(m:da T)(e:T.Perm (fP L)){k:Nat}(r:k<T.length): (PW L k L.length).map (λl=>(l.de,l.n))=[T[k]]:=by
 have b:∀a,low L a=dm T a:=λa=>by rw[s9 e,ql]
 have u:(PW L k L.length).map (λl=>(l.de,l.n))=(fP L).filter (λp=>dm T p.1 == k):=by
  unfold PW fP;rw[wI,List.filter_map,List.filter_filter]
  congr 2
  funext l
  simp[Pm,b,Bool.and_comm]
 rw[u];have j:=e.filter (λp=>dm T p.1 == k);rw[yM m r] at j;exact(List.singleton_perm.1 j).symm
theorem L3(b:da T)(e:T.Perm (fP L)): ∀n,n<=T.length->(vs L n).map (λl=>(l.de,l.n))=T.take n:=by
 intro n
 induction n with
 |zero=>intro _;rfl
 |succ n j =>
  intro m;rw[vs,Bg,j (by omega),ES b e (by omega)];exact(zQ (by omega)).symm
theorem Mf(e:da T)(b:T.Perm (fP L)): (vs L (nv L)).map (λl=>(l.de,l.n))=T:=by
 have j:T.length=nv L:=by rw[b.length_eq,su]
 rw[L3 e b _ (by omega),zS (by omega)]
theorem tI{α : Type}(f : α->Nat)(a:Nat):∀X:List α,X.Pairwise (λx y=>f x<=f y)->X.filter (λx=>decide (f x<a+1))=X.filter (λx=>decide (f x<a))++X.filter (λx=>f x == a):=by
 intro X
 induction X with
 |nil=>intro _;rfl
 |cons x t m =>
  intro h;have l:=(sQ.1 h).1;have:=m (sQ.1 h).2;rcases Nat.lt_trichotomy (f x) a with b|b|b
  .simp[He,b,show f x<a+1 by omega,show ¬f x=a by omega,this]
  .have e:t.filter (λx=>decide (f x<a))=[]:=by
    rw[Tp];intro y j;have:=l y j;simp;omega
   rw[e] at this;simp[He,b,e,this]
  .have e:t.filter (λx=>decide (f x<a))=[]:=by
    rw[Tp];intro y j;have:=l y j;simp;omega
   simp[He,show ¬f x<a by omega,show ¬f x<a+1 by omega,show ¬f x=a by omega,e,this]
def iH(x y:Ed):Prop:=x.de<y.de\/(x.de=y.de/\x.vo<=y.vo)
def isKey(a b:Nat)(e:Ed):Bool:=e.de == a&&e.vo == b
theorem KG(L:List Ln)(a b:Nat):PF L a b L.length=(gj L L).filter (isKey a b):=by
 unfold PF gj;rw[wI,List.filter_map,List.filter_filter];have e:L.filter (OI L a b)=L.filter (λl=>(isKey a b ∘ λl=>(⟨low L l.de,low L l.vo,l.n⟩:Ed)) l&&l.iR):=by
  congr 1
  funext l
  simp[OI,isKey,Bool.and_comm]
 rw[e];apply Tm;intro l j;have:=(FT.1 j).2;simp[isKey] at this;rw[this.1.1,this.1.2]
theorem P2{n:Nat}{X:List Ed}(z:X.Pairwise iH)(hb:∀x∈X,x.de<n/\x.vo<n)(A:∀a b,X.filter (isKey a b)=(gj L L).filter (isKey a b)): X=es L n n:=by
 have m:X.Pairwise (λx y=>x.de<=y.de):=z.imp (λh=>by rcases h with h | h <;> omega);have e:∀a b,(X.filter (λx=>x.de == a)).filter (λx=>decide (x.vo<b))=E9 L a b:=by
  intro a b;have r:(X.filter (λx=>x.de == a)).Pairwise (λx y=>x.vo<=y.vo):=by
   rw[List.pairwise_filter];refine z.imp (λh=>?_);intro j B;simp at j B;rcases h with h|h <;> omega
  induction b with
  |zero=>simp[E9]
  |succ b u =>
   rw[tI (λx:Ed=>x.vo) b _ r,u,E9,KG,<-A]
   congr 1
   rw[List.filter_filter]
   congr 1
   funext x
   simp[isKey,Bool.and_comm]
 have l:∀a,X.filter (λx=>decide (x.de<a))=es L n a:=by
  intro a
  induction a with
  |zero=>simp[es]
  |succ a u =>
   rw[tI (λx:Ed=>x.de) a _ m,u,es,<-e a n]
   congr 1
   rw[List.filter_filter];apply List.filter_congr;intro x j;have:=(hb x j).2;simp[this]
 rw[<-l n,List.filter_eq_self.2];intro x j;simpa using (hb x j).1
theorem NG(z:da T)(m:T.Perm (fP L))(r:first (loose L) L.length=none): ∀x∈gj L L,x.de<nv L/\x.vo<nv L:=by
 have b:∀a,low L a=dm T a:=λa=>by rw[s9 m,ql]
 have e:∀a,BC L L.length a=dw T a:=λa=>by rw[sH m,uK L _ TG]
 have A:T.length=nv L:=by rw[m.length_eq,su]
 intro x C;obtain⟨l,u,rfl⟩:=xD.1 C;obtain⟨D,y⟩:=FT.1 u;obtain⟨i,hi,rfl⟩:=oM.1 D;unfold first at r
 rw[List.find?_eq_none] at r;have j:=r i (KH.2 hi);unfold loose at j;rw[cH hi] at j;simp only[y,Bool.true_and,e] at j;have B:dw T (L[i]).de=true/\dw T (L[i]).vo=true:=by
  cases E:dw T (L[i]).de <;> cases hb:dw T (L[i]).vo <;> simp[E,hb] at j ⊢
 simp only[b];obtain⟨F,_⟩:=(iU z _).1 B.1;obtain⟨G,_⟩:=(iU z _).1 B.2;omega
end Sp
section
def St(X e:List Sp.Ed):Prop:=e.length=X.length/\∀a b,e.filter (Sp.isKey a b)=X.filter (Sp.isKey a b)
theorem St.refl(X:List Sp.Ed):St X X:=⟨rfl,λ_ _=>rfl⟩
variable {X:List Sp.Ed}
theorem St.trans{e j:List Sp.Ed}(h:St X e)(k:St e j): St X j:=⟨k.1.trans h.1,λa b=>(k.2 a b).trans (h.2 a b)⟩
def ou(x y:Sp.Ed):Prop:=x.de<y.de\/(x.de=y.de/\x.vo<y.vo)
theorem uc(x y:Sp.Ed):yk x y<0↔ou x y:=IE x y
variable {y x:Sp.Ed}
theorem jR(h:¬ou x y): Sp.iH y x:=by unfold ou at h;unfold Sp.iH;omega
theorem mJ(h:ou x y): Sp.iH x y:=by unfold ou at h;unfold Sp.iH;omega
theorem oW{z:Sp.Ed}(h:Sp.iH x y)(k:Sp.iH y z): Sp.iH x z:=by unfold Sp.iH at *;omega
theorem CW(x:Sp.Ed):Sp.iH x x:=by unfold Sp.iH;omega
theorem F8(h:ou x y)(a b:Nat): ¬(Sp.isKey a b x=true/\Sp.isKey a b y=true):=by
 rintro⟨e,j⟩;simp[Sp.isKey] at e j;unfold ou at h;omega
theorem Hp(A U V B:List Sp.Ed)(h:∀u∈U,∀v∈V,ou v u):St (A++(U++(V++B))) (A++(V++(U++B))):=by
 refine⟨by simp;omega,λa b=>?_⟩;simp only[Dr];have:U.filter (Sp.isKey a b)=[]\/V.filter (Sp.isKey a b)=[]:=by
  apply Ty;intro j;have l:U.filter (Sp.isKey a b)≠[]:=λe=>j (Or.inl e)
  have m:V.filter (Sp.isKey a b)≠[]:=λe=>j (Or.inr e)
  obtain⟨u,hu⟩:=List.exists_mem_of_ne_nil _ l;obtain⟨v,r⟩:=List.exists_mem_of_ne_nil _ m;obtain⟨u1,u2⟩:=FT.1 hu;obtain⟨z,C⟩:=FT.1 r;exact F8 (h u u1 v z) a b ⟨C,u2⟩
 rcases this with e|e <;> rw[e] <;> simp
theorem Ny(A B:List Sp.Ed)(x y:Sp.Ed):sw (A++(x::y::B)) (A.length+1) A.length=A++(y::x::B):=by
 apply List.ext_getElem?;intro t;rw[lH _ _ _ (by simp) (by simp)];by_cases b:t=A.length
 .subst b;simp
 .rw[cd b];by_cases e:t=A.length+1
  .subst e;simp
  .rw[cd e];by_cases j:t<A.length
   .rw[qa j,qa j]
   .rw[cF (by omega),cF (by omega)];obtain⟨k,l⟩:∃k,t-A.length=k+2:=⟨t-A.length-2,by omega⟩
    rw[l];rfl
theorem QY(X:List Sp.Ed)(j:Nat)(b:j+1<X.length):X=X.take j++(X[j]::X[j+1]::X.drop (j+2)):=by
 rw[<-kp b,<-kp (by omega),r4]
theorem Gs(X:List Sp.Ed)(j:Nat)(l:j+1<X.length)(h:ou X[j+1] X[j]):St X (sw X (j+1) j):=by
 have e:=QY X j l;have m:(X.take j).length=j:=by simp;omega
 have b:=Ny (X.take j) (X.drop (j+2)) X[j] X[j+1];rw[m,<-e] at b;rw[b];have:=Hp (X.take j) [X[j]] [X[j+1]] (X.drop (j+2)) (by simpa using h);simp only[mf,sj] at this;rw[<-e] at this;exact this
def Ord(X:List Sp.Ed)(a b:Nat):Prop := ∀s t x y,a<=s->s<t->t<b->X[s]?=some x->X[t]?=some y->Sp.iH x y
def vl(X:List Sp.Ed)(a b j:Nat):Prop := ∀s t x y,a<=s->s<t->t<b->t≠j->X[s]?=some x->X[t]?=some y->Sp.iH x y
variable {a:Nat}
theorem Lc{i:Nat}(h:Ord X a i): vl X a (i+1) i:=λs t x y b e j l=>h s t x y b e (by omega)
theorem Df{b j:Nat}(h:vl X a b j)(he:j<=a\/∃p,p+1=j/\∃x y,X[p]?=some x/\X[j]?=some y/\¬ou y x): Ord X a b:=by
 intro s t x y r B C m u;by_cases z:t=j
 .rcases he with he|⟨p,F,D,G,e,l,A⟩
  .omega
  .subst z;rw[u] at l;injection l with l;subst l;by_cases E:s=p
   .subst E;rw[m] at e;injection e with e;subst e;exact jR A
   .exact oW (h s p x D r (by omega) (by omega) (by omega) m e) (jR A)
 .exact h s t x y r B C z m u
theorem Gp{b j:Nat}(h:vl X a b (j+1))(z:a<=j)(G:j+1<b)(D:j+1<X.length)(A:ou X[j+1] X[j]): vl (sw X (j+1) j) a b j:=by
 intro s t x y E H B I e l;rw[lH _ _ _ D (by omega)] at e l;rw[cd I] at l;have C:X[j+1]?=some X[j+1]:=cH D;have u:X[j]?=some X[j]:=cH (by omega);by_cases m:t=j+1
 .rw[cg m,u] at l;injection l with l;subst l;by_cases r:s=j
  .rw[cg r,C] at e;injection e with e;subst e;exact mJ A
  .rw[cd r,cd (by omega)] at e;exact h s j _ _ E (by omega) (by omega) (by omega) e u
 .rw[cd m] at l;by_cases r:s=j
  .rw[cg r,C] at e;injection e with e;subst e;exact h (j+1) t _ _ (by omega) (by omega) B m C l
  .rw[cd r] at e;by_cases F:s=j+1
   .rw[cg F,u] at e;injection e with e;subst e;exact h j t _ _ z (by omega) B m u l
   .rw[cd F] at e;exact h s t _ _ E H B m e l
end
section
open Go.RowKit
def DQ(g cap B N a b:Nat)(X:List Sp.Ed)(w:TJ)(e:Ending)(w':TJ):Prop:=e=.returned (.tuple #[])/\∃j,w'.ownsRow B 162 3 (.slice (some ⟨g,0,none⟩) N cap) N (dh j)/\w.grownBy w' (some g)/\St X j/\Ord j a b/\∀t,t<a\/b<=t->j[t]?=X[t]?
theorem wN(g cap B a b N:Nat)(X:List Sp.Ed)(w:TJ)(hX:X.length=N)(h:w.ownsRow B 162 3 (.slice (some ⟨g,0,none⟩) N cap) N (dh X))(ag:a<=b)(hb:b<=N)(hl:N<=5000):TL prog 222 #[.slice (some ⟨g,0,none⟩) N cap,Z Y a,Z Y b,.func (.func 106) #[] #[]] w (DQ g cap B N a b X w):=by
 have HX:=cP hX;clear hX;go_enter func222,ntmps222;go_wp2
 go_loopw [8] (λu wr=>∃(i:Nat) (l:List Sp.Ed),u=Z Y i/\a<i/\(i<=b\/i=a+1)/\wr.ownsRow B 162 3 (.slice (some ⟨g,0,none⟩) N cap) N (dh l)/\w.grownBy wr (some g)/\Hid (l.length=N)/\Hid (St X l)/\Hid (Ord l a i)/\Hid (∀t,t<a\/b<=t->l[t]?=X[t]?)) (λu _=>b+1-(intOf u).toNat)
 case atStart=>exact⟨a+1,X,by go_num,by omega,Or.inr rfl,h,iv _ _,HX,St.refl _,λs t x y O h2 h3=>by omega,λt _=>rfl⟩
 case round =>
  obtain⟨i,l,rfl,ah,ai,ho,S,HY,o,aa,P⟩:=hrel;by_cases aj:i<b
  .have af:(i:Int)<(b:Int):=by omega
   go_wp2
   go_loopw [9] (λu ab=>∃(j:Nat) (m:List Sp.Ed),u=Z Y j/\a<=j/\j<=i/\ab.ownsRow B 162 3 (.slice (some ⟨g,0,none⟩) N cap) N (dh m)/\w.grownBy ab (some g)/\Hid (m.length=N)/\Hid (St X m)/\Hid (vl m a (i+1) j)/\Hid (∀t,t<a\/b<=t->m[t]?=X[t]?)) (λu _=>(intOf u).toNat)
   case atStart=>exact⟨i,l,rfl,by omega,b7 _,ho,S,HY,o,Lc (cO aa),P⟩
   case round =>
    obtain⟨j,m,rfl,ak,an,I,D,U,J,K,C⟩:=hrel;clear ho S;by_cases ao:a<j
    .obtain⟨q,V⟩:∃q,Hid (j=q+1):=⟨j-1,by show _=_;omega⟩
     have aq:q<j:=by have:=cO V;omega
     have ar:a<=q:=by have:=cO V;omega
     have au:j<N:=by omega
     have Q:(a:Int)<(j:Int):=by omega
     have av:(j:Int)<(N:Int):=by omega
     have aw:(q:Int)<(N:Int):=by omega
     have p0:(0:Int)<=(j:Int):=by omega
     have p1:(0:Int)<=(q:Int):=by omega
     have ax:IntKind.i64.wrap ((j:Int)-1)=(q:Int):=by have:=cO V;rw[fp];omega
     obtain⟨G,H,⟨c0,c1,c2⟩,⟨d0,d1,d2⟩,_,L⟩:=o7 (cO U) I j q (by omega) (by omega);obtain⟨c,hc⟩:∃c,yk G H=c:=⟨_,rfl⟩
     have HC:=cP hc;have T:=cP (uc G H);rw[hc] at T;clear hc;have z:g<wr.heap.size:=cE _ _ c0;by_cases R:c<0
     .go_wp2_with fail
      go_region_held3 (λE=>(E.cell? ⟨g,j*3,none⟩=some (Z Y (G.de:Int))/\E.cell? ⟨g,j*3+1,none⟩=some (Z Y (G.vo:Int))/\E.cell? ⟨g,j*3+2,none⟩=some (Z Y G.n))/\(E.cell? ⟨g,q*3,none⟩=some (Z Y (H.de:Int))/\E.cell? ⟨g,q*3+1,none⟩=some (Z Y (H.vo:Int))/\E.cell? ⟨g,q*3+2,none⟩=some (Z Y H.n)))
       (first|(go_keep;done)|(exact⟨⟨(r.cell (p:=⟨g,_,none⟩) z).trans c0,(r.cell (p:=⟨g,_,none⟩) z).trans c1,(r.cell (p:=⟨g,_,none⟩) z).trans c2⟩,⟨(r.cell (p:=⟨g,_,none⟩) z).trans d0,(r.cell (p:=⟨g,_,none⟩) z).trans d1,(r.cell (p:=⟨g,_,none⟩) z).trans d2⟩⟩))
       (first|(go_at_call 106;refine(gA G H _).mono ?_;rintro e w2 ⟨rfl,r⟩;rw[cO HC]))
      have F:TI wr w2:=TH.drew.trans r;have A:=cW I F;have f0:=dI A (j*3);have f1:=dI A (j*3+1);have f2:=dI A (j*3+2);have f3:=dI A (q*3);have f4:=dI A (q*3+1);have f5:=dI A (q*3+2);obtain⟨z1,z0,⟨r0,r1,r2⟩,⟨s0,s1,s2⟩,HO,M⟩:=o7 (cO U) A j q (by omega) (by omega);have ad:=cP (dv D (fG F));obtain rfl:z1=G:=by have O:=(cO L).1;rw[(cO M).1] at O;injection O
      obtain rfl:z0=H:=by have O:=(cO L).2;rw[(cO M).2] at O;injection O
      have HL:Hid (ou z1 z0):=(cO T).1 R;clear r F I A c0 c1 c2 d0 d1 d2 D;go_wp2_with fail
      go_region
      go_wp2;go_roundw
      case rel =>
       have ae:=cO V;subst ae;have W:q+1<m.length:=by rw[cO U];omega
       have e1:m[q+1]=z1:=by have:=(cO M).1;rw[cH W] at this;injection this
       have e2:m[q]=z0:=by have:=(cO M).2;rw[cH (by omega)] at this;injection this
       refine⟨q,sw m (q+1) q,by go_num,by omega,by omega,(cO HO).1,dv (cO ad) (cO HO).2,by show _=_;rw[zl];exact cO U,(cO J).trans (Gs m q W (by rw[e1,e2];exact cO HL)),Gp (cO K) (by omega) (by omega) W (by rw[e1,e2];exact cO HL),?_⟩;intro t ht;rw[lH _ _ _ W (by omega),cd (by omega),cd (by omega)];exact(cO C) t ht
      case measure=>have:=cO V;simp[intOf];omega
     .go_wp2_with fail
      go_region_held3 (λE=>(E.cell? ⟨g,j*3,none⟩=some (Z Y (G.de:Int))/\E.cell? ⟨g,j*3+1,none⟩=some (Z Y (G.vo:Int))/\E.cell? ⟨g,j*3+2,none⟩=some (Z Y G.n))/\(E.cell? ⟨g,q*3,none⟩=some (Z Y (H.de:Int))/\E.cell? ⟨g,q*3+1,none⟩=some (Z Y (H.vo:Int))/\E.cell? ⟨g,q*3+2,none⟩=some (Z Y H.n)))
       (first|(go_keep;done)|(exact⟨⟨(r.cell (p:=⟨g,_,none⟩) z).trans c0,(r.cell (p:=⟨g,_,none⟩) z).trans c1,(r.cell (p:=⟨g,_,none⟩) z).trans c2⟩,⟨(r.cell (p:=⟨g,_,none⟩) z).trans d0,(r.cell (p:=⟨g,_,none⟩) z).trans d1,(r.cell (p:=⟨g,_,none⟩) z).trans d2⟩⟩))
       (first|(go_at_call 106;refine(gA G H _).mono ?_;rintro e w2 ⟨rfl,r⟩;rw[cO HC]))
      have F:TI wr w2:=TH.drew.trans r;go_wp2;go_roundw
      case rel=>exact⟨i+1,m,by go_num,by omega,by omega,cW I F,dv D (fG F),U,J,Df (cO K) (Or.inr ⟨q,(cO V).symm,H,G,(cO L).2,(cO L).1,λW=>(Int.not_lt.2 R) ((cO T).2 W)⟩),C⟩
      case measure=>simp[intOf];omega
    .have Q:¬(a:Int)<(j:Int):=by omega
     have ay:decide ((a:Int)<(j:Int))=false:=df Q;go_wp2_with fail
     go_quiet (fail)
     go_wp2;go_roundw
     case rel=>exact⟨i+1,m,by go_num,by omega,by omega,cW I (below_drewN _ _),dv D (fG (below_drewN _ _)),U,J,Df (cO K) (Or.inl (by omega)),C⟩
     case measure=>simp[intOf];omega
  .go_wp2
   go_end0
   exact⟨rfl,l,ho,S,cO o,λs t x y O h2 h3=>(cO aa) s t x y O h2 (by omega),cO P⟩
end
section
def Out(X e:List Sp.Ed)(a b:Nat):Prop := ∀t,t<a\/b<=t->e[t]?=X[t]?
def OX(X e:List Sp.Ed)(a b:Nat):Prop := ∀t z,a<=t->t<b->e[t]?=some z->∃s,a<=s/\s<b/\X[s]?=some z
def JB(X e:List Sp.Ed)(a b:Nat):Prop:=St X e/\Ord e a b/\Out X e a b/\OX X e a b
theorem OX.refl(X:List Sp.Ed)(a b:Nat):OX X X a b:=λt z e j l=>⟨t,e,j,l⟩
variable {a b:Nat}{X:List Sp.Ed}
theorem JB.refl(h:Ord X a b): JB X X a b:=⟨St.refl _,h,λ_ _=>rfl,OX.refl _ _ _⟩
variable {y x:Sp.Ed}
theorem lE{z:Sp.Ed}(h:Sp.iH x y)(k:ou y z): ou x z:=by unfold Sp.iH at h;unfold ou at *;omega
theorem lC{z:Sp.Ed}(h:ou x y)(k:Sp.iH y z): ou x z:=by unfold Sp.iH at k;unfold ou at *;omega
theorem nR(h:Ord X a b){s t:Nat}(h1:a<=s)(h2:s<=t)(l:t<b)(j:X[s]?=some x)(e:X[t]?=some y): Sp.iH x y:=by
 rcases Tg h2 with h2|h2
 .exact h s t x y h1 h2 l j e
 .subst h2;rw[j] at e;injection e with e;subst e;exact CW _
def Dn(X e:List Sp.Ed)(a k:Nat):Prop:=St X e/\e[k]?=X[a]?/\(∀t,a<=t->t<k->e[t]?=X[t+1]?)/\(∀t,t<a\/k<t->e[t]?=X[t]?)
theorem Dn.refl(X:List Sp.Ed)(a:Nat):Dn X X a a:=⟨St.refl _,rfl,λt e j=>by omega,λ_ _=>rfl⟩
theorem Dn.step{e:List Sp.Ed}{k:Nat}(h:Dn X e a k)(B:a<=k)(I:k+1<X.length)(j:∀x y,X[a]?=some x->X[k+1]?=some y->ou y x): Dn X (sw e k (k+1)) a (k+1):=by
 obtain⟨z,A,C,l⟩:=h;have J:e.length=X.length:=z.1;have D:e[k]?=some e[k]:=cH (by omega);have E:e[k+1]?=some e[k+1]:=cH (by omega);have F:ou e[k+1] e[k]:=j _ _ (by rw[<-A,D]) (by rw[<-l (k+1) (by omega),E]);have G:sw e k (k+1)=sw e (k+1) k:=by
  apply List.ext_getElem?;intro t;rw[lH _ _ _ (by omega) (by omega),lH _ _ _ (by omega) (by omega)];by_cases r:t=k+1
  .subst r;rw[cg rfl,cd (by omega),cg rfl]
  .rw[cd r,cd r]
 refine⟨by rw[G];exact z.trans (Gs e k (by omega) F),?_,?_,?_⟩
 .rw[lH _ _ _ (by omega) (by omega),cg rfl,A]
 .intro t u H;rw[lH _ _ _ (by omega) (by omega),cd (by omega)];by_cases c:t=k
  .subst c;rw[cg rfl,l _ (by omega)]
  .rw[cd c,C t u (by omega)]
 .intro t K;rw[lH _ _ _ (by omega) (by omega),cd (by omega),cd (by omega),l t (by omega)]
variable {m:Nat}
theorem Dn.close{e:List Sp.Ed}{i:Nat}(Q:m=a+1)(hi:m<=i)(M:i<=b)(hb:b<=X.length)(E:Ord X m b)(F:∀t x y,m<=t->t<i->X[a]?=some x->X[t]?=some y->ou y x)(G:∀t x y,i<=t->t<b->X[a]?=some x->X[t]?=some y->¬ou y x)(h:Dn X e a (i-1)): JB X e a b:=by
 obtain⟨N,H,u,D⟩:=h;refine⟨N,?_,λt R=>D t (by omega),?_⟩
 .intro s t x y I A B j l;by_cases J:t<i-1
  .rw[u s I (by omega)] at j;rw[u t (by omega) J] at l;exact E _ _ _ _ (by omega) (by omega) (by omega) j l
  .by_cases K:t=i-1
   .subst K;rw[u s I A] at j;rw[H] at l;exact mJ (F (s+1) y x (by omega) (by omega) l j)
   .rw[D t (by omega)] at l;by_cases O:s<i-1
    .rw[u s I O] at j;exact E _ _ _ _ (by omega) (by omega) (by omega) j l
    .by_cases P:s=i-1
     .subst P;rw[H] at j;exact jR (G t x y (by omega) B j l)
     .rw[D s (by omega)] at j;exact E _ _ _ _ (by omega) A B j l
 .intro t z C L r;by_cases J:t<i-1
  .rw[u t C J] at r;exact⟨t+1,by omega,by omega,r⟩
  .by_cases K:t=i-1
   .subst K;rw[H] at r;exact⟨a,by omega,by omega,r⟩
   .rw[D t (by omega)] at r;exact⟨t,C,L,r⟩
def Up(X e:List Sp.Ed)(k m:Nat):Prop:=St X e/\e[k]?=X[m]?/\(∀t,k<t->t<=m->e[t]?=X[t-1]?)/\(∀t,t<k\/m<t->e[t]?=X[t]?)
theorem Up.refl(X:List Sp.Ed)(m:Nat):Up X X m m:=⟨St.refl _,rfl,λt e j=>by omega,λ_ _=>rfl⟩
theorem Up.step{e:List Sp.Ed}{k:Nat}(h:Up X e (k+1) m)(A:k+1<=m)(G:m<X.length)(j:∀x y,X[m]?=some x->X[k]?=some y->ou x y): Up X (sw e (k+1) k) k m:=by
 obtain⟨u,z,B,l⟩:=h;have H:e.length=X.length:=u.1;have C:e[k]?=some e[k]:=cH (by omega);have D:e[k+1]?=some e[k+1]:=cH (by omega);have E:ou e[k+1] e[k]:=j _ _ (by rw[<-z,D]) (by rw[<-l k (by omega),C]);refine⟨u.trans (Gs e k (by omega) E),?_,?_,?_⟩
 .rw[lH _ _ _ (by omega) (by omega),cg rfl,z]
 .intro t F r;rw[lH _ _ _ (by omega) (by omega),cd (by omega)];by_cases c:t=k+1
  .subst c;rw[cg rfl,l _ (by omega)];rfl
  .rw[cd c,B t (by omega) r]
 .intro t I;rw[lH _ _ _ (by omega) (by omega),cd (by omega),cd (by omega),l t (by omega)]
theorem Up.close{e:List Sp.Ed}{i:Nat}(Q:b=m+1)(L:a<=i)(M:i<=m)(hb:b<=X.length)(C:Ord X a m)(D:∀t x y,a<=t->t<i->X[m]?=some x->X[t]?=some y->¬ou x y)(E:∀t x y,i<=t->t<m->X[m]?=some x->X[t]?=some y->ou x y)(h:Up X e i m): JB X e a b:=by
 obtain⟨N,F,u,A⟩:=h;refine⟨N,?_,λt R=>A t (by omega),?_⟩
 .intro s t x y G H O l j;by_cases K:s<i
  .rw[A s (by omega)] at l;by_cases B:t<i
   .rw[A t (by omega)] at j;exact C _ _ _ _ G H (by omega) l j
   .by_cases P:t=i
    .subst P;rw[F] at j;exact jR (D s y x G K j l)
    .rw[u t (by omega) (by omega)] at j;exact nR C G (by omega) (by omega) l j
  .by_cases B:s=i
   .subst B;rw[F] at l;rw[u t (by omega) (by omega)] at j;exact mJ (E _ x y (by omega) (by omega) l j)
   .rw[u s (by omega) (by omega)] at l;rw[u t (by omega) (by omega)] at j;exact C _ _ _ _ (by omega) (by omega) (by omega) l j
 .intro t z I J r;by_cases K:t<i
  .rw[A t (by omega)] at r;exact⟨t,I,J,r⟩
  .by_cases B:t=i
   .subst B;rw[F] at r;exact⟨m,by omega,by omega,r⟩
   .rw[u t (by omega) (by omega)] at r;exact⟨t-1,by omega,by omega,r⟩
theorem Dp(X:List Sp.Ed)(a m b:Nat)(h1:a<=m)(h2:m<=b)(j:b<=X.length)(t:Nat):(sL X a m b)[t]?=if a<=t/\t<a+(b-m) then X[t+(m-a)]? else if a+(b-m)<=t/\t<b then X[t-(b-m)]? else X[t]?:=by
 obtain⟨A,U,V,B,rfl,l,r,u⟩:=qV X a m b h1 h2 j;have e:=kq A U V B;rw[show A.length+U.length=m by omega,l,show m+V.length=b by omega] at e;rw[e];by_cases z:t<a
 .rw[cd (by omega),cd (by omega),qa (by omega),qa (by omega)]
 .by_cases C:t<a+(b-m)
  .rw[cg (by omega),cF (by omega),qa (by omega)];rw[cF (by omega),cF (by omega),qa (by omega)]
   congr 1;omega
  .by_cases D:t<b
   .rw[cd (by omega),cg (by omega),cF (by omega),cF (by omega),qa (by omega)];rw[cF (by omega),qa (by omega)]
    congr 1;omega
   .rw[cd (by omega),cd (by omega),cF (by omega),cF (by omega),cF (by omega)];rw[cF (by omega),cF (by omega),cF (by omega)]
    congr 1;omega
theorem NJ(h1:a<=m)(h2:m<=b)(l:b<=X.length)(h:∀s t x y,a<=s->s<m->m<=t->t<b->X[s]?=some x->X[t]?=some y->ou y x): St X (sL X a m b):=by
 obtain⟨A,U,V,B,rfl,r,D,E⟩:=qV X a m b h1 h2 l;have e:=kq A U V B;rw[show A.length+U.length=m by omega,r,show m+V.length=b by omega] at e;rw[e];refine Hp A U V B ?_;intro u hu v z;obtain⟨i,hi,rfl⟩:=List.getElem_of_mem hu;obtain⟨j,C,rfl⟩:=List.getElem_of_mem z;refine h (a+i) (m+j) _ _ (by omega) (by omega) (by omega) (by omega) ?_ ?_
 .rw[cF (by omega),qa (by omega),show a+i-A.length=i by omega];exact cH hi
 .rw[cF (by omega),cF (by omega),qa (by omega),show m+j-A.length-U.length=j by omega];exact cH C
def Cut(X:List Sp.Ed)(p e j c:Nat):Prop:=e<=c/\c<=j/\(∀x y,e<c->X[c-1]?=some x->X[p-(c-1)]?=some y->¬ou y x)/\(∀x y,c<j->X[c]?=some x->X[p-c]?=some y->ou y x)
variable {c:Nat}
theorem Fh{e Q R:Nat}(f:a<m)(p:m<b)(hb:b<=X.length)(W:e=(a+b)/2)(H:Q=if e<m then e+m-b else a)(I:R=if e<m then e else m)(A:Ord X a m)(C:Ord X m b)(D:Cut X (e+m-1) Q R c):a<=c/\c<=m/\m<=e+m-c/\e+m-c<=b/\c<=e/\e<=e+m-c/\St X (sL X c m (e+m-c))/\
  Ord (sL X c m (e+m-c)) a c/\Ord (sL X c m (e+m-c)) c e/\Ord (sL X c m (e+m-c)) e (e+m-c)/\Ord (sL X c m (e+m-c)) (e+m-c) b/\
  (∀s t x y,a<=s->s<e->e<=t->t<b->(sL X c m (e+m-c))[s]?=some x->(sL X c m (e+m-c))[t]?=some y->Sp.iH x y)/\
  Out X (sL X c m (e+m-c)) a b/\OX X (sL X c m (e+m-c)) a b:=by
 obtain⟨h1,h2,o,n⟩:=D;have B:a<=c/\c<=m/\m<=e+m-c/\e+m-c<=b/\c<=e/\e<=e+m-c:=by
  by_cases D:e<m
  .rw[cg D] at H I;omega
  .rw[cd D] at H I;omega
 obtain⟨q,S,T,g,b5,b6⟩:=B;have i:∀s t x y,c<=s->s<m->m<=t->t<e+m-c->X[s]?=some x->X[t]?=some y->ou y x:=by
  intro s t x y r u E K l j;have U:c<R:=by
   by_cases D:e<m
   .rw[cg D] at I;omega
   .rw[cd D] at I;omega
  have L:X[c]?=some X[c]:=cH (by omega);have M:X[e+m-1-c]?=some X[e+m-1-c]:=cH (by omega);have k:=n _ _ U L M;exact lE (nR C E (by omega) (by omega) j M) (lC k (nR A q r u L l))
 have K2:∀s t x y,a<=s->s<c->e+m-c<=t->t<b->X[s]?=some x->X[t]?=some y->Sp.iH x y:=by
  intro s t x y r u E K l j;have V:Q<c:=by
   by_cases D:e<m
   .rw[cg D] at H;omega
   .rw[cd D] at H;omega
  have L:X[c-1]?=some X[c-1]:=cH (by omega);have M:X[e+m-1-(c-1)]?=some X[e+m-1-(c-1)]:=cH (by omega);have k:=jR (o _ _ V L M);exact oW (nR A r (by omega) (by omega) l L) (oW k (nR C (by omega) (by omega) K M j))
 have G:∀t,(sL X c m (e+m-c))[t]?=if c<=t/\t<e then X[t+(m-c)]? else if e<=t/\t<e+m-c then X[t-(e-c)]? else X[t]?:=by
  intro t;rw[Dp X c m (e+m-c) S T (by omega) t,show c+(e+m-c-m)=e by omega,show e+m-c-m=e-c by omega]
 have P:∀t,c<=t->t<e->(sL X c m (e+m-c))[t]?=X[t+(m-c)]?:=λt r u=>by rw[G,cg ⟨r,u⟩]
 have N:∀t,e<=t->t<e+m-c->(sL X c m (e+m-c))[t]?=X[t-(e-c)]?:=λt r u=>by rw[G,cd (by omega),cg ⟨r,u⟩]
 have F:∀t,t<c\/e+m-c<=t->(sL X c m (e+m-c))[t]?=X[t]?:=λt k=>by rw[G,cd (by omega),cd (by omega)]
 refine⟨q,S,T,g,b5,b6,NJ S T (by omega) i,?_,?_,?_,?_,?_,?_,?_⟩
 .intro s t x y r u E l j;rw[F s (by omega)] at l;rw[F t (by omega)] at j;exact A _ _ _ _ r u (by omega) l j
 .intro s t x y r u E l j;rw[P s (by omega) (by omega)] at l;rw[P t (by omega) (by omega)] at j;exact C _ _ _ _ (by omega) (by omega) (by omega) l j
 .intro s t x y r u E l j;rw[N s (by omega) (by omega)] at l;rw[N t (by omega) (by omega)] at j;exact A _ _ _ _ (by omega) (by omega) (by omega) l j
 .intro s t x y r u E l j;rw[F s (by omega)] at l;rw[F t (by omega)] at j;exact C _ _ _ _ (by omega) u E l j
 .intro s t x y r u E K l j;by_cases h:s<c
  .rw[F s (by omega)] at l;by_cases O:t<e+m-c
   .rw[N t E O] at j;exact A _ _ _ _ r (by omega) (by omega) l j
   .rw[F t (by omega)] at j;exact K2 _ _ _ _ r h (by omega) K l j
  .rw[P s (by omega) u] at l;by_cases O:t<e+m-c
   .rw[N t E O] at j;exact mJ (i _ _ _ _ (by omega) (by omega) (by omega) (by omega) j l)
   .rw[F t (by omega)] at j;exact C _ _ _ _ (by omega) (by omega) K l j
 .intro t ht;exact F t (by omega)
 .intro t z r u J;by_cases h:t<c
  .rw[F t (by omega)] at J;exact⟨t,r,u,J⟩
  .by_cases O:t<e
   .rw[P t (by omega) O] at J;exact⟨_,by omega,by omega,J⟩
   .by_cases c3:t<e+m-c
    .rw[N t (by omega) c3] at J;exact⟨_,by omega,by omega,J⟩
    .rw[F t (by omega)] at J;exact⟨t,r,u,J⟩
theorem vO{e:List Sp.Ed}{d:Nat}(h:Out X e a b)(k:Ord X c d)(hd:d<=a\/b<=c): Ord e c d:=by
 intro s t x y r u z j l;rw[h s (by omega)] at j;rw[h t (by omega)] at l;exact k _ _ _ _ r u z j l
theorem xf{R e j:List Sp.Ed}{l:Nat}(h1:a<=l)(h2:l<=b)(F:St X R)(hOut:Out X R a b)(A:OX X R a b)(P:∀s t x y,a<=s->s<l->l<=t->t<b->R[s]?=some x->R[t]?=some y->Sp.iH x y)(Q:JB R e a l)(S:JB e j l b): JB X j a b:=by
 obtain⟨T,U,G,L⟩:=Q;obtain⟨V,W,C,M⟩:=S;refine⟨F.trans (T.trans V),?_,?_,?_⟩
 .intro s t x y D E N r u;by_cases H:t<l
  .rw[C s (by omega)] at r;rw[C t (by omega)] at u;exact U _ _ _ _ D E H r u
  .by_cases k:s<l
   .rw[C s (by omega)] at r;obtain⟨p,I,J,B⟩:=L s x D k r;obtain⟨q,i,h,O⟩:=M t y (by omega) N u;rw[G q (by omega)] at O;exact P _ _ _ _ I J i h B O
   .exact W _ _ _ _ (by omega) E N r u
 .intro t f;rw[C t (by omega),G t (by omega),hOut t f]
 .intro t z D E K;by_cases H:t<l
  .rw[C t (by omega)] at K;obtain⟨s,I,J,B⟩:=L t z D H K;exact A _ _ (by omega) (by omega) B
  .obtain⟨s,I,J,B⟩:=M t z (by omega) E K;rw[G s (by omega)] at B;exact A _ _ (by omega) (by omega) B
theorem AL(h:a>=c\/c>=b)(h1:Ord X a c)(h2:Ord X c b): Ord X a b:=by
 intro s t x y r e u j l;rcases h with h|h
 .exact h2 _ _ _ _ (by omega) e u j l
 .exact h1 _ _ _ _ r e (by omega) j l
end
section
open Go.RowKit
def qS(g cap B N a b:Nat)(X:List Sp.Ed)(w:TJ)(e:Ending)(w':TJ):Prop:=e=.returned (.tuple #[])/\∃j,w'.ownsRow B 162 3 (.slice (some ⟨g,0,none⟩) N cap) N (dh j)/\w.grownBy w' (some g)/\JB X j a b
theorem CQ(g cap B a m b N:Nat)(X:List Sp.Ed)(w:TJ)(hX:X.length=N)(h:w.ownsRow B 162 3 (.slice (some ⟨g,0,none⟩) N cap) N (dh X))(hm:m=a+1)(ah:m<b)(hb:b<=N)(hl:N<=5000)(hO:Hid (Ord X m b)):TL prog 223 #[.slice (some ⟨g,0,none⟩) N cap,Z Y a,Z Y m,Z Y b,.func (.func 106) #[] #[]] w (qS g cap B N a b X w):=by
 have s:=cP hX;have HM:=cP hm;have ai:IntKind.i64.wrap ((m:Int)-(a:Int))=1:=by rw[fp];omega
 have aj:a<m:=by omega
 have ak:(a:Int)<(N:Int):=by omega
 have an:(0:Int)<=(a:Int):=by omega
 clear hX hm;go_enter func223,ntmps223;go_wp2
 go_loopw [10,11] (λu v wr=>∃(i j:Nat),u=Z Y i/\v=Z Y j/\m<=i/\i<=j/\j<=b/\wr.ownsRow B 162 3 (.slice (some ⟨g,0,none⟩) N cap) N (dh X)/\w.grownBy wr (some g)/\Hid (∀t x y,m<=t->t<i->X[a]?=some x->X[t]?=some y->ou y x)/\Hid (∀t x y,j<=t->t<b->X[a]?=some x->X[t]?=some y->¬ou y x)) (λu v _=>(intOf v-intOf u).toNat)
 case atStart=>exact⟨m,b,rfl,rfl,b7 _,by omega,b7 _,h,iv _ _,λt x y O o=>by omega,λt x y O o=>by omega⟩
 case round =>
  obtain⟨i,j,rfl,rfl,P,aa,Q,R,I,L,S⟩:=hrel;by_cases ao:i<j
  .have af:(i:Int)<(j:Int):=by omega
   have aq:i<=(i+j)/2:=by omega
   have ar:(i+j)/2<j:=by omega
   have au:(i+j)/2<N:=by omega
   have av:(((i+j)/2:Nat):Int)<(N:Int):=by omega
   have aw:((i:Int)+(j:Int))/2<(N:Int):=by omega
   have ax:0<=((i:Int)+(j:Int))/2:=by omega
   have ay:(((i:Int)+(j:Int))/2).toNat=(i+j)/2:=by omega
   obtain⟨G,H,⟨c0,c1,c2⟩,⟨d0,d1,d2⟩,_,J⟩:=o7 (cO s) R ((i+j)/2) a (by omega) (by omega);obtain⟨c,hc⟩:∃c,yk G H=c:=⟨_,rfl⟩
   have HC:=cP hc;have M:=cP (uc G H);rw[hc] at M;clear hc;have z:g<wr.heap.size:=cE _ _ c0;by_cases K:c<0
   .go_wp2_with fail
    go_region_held3 (λC=>(C.cell? ⟨g,(i+j)/2*3,none⟩=some (Z Y (G.de:Int))/\C.cell? ⟨g,(i+j)/2*3+1,none⟩=some (Z Y (G.vo:Int))/\C.cell? ⟨g,(i+j)/2*3+2,none⟩=some (Z Y G.n))/\(C.cell? ⟨g,a*3,none⟩=some (Z Y (H.de:Int))/\C.cell? ⟨g,a*3+1,none⟩=some (Z Y (H.vo:Int))/\C.cell? ⟨g,a*3+2,none⟩=some (Z Y H.n)))
     (first|(go_keep;done)|(exact⟨⟨(r.cell (p:=⟨g,_,none⟩) z).trans c0,(r.cell (p:=⟨g,_,none⟩) z).trans c1,(r.cell (p:=⟨g,_,none⟩) z).trans c2⟩,⟨(r.cell (p:=⟨g,_,none⟩) z).trans d0,(r.cell (p:=⟨g,_,none⟩) z).trans d1,(r.cell (p:=⟨g,_,none⟩) z).trans d2⟩⟩))
     (first|(go_at_call 106;refine(gA G H _).mono ?_;rintro e w2 ⟨rfl,r⟩;rw[cO HC]))
    have D:TI wr w2:=TH.drew.trans r;go_wp2;go_roundw
    case rel =>
     refine⟨(i+j)/2+1,j,by go_num,rfl,by omega,by omega,Q,cW R D,dv I (fG D),?_,S⟩;intro t x y O o E T;have U:=(cO M).1 K;rw[(cO J).2] at E;injection E with E;subst E;exact lE (nR (cO hO) O (by omega) (by omega) T (cO J).1) U
    case measure=>simp[intOf];omega
   .go_wp2_with fail
    go_region_held3 (λC=>(C.cell? ⟨g,(i+j)/2*3,none⟩=some (Z Y (G.de:Int))/\C.cell? ⟨g,(i+j)/2*3+1,none⟩=some (Z Y (G.vo:Int))/\C.cell? ⟨g,(i+j)/2*3+2,none⟩=some (Z Y G.n))/\(C.cell? ⟨g,a*3,none⟩=some (Z Y (H.de:Int))/\C.cell? ⟨g,a*3+1,none⟩=some (Z Y (H.vo:Int))/\C.cell? ⟨g,a*3+2,none⟩=some (Z Y H.n)))
     (first|(go_keep;done)|(exact⟨⟨(r.cell (p:=⟨g,_,none⟩) z).trans c0,(r.cell (p:=⟨g,_,none⟩) z).trans c1,(r.cell (p:=⟨g,_,none⟩) z).trans c2⟩,⟨(r.cell (p:=⟨g,_,none⟩) z).trans d0,(r.cell (p:=⟨g,_,none⟩) z).trans d1,(r.cell (p:=⟨g,_,none⟩) z).trans d2⟩⟩))
     (first|(go_at_call 106;refine(gA G H _).mono ?_;rintro e w2 ⟨rfl,r⟩;rw[cO HC]))
    have D:TI wr w2:=TH.drew.trans r;go_wp2;go_roundw
    case rel =>
     refine⟨i,(i+j)/2,rfl,by go_num,P,by omega,by omega,cW R D,dv I (fG D),L,?_⟩;intro t x y O o E T hn;rw[(cO J).2] at E;injection E with E;subst E;exact(Int.not_lt.2 K) ((cO M).2 (lE (nR (cO hO) (by omega) O o (cO J).1 T) hn))
    case measure=>simp[intOf];omega
  .obtain rfl:i=j:=by omega
   clear aa;go_wp2;have az:IntKind.i64.wrap ((i:Int)-1)=((i-1:Nat):Int):=by rw[fp];omega
   go_loopw [13] (λu V=>∃(k:Nat) (l:List Sp.Ed),u=Z Y k/\a<=k/\k<=i-1/\V.ownsRow B 162 3 (.slice (some ⟨g,0,none⟩) N cap) N (dh l)/\w.grownBy V (some g)/\Hid (l.length=N)/\Hid (Dn X l a k)) (λu _=>(i-(intOf u).toNat))
   case atStart=>exact⟨a,X,rfl,b7 _,by omega,R,I,s,Dn.refl _ _⟩
   case round =>
    obtain⟨k,l,rfl,ab,aA,A,F,HY,HD⟩:=hrel;clear R I h;by_cases ag:k<i-1
    .have ad:(k:Int)<((i-1:Nat):Int):=by omega
     have aB:(k:Int)<(N:Int):=by omega
     have aC:(k:Int)+1<(N:Int):=by omega
     have aD:(0:Int)<=(k:Int)+1:=by omega
     have aE:((k:Int)+1).toNat=k+1:=by omega
     have aF:IntKind.i64.wrap ((k:Int)+1)=(k:Int)+1:=by rw[fp];omega
     have f0:=dI A (k*3);have f1:=dI A (k*3+1);have f2:=dI A (k*3+2);have f3:=dI A ((k+1)*3);have f4:=dI A ((k+1)*3+1);have f5:=dI A ((k+1)*3+2);obtain⟨z0,z1,⟨r0,r1,r2⟩,⟨s0,s1,s2⟩,W,aG⟩:=o7 (cO HY) A k (k+1) (by omega) (by omega);have ae:=cP F;clear A F;go_wp2_with fail
     go_region
     go_wp2;go_roundw
     case rel =>
      refine⟨k+1,sw l k (k+1),by go_num,by omega,by omega,(cO W).1,dv (cO ae) (cO W).2,by show _=_;rw[zl];exact cO HY,(cO HD).step ab (by rw[cO s];omega) (λx y E T=>(cO L) (k+1) x y (by have:=cO HM;omega) (by omega) E T)⟩
     case measure=>simp[intOf];omega
    .have ad:¬(k:Int)<((i-1:Nat):Int):=by omega
     have q:k=i-1:=by omega
     go_wp2
     go_end0
     subst q;exact⟨rfl,l,A,F,(cO HD).close (cO HM) P Q (by rw[cO s];exact hb) (cO hO) (cO L) (cO S)⟩
end
end Go.Proofs.YtgkkdpegcieakaaGreatDoor
