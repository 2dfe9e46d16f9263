import Derived.Test.YtgkkdpegcieakaaGreatDoorCw09
set_option linter.all false
set_option maxRecDepth 100000
set_option maxHeartbeats 16000000
namespace Go.Proofs.YtgkkdpegcieakaaGreatDoor
open Go.Proofs.Tryz
open Value renaming int→Z,slice→J,pointer→WV,tuple→WX
open Ending renaming returned→WZ
open Option renaming none→U,some→S
open Bool renaming true→W8,false→W9
open List renaming length→Xg
open IntKind renaming i64→Y
open Go renaming World→WR,Value→WS,Calls→WT
open Go.RowKit
namespace Sp
open Go Go.RowKit
structure Ev where
 value:Int
 yp:Int
 jf:Int
 iI:Int
 step:Int
 id:Int
 deg:Int
 all:Int
 weight:Int
def wG(E:Ev)(x:List UInt8):Int:=if x=[118,97,108,117,101] then E.value
 else if x=[111,108,100] then E.yp
 else if x=[105,110] then E.jf
 else if x=[103,111,116] then E.iI
 else if x=[115,116,101,112] then E.step
 else if x=[105,100] then E.id
 else if x=[100,101,103] then E.deg
 else if x=[97,108,108] then E.all
 else E.weight
def tL(x:List UInt8)(a b:Int):Option Int:=if x=[43] then S (wrap64 (a+b))
 else if x=[45] then S (wrap64 (a-b))
 else if x=[42] then S (wrap64 (a*b))
 else if x=[47] then (if b=0 then U else S (wrap64 (a.tdiv b)))
 else if x=[37] then (if b=0 then U else S (a.tmod b))
 else if x=[60] then S (if a<b then 1 else 0)
 else if x=[61] then S (if a=b then 1 else 0)
 else if x=[109,105,110] then S (min a b)
 else S (max a b)
def ln(E:Ev)(x:List UInt8)(T:List Int):Option (List Int):=match number x with
 |some n=>S (n::T)
 |none =>
  if x∈jI\/x=[119,101,105,103,104,116] then S (wG E x::T)
  else if x∈oD then (match T with | b::a::r=>(tL x a b).map (· :: r) | _=>U)
  else if x=[100,117,112] then (match T with | a::r=>S (a::a::r) | _=>U)
  else if x=[100,114,111,112] then (match T with | _::r=>S r | _=>U)
  else if x=[115,119,97,112] then (match T with | b::a::r=>S (a::b::r) | _=>U)
  else if x=[111,118,101,114] then (match T with | b::a::r=>S (a::b::a::r) | _=>U)
  else if x=[63] then (match T with | c::b::a::r=>S ((if a≠0 then b else c)::r) | _=>U)
  else U
structure Ms where
 at':Nat
 fuel:Nat
 T:List Int
 lp:List (Int × Nat)
def gx(L:List (List UInt8))(E:Ev)(s:Ms):Option Ms:=if s.fuel=0 then U
 else if L.getD s.at' []=[91] then
  (match s.T with
    |[]=>U
    |n::T=>if n<1 then S ⟨(AF (L.drop s.at') s.at' 0).getD 0+1,s.fuel-1,T,s.lp⟩ else S ⟨s.at'+1,s.fuel-1,T,(n,s.at')::s.lp⟩)
 else if L.getD s.at' []=[93] then
  (match s.lp with
    |[]=>U
    | (k,a)::r=>if 1<k then S ⟨a+1,s.fuel-1,s.T,(k-1,a)::r⟩ else S ⟨s.at'+1,s.fuel-1,s.T,r⟩)
 else (ln E (L.getD s.at' []) s.T).map λT=>⟨s.at'+1,s.fuel-1,T,s.lp⟩
def lC(L:List (List UInt8))(E:Ev):Nat->Ms->Option Ms
 |0,_=>U
 |g+1,s=>if (Xg L)<=s.at' then S s else match gx L E s with
  |none=>U
  |some t=>lC L E g t
def ev(L:List (List UInt8))(E:Ev):Option Int:=(lC L E 201 ⟨0,200,[],[]⟩).bind λs=>s.T.head?
theorem qu{L:List (List UInt8)}{E:Ev}{s t:Ms}(h:gx L E s=S t):s.fuel=t.fuel+1:=by
 unfold gx at h;split at h
 .cases h
 .rename_i b;split at h
  .split at h
   .cases h
   .split at h <;> (injection h with h;subst h;simp;omega)
  .split at h
   .split at h
    .cases h
    .split at h <;> (injection h with h;subst h;simp;omega)
   .obtain⟨T,_,h⟩:=WD.1 h;subst h;simp;omega
theorem Jw{L:List (List UInt8)}{E:Ev}:∀(g:Nat) (s:Ms),s.fuel<g->∀b,s.fuel<b->lC L E g s=lC L E b s:=by
 intro g
 induction g with
 |zero=>intro s h;omega
 |succ g e =>
  intro s h b l;cases b with
  |zero=>omega
  |succ b =>
   simp only[lC];split
   .rfl
   .cases j:gx L E s with
    |none=>rfl
    |some t =>
     have:=qu j;exact e t (by omega) b (by omega)
theorem vo:∀(R:List (List UInt8)) (d c:Int),0<=d->0<=c->kh W8 R (d+c+1)=W8->
  ∃b j,R=b++[93]::j/\kh W8 b c=W8/\kh W8 j d=W8/\∀k T,AF (R++T) k (c+1)=S (k+Xg b):=by
 intro R
 induction R with
 |nil =>
  intro d c hd B h;simp only[kh,decide_eq_true_eq] at h;omega
 |cons y r C =>
  intro d c hd B h;obtain⟨F,N,m⟩:=lx h;have P:=AB y;by_cases l:c+1+ds y=0
  .have G:y=[93]:=by
    by_cases z:y=[91]
    .subst z;simp[ds] at l;omega
    .by_cases A:y=[93]
     .exact A
     .rw[nO z A] at l;omega
   have u:c=0:=by omega
   subst G u;refine⟨[],r,O,O,?_,λk T=>?_⟩
   .rw[show d+0+1+ds [93]=d by omega] at m;exact m
   .simp only[UM,AF];rw[T0 l];rfl
  .obtain⟨b,j,e,I,L,M⟩:=C d (c+ds y) hd (by omega) (by rw[show d+(c+ds y)+1=d+c+1+ds y by omega];exact m);refine⟨y::b,j,by rw[e];rfl,D4 F (by omega) I,L,λk T=>?_⟩;simp only[UM,AF];rw[TZ l,show c+1+ds y=c+ds y+1 by omega,M (k+1) T];simp only[Uf]
   congr 1;omega
theorem J2{b:List (List UInt8)}(m:kh W8 b 0=W8){h:Nat}(r:h<=16)(l:List Nat){u:Nat}{j:List Nat}(e:fc b h l=S (u,j)):j=l:=by
 have:=BW b (Xg b) b [] 0 h l WN (by simp) (by omega) m r;rw[this] at e;split at e
 .cases e
 .injection e with e;injection e with _ e;exact e.symm
theorem JO{E:Ev}{x:List UInt8}{T l:List Int}{n m:Nat}(h1:x≠[91])(h2:x≠[93])(ht:tk W8 x=S (n,m))(b:ln E x T=S l):n<=Xg T/\(Xg l)=Xg T-n+m:=by
 unfold tk at ht;unfold ln at b;cases r:number x with
 |some v =>
  rw[r] at ht b;simp at ht b;obtain⟨rfl,rfl⟩:=ht;subst b;simp
 |none =>
  rw[r] at ht b;simp only[Option.isSome_none,Wn,false_or,true_and] at ht;simp only at b;by_cases u:x∈jI\/x=[119,101,105,103,104,116]
  .rw[T0 u] at ht b;injection ht with ht;injection ht with e j;subst e j;injection b with b;subst b;simp
  .rw[TZ u] at ht b;by_cases y:x∈oD
   .rw[T0 y] at ht b;injection ht with ht;injection ht with e j;subst e j;split at b
    .obtain⟨v,_,rfl⟩:=WD.1 b;simp
    .cases b
   .rw[TZ y] at ht b;by_cases z:x=[100,117,112]
    .rw[T0 z] at ht b;injection ht with ht;injection ht with e j;subst e j;split at b
     .injection b with b;subst b;simp
     .cases b
    .rw[TZ z] at ht b;by_cases A:x=[100,114,111,112]
     .rw[T0 A] at ht b;injection ht with ht;injection ht with e j;subst e j;split at b
      .injection b with b;subst b;simp
      .cases b
     .rw[TZ A] at ht b;rw[TZ h1] at ht;by_cases B:x=[115,119,97,112]
      .rw[T0 B] at ht b;injection ht with ht;injection ht with e j;subst e j;split at b
       .injection b with b;subst b;simp
       .cases b
      .rw[TZ B] at ht b;by_cases C:x=[111,118,101,114]
       .rw[T0 C] at ht b;injection ht with ht;injection ht with e j;subst e j;split at b
        .injection b with b;subst b;simp
        .cases b
       .rw[TZ C] at ht b;by_cases F:x=[63]
        .rw[T0 F] at ht b;injection ht with ht;injection ht with e j;subst e j;split at b
         .injection b with b;subst b;simp
         .cases b
        .rw[TZ F] at b;cases b
end Sp
namespace Sp
open Go Go.RowKit
def SS(L:List (List UInt8)):List (Int × Nat)->List Nat->Prop
 |[],ls=>ls=[]
 | (k,a)::r,ls=>1<=k/\a<Xg L/\L.getD a []=[91]/\∃h b,ls=b++[h]/\fc (L.take (a+1)) 0 []=S (h,b++[h])/\SS L r b
structure zn (L:List (List UInt8)) (s:Ms):Prop where
 le:s.at'<=Xg L
 ex:∃h ls,fc (L.take s.at') 0 []=S (h,ls)/\(Xg s.T)=h/\SS L s.lp ls
variable {L:List (List UInt8)}{i:Nat}
theorem yr(hi:i<Xg L): L.take (i+1)=L.take i++[L[i]]:=by
 rw[Vf hi]
theorem IU(x:List UInt8)(h:Nat)(ls:List Nat):fc [x] h ls=dst x h ls:=by
 simp only[fc];cases dst x h ls with
 |none=>rfl
 |some p=>rfl
variable {ls:List Nat}{h:Nat}
theorem Ao(hi:i<Xg L)(e:fc (L.take i) 0 []=S (h,ls)): fc (L.take (i+1)) 0 []=dst L[i] h ls:=by
 rw[yr hi,kR,e];exact IU _ _ _
variable {r:Nat × List Nat}
theorem BA(b:fc L 0 []=S r)(i:Nat): ∃h ls,fc (L.take i) 0 []=S (h,ls):=by
 have e:=kR (L.take i) (L.drop i) 0 [];rw[U7,b] at e;cases j:fc (L.take i) 0 [] with
 |none=>rw[j] at e;cases e
 |some p=>exact⟨p.1,p.2,rfl⟩
theorem uI(A:kh W8 L 0=W8): ∀(i h:Nat) (ls:List Nat),i<=Xg L->fc (L.take i) 0 []=S (h,ls)->kh W8 (L.drop i) (Xg ls)=W8/\h<=16:=by
 intro i
 induction i with
 |zero =>
  intro h ls hi e;simp only[List.take_zero,fc] at e;injection e with e;injection e with e1 e2;subst e1 e2;exact⟨by simpa using A,by omega⟩
 |succ i B =>
  intro h ls hi e;have b:i<Xg L:=by omega
  have l:=e;rw[yr b,kR] at e;cases m:fc (L.take i) 0 [] with
  |none=>rw[m] at e;cases e
  |some p =>
   obtain⟨C,j⟩:=p;obtain⟨y,F⟩:=B C j (by omega) m;rw[Ao b m] at l;rw[UJ b] at y;obtain⟨_,z,G⟩:=lx y;have I:L[i]=[93]->j≠[]:=by
    intro u M;rw[u,M,show ds [93] = -1 by decide] at z;simp at z
   rw[Ew I l];exact⟨G,Lt F l⟩
theorem rK(m:fc L 0 []=S r)(hi:i<Xg L)(e:fc (L.take i) 0 []=S (h,ls)): ∃j b,dst L[i] h ls=S (j,b)/\fc (L.take (i+1)) 0 []=S (j,b):=by
 obtain⟨j,b,l⟩:=BA m (i+1);have:=Ao hi e;rw[l] at this;exact⟨j,b,this.symm,l⟩
theorem mQ(hi:i<Xg L): L.getD i []=L[i]:=by
 rw[Uo,Uk hi];rfl
variable {p:Nat × List Nat}
theorem yP(e:dst [91] h ls=S p): h≠0/\p=(h-1,ls++[h-1]):=by
 unfold dst at e;rw[T0 rfl] at e;split at e
 .cases e
 .rename_i b;injection e with e;exact⟨b,e.symm⟩
theorem DQ{m:Nat}(e:dst [93] h (ls++[m])=S p): h=m/\p=(h,ls):=by
 unfold dst at e;rw[TZ (by decide),T0 rfl] at e;simp only[Wy,Wz,Option.some_or,WA] at e;split at e
 .rename_i b;injection e with e;exact⟨b,e.symm⟩
 .cases e
theorem wF{x:List UInt8}(h1:x≠[91])(h2:x≠[93])(e:dst x h ls=S p): ∃n m,tk W8 x=S (n,m)/\n<=h/\h-n+m<=16/\p=(h-n+m,ls):=by
 unfold dst at e;rw[TZ h1,TZ h2] at e;split at e
 .cases e
 .rename_i n m j;split at e
  .rename_i b;injection e with e;exact⟨n,m,j,b.1,b.2,e.symm⟩
  .cases e
theorem skip(G:kh W8 L 0=W8)(y:fc L 0 []=S r){a:Nat}(ha:a<Xg L)(hb:L[a]=[91])(e:fc (L.take a) 0 []=S (h,ls)):∃n,AF (L.drop a) a 0=S n/\a<n/\n<Xg L/\L.getD n []=[93]/\fc (L.take (n+1)) 0 []=S (h-1,ls)/\h≠0:=by
 obtain⟨g,R,j,I⟩:=rK y ha e;rw[hb] at j;obtain⟨z,j⟩:=yP j;injection j with j T;subst j T;obtain⟨V,f2⟩:=uI G _ _ _ (by omega) I;have f0:=(uI G _ _ _ (by omega) e).2;obtain⟨b,W,A,X,b2,k⟩:=vo (L.drop (a+1)) (Xg ls) 0 (UF _) (by omega) (by
  have:((ls++[h-1]).length:Int)=(Xg ls:Int)+0+1:=by simp
  rw[<-this];exact V)
 have M:Xg b+(Xg W+1)=Xg L-(a+1):=by
  have:=congrArg List.length A;simp only[Vb,UG,Uf] at this;omega
 have l:AF (L.drop a) a 0=S (a+1+Xg b):=by
  rw[UJ ha,hb];simp only[AF,show ds [91]=1 by decide];rw[TZ (by omega)];have:=k (a+1) [];rw[Vr] at this;simpa using this
 have m:a+1+Xg b<Xg L:=by omega
 have N:L[a+1+Xg b]=[93]:=by
  have P:(L.drop (a+1))[Xg b]?=S [93]:=by rw[A];simp
  rw[VG,Uk m] at P;exact Ut P
 have B:L.take (a+1+Xg b)=L.take (a+1)++b:=by
  rw[List.take_add,A];simp
 obtain⟨h2,x,Q⟩:=BA y (a+1+Xg b);have C:=Q;rw[B,kR,I] at C;simp only at C;have F:=J2 X (by omega) _ C;subst F;obtain⟨h3,q,u,f⟩:=rK y m Q;rw[N] at u;obtain⟨t,u⟩:=DQ u;injection u with s o;subst s o t;exact⟨_,l,by omega,m,by rw[mQ m];exact N,f,z⟩
theorem td{E:Ev}(Q:kh W8 L 0=W8)(M:fc L 0 []=S r){s t:Ms}(R:zn L s)(hi:s.at'<Xg L)(h:gx L E s=S t): zn L t:=by
 obtain⟨C,ls,e,j,l⟩:=R.ex;obtain⟨h',V,d,F⟩:=rK M hi e;unfold gx at h;rw[mQ hi] at h;split at h
 .cases h
 .split at h
  .rename_i u;rw[u] at d;obtain⟨W,d⟩:=yP d;injection d with y z;subst y z;split at h
   .cases h
   .rename_i n T G;rw[G] at j;simp only[Uf] at j;split at h
    .obtain⟨m,X,m2,m3,m4,x,m6⟩:=skip Q M hi u e;injection h with h;subst h;rw[X];exact⟨by simp;omega,C-1,ls,x,by simp;omega,l⟩
    .injection h with h;subst h;exact⟨by simp;omega,C-1,ls++[C-1],F,by simp;omega,by omega,hi,by rw[mQ hi];exact u,C-1,ls,O,F,l⟩
  .split at h
   .rename_i b u;rw[u] at d;split at h
    .cases h
    .rename_i k a rr I;rw[I] at l;obtain⟨k1,q,f,h0,o,rfl,N,A⟩:=l;obtain⟨P,d⟩:=DQ d;injection d with y z;subst y z P;split at h
     .injection h with h;subst h;exact⟨by simp;omega,_,_,N,j,by omega,q,f,_,_,O,N,A⟩
     .injection h with h;subst h;exact⟨by simp;omega,_,_,F,j,A⟩
   .rename_i b B;obtain⟨T,g,h⟩:=WD.1 h;subst h;obtain⟨n,m,ht,hn,P,d⟩:=wF b B d;injection d with y z;subst y z;obtain⟨w1,w2⟩:=JO b B ht g;exact⟨by simp;omega,_,_,F,by simp only;rw[w2,j],l⟩
theorem OH(L:List (List UInt8))(f:Nat):zn L ⟨0,f,[],[]⟩:=⟨Ud _,0,[],by simp[fc],O,O⟩
theorem K0(b:fc L 0 []=S (1,[])){s:Ms}(j:zn L s)(hi:Xg L<=s.at'): Xg s.T=1:=by
 obtain⟨l,ls,e,m,u⟩:=j.ex;rw[Vc hi,b] at e;injection e with e;injection e with e1 e2;omega
end Sp
section
structure jr (w:WR) (M:Nat) (code:WS) (at' fuel:Nat) (E:Sp.Ev) (T:List Int) (loops:WS):Prop where
 c0:w.cell? ⟨M,0,U⟩=S code
 c1:w.cell? ⟨M,1,U⟩=S (Z Y at')
 c2:w.cell? ⟨M,2,U⟩=S (Z Y fuel)
 e0:w.cell? ⟨M,3,U⟩=S (Z Y E.value)
 e1:w.cell? ⟨M,4,U⟩=S (Z Y E.jf)
 e2:w.cell? ⟨M,5,U⟩=S (Z Y E.iI)
 e3:w.cell? ⟨M,6,U⟩=S (Z Y E.step)
 e4:w.cell? ⟨M,7,U⟩=S (Z Y E.id)
 e5:w.cell? ⟨M,8,U⟩=S (Z Y E.deg)
 e6:w.cell? ⟨M,9,U⟩=S (Z Y E.all)
 e7:w.cell? ⟨M,10,U⟩=S (Z Y E.yp)
 e8:w.cell? ⟨M,11,U⟩=S (Z Y E.weight)
 st:∀j,j<16->∃n:Int,w.cell? ⟨M,12+j,U⟩=S (Z Y n)
 sv:∀j (hj:j<Xg T),w.cell? ⟨M,12+(Xg T-1-j),U⟩=S (Z Y T[j])
 hh:w.cell? ⟨M,28,U⟩=S (Z Y (Xg T))
 ll:w.cell? ⟨M,29,U⟩=S loops
 dr:w.cell? ⟨M,30,U⟩=S (.bool W9)
 fz:∀j,w.frozen? ⟨M,j,U⟩=W9
 le:Xg T<=16
variable {T:List Int}{fuel M at':Nat}{loops code:WS}{w:WR}
theorem jr.lt{E:Sp.Ev}(hd:jr w M code at' fuel E T loops): M<w.heap.size:=Ui w _ hd.c0
theorem jr.drew{E:Sp.Ev}(h:jr w M code at' fuel E T loops): jr w.drew M code at' fuel E T loops:=⟨h.c0,h.c1,h.c2,h.e0,h.e1,h.e2,h.e3,h.e4,h.e5,h.e6,h.e7,h.e8,h.st,h.sv,h.hh,h.ll,h.dr,h.fz,h.le⟩
theorem jr.drewN{E:Sp.Ev}(h:jr w M code at' fuel E T loops)(n:Nat): jr (w.drewN n) M code at' fuel E T loops:=⟨h.c0,h.c1,h.c2,h.e0,h.e1,h.e2,h.e3,h.e4,h.e5,h.e6,h.e7,h.e8,h.st,h.sv,h.hh,h.ll,h.dr,h.fz,h.le⟩
theorem eB.drewN{w':WR}(h:eB M w w')(n:Nat): eB M w (w'.drewN n):=⟨h.1,h.2,h.os,h.tape,h.output⟩
theorem jr.push{E:Sp.Ev}(h:jr w M code at' fuel E T loops)(u:Xg T<16)(v:Int):jr ((w.setCell ⟨M,12+Xg T,U⟩ (Z Y v)).setCell ⟨M,28,U⟩ (Z Y ((Xg T+1:Nat):Int))) M code at' fuel E (v::T) loops:=by
 have b:∀j,j<12\/28<j->((w.setCell ⟨M,12+Xg T,U⟩ (Z Y v)).setCell ⟨M,28,U⟩ (Z Y ((Xg T+1:Nat):Int))).cell? ⟨M,j,U⟩=w.cell? ⟨M,j,U⟩:=λj m=>by
  rw[cW (by omega),cW (by omega)]
 obtain⟨y,l⟩:=h.st (Xg T) u;refine⟨(b 0 (by omega)).trans h.c0,(b 1 (by omega)).trans h.c1,(b 2 (by omega)).trans h.c2,(b 3 (by omega)).trans h.e0,(b 4 (by omega)).trans h.e1,(b 5 (by omega)).trans h.e2,(b 6 (by omega)).trans h.e3,(b 7 (by omega)).trans h.e4,(b 8 (by omega)).trans h.e5,(b 9 (by omega)).trans h.e6,(b 10 (by omega)).trans h.e7,(b 11 (by omega)).trans h.e8,λj m=>?_,λj m=>?_,?_,(b 29 (by omega)).trans h.ll,(b 30 (by omega)).trans h.dr,λj=>?_,by simp;omega⟩
 .rw[cW (by omega)];by_cases e:Xg T=j
  .subst e;exact⟨v,UN _ _ _ l⟩
  .rw[cW (by omega)];exact h.st j m
 .simp only[Uf] at m;rw[Uf,cW (by omega)];cases j with
  |zero =>
   rw[show (Xg T)+1-1-0=Xg T by omega];exact UN _ _ _ l
  |succ j =>
   rw[show (Xg T)+1-1-(j+1)=Xg T-1-j by omega,cW (by omega)];exact h.sv j (by omega)
 .have r:(w.setCell ⟨M,12+Xg T,U⟩ (Z Y v)).cell? ⟨M,28,U⟩=S (Z Y (Xg T)):=(cW (by omega)).trans h.hh;exact UN _ _ _ r
 .rw[UK,UK];exact h.fz j
theorem jr.pop{E:Sp.Ev}{v:Int}(h:jr w M code at' fuel E (v::T) loops):jr (w.setCell ⟨M,28,U⟩ (Z Y (Xg T:Int))) M code at' fuel E T loops/\w.cell? ⟨M,12+Xg T,U⟩=S (Z Y v):=by
 have b:∀j,j≠28->(w.setCell ⟨M,28,U⟩ (Z Y (Xg T:Int))).cell? ⟨M,j,U⟩=w.cell? ⟨M,j,U⟩:=λj e=>cW (by omega)
 have l:=h.le;simp only[Uf] at l;refine⟨⟨(b 0 (by omega)).trans h.c0,(b 1 (by omega)).trans h.c1,(b 2 (by omega)).trans h.c2,(b 3 (by omega)).trans h.e0,(b 4 (by omega)).trans h.e1,(b 5 (by omega)).trans h.e2,(b 6 (by omega)).trans h.e3,(b 7 (by omega)).trans h.e4,(b 8 (by omega)).trans h.e5,(b 9 (by omega)).trans h.e6,(b 10 (by omega)).trans h.e7,(b 11 (by omega)).trans h.e8,λj e=>?_,λj e=>?_,UN _ _ _ h.hh,(b 29 (by omega)).trans h.ll,(b 30 (by omega)).trans h.dr,λj=>?_,by omega⟩,?_⟩
 .rw[b _ (by omega)];exact h.st j e
 .rw[b _ (by omega)];have:=h.sv (j+1) (by simp;omega);simp only[Uf,List.getElem_cons_succ] at this;rw[show (Xg T)+1-1-(j+1)=Xg T-1-j by omega] at this;exact this
 .rw[UK];exact h.fz j
 .have:=h.sv 0 (by simp);simp only[Uf,List.getElem_cons_zero] at this;rw[show (Xg T)+1-1-0=Xg T by omega] at this;exact this
theorem jX(v:Int)(M at' fuel:Nat)(E:Sp.Ev)(T:List Int)(code loops:WS)(w:WR)(hd:jr w M code at' fuel E T loops)(b:Xg T<16):WT prog 162 #[WV (S ⟨M,0,U⟩),Z Y v] w λe j=>e=WZ (WX #[])/\jr j M code at' fuel E (v::T) loops/\eB M w j:=by
 have m:=hd.hh;obtain⟨x,r⟩:=hd.st (Xg T) b;have u:=hd.fz (12+Xg T);have y:=hd.fz 28;have l:=cT (hd.push b v);generalize (Xg T)=h at *;have z:(((h:Nat):Int) == 16)=W9:=Uh.2 (by omega);have A:(0:Int)<=(h:Int):=UF _;have B:(h:Int)<(16:Int):=by omega
 clear hd;go_enter func162,ntmps162;go_wp2
 go_region
 go_wp2;exact Ub (Ua O _ _ _) O ⟨O,(cS l).drew,(((eB.refl M w).set _ _).set _ _).drew⟩
theorem rU(v:Int)(M at' fuel:Nat)(E:Sp.Ev)(T:List Int)(code loops:WS)(w:WR)(hd:jr w M code at' fuel E (v::T) loops):WT prog 184 #[WV (S ⟨M,0,U⟩)] w λe l=>e=WZ (Z Y v)/\jr l M code at' fuel E T loops/\eB M w l:=by
 have b:=hd.hh;have u:=hd.fz 28;have y:=hd.dr;obtain⟨m,r⟩:=hd.pop;have z:=cT m;have j:=hd.le;simp only[Uf] at b j;clear hd m;generalize (Xg T)=h at *;have B:((((h+1:Nat)):Int) == 0)=W9:=Uh.2 (by omega);have C:((h+1:Nat):Int)-1=(h:Int):=by omega
 have F:(0:Int)<=(h:Int):=UF _;have G:(h:Int)<(16:Int):=by omega
 go_enter func184,ntmps184;go_wp2;have I:(w.setCell ⟨M,28,U⟩ (Z Y (h:Int))).cell? ⟨M,28,U⟩=S (Z Y (h:Int)):=UN _ _ _ b;have L:(w.setCell ⟨M,28,U⟩ (Z Y (h:Int))).cell? ⟨M,12+h,U⟩=S (Z Y v):=(cW (by omega)).trans r;have A:=cT ((eB.refl M w).set 28 (Z Y (h:Int)));generalize w.setCell ⟨M,28,U⟩ (Z Y (h:Int))=W at *;clear b u y r
 go_quiet (fail)
 go_wp2;exact T8 (v := Z Y v) (by simp[results,results184,go_sem]) O ⟨O,(cS z).drewN _,(cS A).drewN _⟩
theorem kE(a b:Int)(M at' fuel:Nat)(E:Sp.Ev)(T:List Int)(code loops:WS)(w:WR)(hd:jr w M code at' fuel E (b::a::T) loops):WT prog 172 #[WV (S ⟨M,0,U⟩)] w λe u=>e=WZ (WX #[Z Y a,Z Y b])/\jr u M code at' fuel E T loops/\eB M w u:=by
 go_enter func172,ntmps172;go_wp2_with fail;refine(rU b M at' fuel E (a::T) code loops w hd).mono ?_;rintro e y ⟨rfl,j,l⟩;go_wp2_with fail;refine(rU a M at' fuel E T code loops y j).mono ?_;rintro e z ⟨rfl,m,r⟩;go_wp2;exact T8 (v := WX #[Z Y a,Z Y b]) (by simp[results,results172,go_sem]) O ⟨O,m,l.trans r⟩
theorem Lv(a b:Int)(M at' fuel:Nat)(E:Sp.Ev)(T:List Int)(code loops:WS)(w:WR)(hd:jr w M code at' fuel E (b::a::T) loops)(hb:¬b=0):WT prog 176 #[WV (S ⟨M,0,U⟩)] w λe m=>e=WZ (WX #[Z Y a,Z Y b])/\jr m M code at' fuel E T loops/\eB M w m:=by
 have r:(b == 0)=W9:=Uh.2 hb;go_enter func176,ntmps176;go_wp2_with fail;refine(kE a b M at' fuel E T code loops w hd).mono ?_;rintro e u ⟨rfl,j,l⟩;go_wp2;exact T8 (v := WX #[Z Y a,Z Y b]) (by simp[results,results176,go_sem]) O ⟨O,j,l⟩
theorem Jf(a:Int)(M at' fuel:Nat)(E:Sp.Ev)(T:List Int)(code loops:WS)(w:WR)(hd:jr w M code at' fuel E (0::a::T) loops)(j:1≠M)(u:TypeId)(p:WS)(he:w.cell? ⟨1,0,U⟩=S (.iface u p)):WT prog 176 #[WV (S ⟨M,0,U⟩)] w λe l=>e=.panicked [{ v := .iface u p,recovered:=false }]/\eB M w l:=by
 go_enter func176,ntmps176;go_wp2_with fail;refine(kE a 0 M at' fuel E T code loops w hd).mono ?_;rintro e y ⟨rfl,m,b⟩;have r:=(b.cell j).trans he;go_wp2;exact⟨O,O,b⟩
theorem OB(q:Bool)(M at' fuel:Nat)(E:Sp.Ev)(T:List Int)(code loops:WS)(w:WR)(hd:jr w M code at' fuel E T loops)(l:Xg T<16):WT prog 179 #[WV (S ⟨M,0,U⟩),.bool q] w λe m=>e=WZ (WX #[])/\jr m M code at' fuel E ((if q=W8 then 1 else 0)::T) loops/\eB M w m:=by
 cases q with
 |true =>
  go_enter func179,ntmps179;go_wp2_with fail;refine(jX 1 M at' fuel E T code loops w hd l).mono ?_;rintro e r ⟨rfl,b,j⟩;go_wp2;exact Ub (Ua O _ _ _) O ⟨O,b,j⟩
 |false =>
  go_enter func179,ntmps179;go_wp2_with fail;refine(jX 0 M at' fuel E T code loops w hd l).mono ?_;rintro e r ⟨rfl,b,j⟩;go_wp2;exact Ub (Ua O _ _ _) O ⟨O,b,j⟩
end
section
def J5(o:Option (List Int))(M m j:Nat)(E:Sp.Ev)(l b:WS)(u:TypeId)(p:WS)(w:WR)(e:Ending)(w':WR):Prop:=eB M w w'/\match o with
  |some T=>e=WZ (WX #[])/\jr w' M l m j E T b
  |none=>e=.panicked [{ v := .iface u p,recovered:=false }]
structure J1 (M:Nat) (u:TypeId) (p:WS) (w:WR):Prop where
 hM:1≠M
 he:w.cell? ⟨1,0,U⟩=S (.iface u p)
def gZ(F:Nat)(x:List UInt8)(n m:Nat):Prop := ∀(M l j:Nat) (b:Sp.Ev) (T:List Int) (code e:WS) (u:TypeId) (p:WS) (w:WR),jr w M code l j b T e->J1 M u p w->n<=Xg T->Xg T-n+m<=16->
 WT prog F #[WV (S ⟨M,0,U⟩)] w (J5 (Sp.ln b x T) M l j b code e u p w)
theorem mh{T:List Int}(h:2<=Xg T):∃b a r,T=b::a::r:=by
 match T,h with
 |b::a::r,_=>exact⟨b,a,r,rfl⟩
theorem En{T:List Int}(h:1<=Xg T):∃a r,T=a::r:=by
 match T,h with
 |a::r,_=>exact⟨a,r,rfl⟩
theorem K3{T:List Int}(h:3<=Xg T):∃c b a r,T=c::b::a::r:=by
 match T,h with
 |c::b::a::r,_=>exact⟨c,b,a,r,rfl⟩
namespace Sp
theorem lQ{E:Ev}{x:List UInt8}{T:List Int}(b:number x=U)(h:x∈jI\/x=[119,101,105,103,104,116]):ln E x T=S (wG E x::T):=by
 unfold ln;rw[b];simp only;rw[T0 h]
theorem jL{E:Ev}{x:List UInt8}{a b:Int}{r:List Int}(e:number x=U)(h1:¬(x∈jI\/x=[119,101,105,103,104,116]))(h:x∈oD):ln E x (b::a::r)=(tL x a b).map (· :: r):=by
 unfold ln;rw[e];simp only;rw[TZ h1,T0 h]
end Sp
theorem RH:gZ 161 [118,97,108,117,101] 0 1:=by
 intro M r l b T m j u p w hd A B C;have F:=hd.e0;rw[Sp.lQ (by decide) (by decide),show Sp.wG b [118,97,108,117,101]=b.value by simp[Sp.wG]];go_enter func161,ntmps161;go_wp2_with fail;refine(jX b.value M r l b T m j w hd (by omega)).mono ?_;rintro e G ⟨rfl,y,z⟩;go_wp2;exact Ub (Ua O _ _ _) O ⟨z,O,y⟩
theorem Sy:gZ 163 [111,108,100] 0 1:=by
 intro M r l b T m j u p w hd A B C;have F:=hd.e7;rw[Sp.lQ (by decide) (by decide),show Sp.wG b [111,108,100]=b.yp by simp[Sp.wG]];go_enter func163,ntmps163;go_wp2_with fail;refine(jX b.yp M r l b T m j w hd (by omega)).mono ?_;rintro e G ⟨rfl,y,z⟩;go_wp2;exact Ub (Ua O _ _ _) O ⟨z,O,y⟩
theorem RZ:gZ 164 [105,110] 0 1:=by
 intro M r l b T m j u p w hd A B C;have F:=hd.e1;rw[Sp.lQ (by decide) (by decide),show Sp.wG b [105,110]=b.jf by simp[Sp.wG]];go_enter func164,ntmps164;go_wp2_with fail;refine(jX b.jf M r l b T m j w hd (by omega)).mono ?_;rintro e G ⟨rfl,y,z⟩;go_wp2;exact Ub (Ua O _ _ _) O ⟨z,O,y⟩
theorem RJ:gZ 165 [103,111,116] 0 1:=by
 intro M r l b T m j u p w hd A B C;have F:=hd.e2;rw[Sp.lQ (by decide) (by decide),show Sp.wG b [103,111,116]=b.iI by simp[Sp.wG]];go_enter func165,ntmps165;go_wp2_with fail;refine(jX b.iI M r l b T m j w hd (by omega)).mono ?_;rintro e G ⟨rfl,y,z⟩;go_wp2;exact Ub (Ua O _ _ _) O ⟨z,O,y⟩
theorem SO:gZ 166 [115,116,101,112] 0 1:=by
 intro M r l b T m j u p w hd A B C;have F:=hd.e3;rw[Sp.lQ (by decide) (by decide),show Sp.wG b [115,116,101,112]=b.step by simp[Sp.wG]];go_enter func166,ntmps166;go_wp2_with fail;refine(jX b.step M r l b T m j w hd (by omega)).mono ?_;rintro e G ⟨rfl,y,z⟩;go_wp2;exact Ub (Ua O _ _ _) O ⟨z,O,y⟩
theorem Sl:gZ 167 [105,100] 0 1:=by
 intro M r l b T m j u p w hd A B C;have F:=hd.e4;rw[Sp.lQ (by decide) (by decide),show Sp.wG b [105,100]=b.id by simp[Sp.wG]];go_enter func167,ntmps167;go_wp2_with fail;refine(jX b.id M r l b T m j w hd (by omega)).mono ?_;rintro e G ⟨rfl,y,z⟩;go_wp2;exact Ub (Ua O _ _ _) O ⟨z,O,y⟩
theorem RG:gZ 168 [100,101,103] 0 1:=by
 intro M r l b T m j u p w hd A B C;have F:=hd.e5;rw[Sp.lQ (by decide) (by decide),show Sp.wG b [100,101,103]=b.deg by simp[Sp.wG]];go_enter func168,ntmps168;go_wp2_with fail;refine(jX b.deg M r l b T m j w hd (by omega)).mono ?_;rintro e G ⟨rfl,y,z⟩;go_wp2;exact Ub (Ua O _ _ _) O ⟨z,O,y⟩
theorem Sj:gZ 169 [97,108,108] 0 1:=by
 intro M r l b T m j u p w hd A B C;have F:=hd.e6;rw[Sp.lQ (by decide) (by decide),show Sp.wG b [97,108,108]=b.all by simp[Sp.wG]];go_enter func169,ntmps169;go_wp2_with fail;refine(jX b.all M r l b T m j w hd (by omega)).mono ?_;rintro e G ⟨rfl,y,z⟩;go_wp2;exact Ub (Ua O _ _ _) O ⟨z,O,y⟩
theorem RC:gZ 170 [119,101,105,103,104,116] 0 1:=by
 intro M r l b T m j u p w hd A B C;have F:=hd.e8;rw[Sp.lQ (by decide) (by decide),show Sp.wG b [119,101,105,103,104,116]=b.weight by simp[Sp.wG]];go_enter func170,ntmps170;go_wp2_with fail;refine(jX b.weight M r l b T m j w hd (by omega)).mono ?_;rintro e G ⟨rfl,y,z⟩;go_wp2;exact Ub (Ua O _ _ _) O ⟨z,O,y⟩
theorem Q0:gZ 171 [43] 2 1:=by
 intro M z m j T y l u p w hd N G I;obtain⟨b,a,r,rfl⟩:=mh G;simp only[Uf] at I;rw[Sp.jL (by decide) (by decide) (by decide),show Sp.tL [43] a b=S (wrap64 (a+b)) by simp[Sp.tL]];go_enter func171,ntmps171;go_wp2_with fail;refine(kE a b M z m j r y l w hd).mono ?_;rintro e L ⟨rfl,A,B⟩;go_wp2_with fail;refine(jX (wrap64 (a+b)) M z m j r y l L A (by omega)).mono ?_;rintro e P ⟨rfl,C,F⟩;go_wp2;exact Ub (Ua O _ _ _) O ⟨B.trans F,O,C⟩
theorem QX:gZ 173 [45] 2 1:=by
 intro M z m j T y l u p w hd N G I;obtain⟨b,a,r,rfl⟩:=mh G;simp only[Uf] at I;rw[Sp.jL (by decide) (by decide) (by decide),show Sp.tL [45] a b=S (wrap64 (a-b)) by simp[Sp.tL]];go_enter func173,ntmps173;go_wp2_with fail;refine(kE a b M z m j r y l w hd).mono ?_;rintro e L ⟨rfl,A,B⟩;go_wp2_with fail;refine(jX (wrap64 (a-b)) M z m j r y l L A (by omega)).mono ?_;rintro e P ⟨rfl,C,F⟩;go_wp2;exact Ub (Ua O _ _ _) O ⟨B.trans F,O,C⟩
theorem PL:gZ 174 [42] 2 1:=by
 intro M z m j T y l u p w hd N G I;obtain⟨b,a,r,rfl⟩:=mh G;simp only[Uf] at I;rw[Sp.jL (by decide) (by decide) (by decide),show Sp.tL [42] a b=S (wrap64 (a*b)) by simp[Sp.tL]];go_enter func174,ntmps174;go_wp2_with fail;refine(kE a b M z m j r y l w hd).mono ?_;rintro e L ⟨rfl,A,B⟩;go_wp2_with fail;refine(jX (wrap64 (a*b)) M z m j r y l L A (by omega)).mono ?_;rintro e P ⟨rfl,C,F⟩;go_wp2;exact Ub (Ua O _ _ _) O ⟨B.trans F,O,C⟩
end
section
theorem Px:gZ 175 [47] 2 1:=by
 intro M z m j T y l u p w hd I N P;obtain⟨b,a,r,rfl⟩:=mh N;simp only[Uf] at P;rw[Sp.jL (by decide) (by decide) (by decide)];by_cases B:b=0
 .subst B;rw[show Sp.tL [47] a 0=U by simp[Sp.tL]];go_enter func175,ntmps175;go_wp2_with fail;refine(Jf a M z m j r y l w hd I.hM u p I.he).mono ?_;rintro e L ⟨rfl,A⟩;go_wp2;exact⟨O,A,O⟩
 .rw[show Sp.tL [47] a b=S (wrap64 (a.tdiv b)) by simp[Sp.tL,B]];go_enter func175,ntmps175;go_wp2_with fail;refine(Lv a b M z m j r y l w hd B).mono ?_;rintro e L ⟨rfl,C,A⟩;go_wp2_with fail;refine(jX (wrap64 (a.tdiv b)) M z m j r y l L C (by omega)).mono ?_;rintro e Q ⟨rfl,F,G⟩;go_wp2;exact Ub (Ua O _ _ _) O ⟨A.trans G,O,F⟩
theorem P5:gZ 177 [37] 2 1:=by
 intro M z m j T y l u p w hd I N P;obtain⟨b,a,r,rfl⟩:=mh N;simp only[Uf] at P;rw[Sp.jL (by decide) (by decide) (by decide)];by_cases B:b=0
 .subst B;rw[show Sp.tL [37] a 0=U by simp[Sp.tL]];go_enter func177,ntmps177;go_wp2_with fail;refine(Jf a M z m j r y l w hd I.hM u p I.he).mono ?_;rintro e L ⟨rfl,A⟩;go_wp2;exact⟨O,A,O⟩
 .rw[show Sp.tL [37] a b=S (a.tmod b) by simp[Sp.tL,B]];go_enter func177,ntmps177;go_wp2_with fail;refine(Lv a b M z m j r y l w hd B).mono ?_;rintro e L ⟨rfl,C,A⟩;go_wp2_with fail;refine(jX (a.tmod b) M z m j r y l L C (by omega)).mono ?_;rintro e Q ⟨rfl,F,G⟩;go_wp2;exact Ub (Ua O _ _ _) O ⟨A.trans G,O,F⟩
theorem QC:gZ 178 [60] 2 1:=by
 intro M z m j T y l u p w hd P I L;obtain⟨b,a,r,rfl⟩:=mh I;simp only[Uf] at L;rw[Sp.jL (by decide) (by decide) (by decide),show Sp.tL [60] a b=S (if (decide (a<b))=W8 then 1 else 0) by simp[Sp.tL]];generalize B:(if (decide (a<b))=W8 then (1:Int) else 0)=v;replace B:=cT B;go_enter func178,ntmps178;go_wp2_with fail;refine(kE a b M z m j r y l w hd).mono ?_;rintro e N ⟨rfl,C,F⟩;go_wp2_with fail;refine(OB (decide (a<b)) M z m j r y l N C (by omega)).mono ?_;rintro e Q ⟨rfl,A,G⟩;rw[cS B] at A;go_wp2;exact Ub (Ua O _ _ _) O ⟨F.trans G,O,A⟩
theorem Qc:gZ 180 [61] 2 1:=by
 intro M z m j T y l u p w hd P I L;obtain⟨b,a,r,rfl⟩:=mh I;simp only[Uf] at L;rw[Sp.jL (by decide) (by decide) (by decide),show Sp.tL [61] a b=S (if (a == b)=W8 then 1 else 0) by simp[Sp.tL]];generalize B:(if (a == b)=W8 then (1:Int) else 0)=v;replace B:=cT B;go_enter func180,ntmps180;go_wp2_with fail;refine(kE a b M z m j r y l w hd).mono ?_;rintro e N ⟨rfl,C,F⟩;go_wp2_with fail;refine(OB (a == b) M z m j r y l N C (by omega)).mono ?_;rintro e Q ⟨rfl,A,G⟩;rw[cS B] at A;go_wp2;exact Ub (Ua O _ _ _) O ⟨F.trans G,O,A⟩
theorem Qs:gZ 181 [109,105,110] 2 1:=by
 intro M z m j T y l u p w hd N G I;obtain⟨b,a,r,rfl⟩:=mh G;simp only[Uf] at I;rw[Sp.jL (by decide) (by decide) (by decide),show Sp.tL [109,105,110] a b=S (min a b) by simp[Sp.tL]];go_enter func181,ntmps181;go_wp2_with fail;refine(kE a b M z m j r y l w hd).mono ?_;rintro e L ⟨rfl,A,B⟩;go_wp2_with fail;refine(jX (min a b) M z m j r y l L A (by omega)).mono ?_;rintro e P ⟨rfl,C,F⟩;go_wp2;exact Ub (Ua O _ _ _) O ⟨B.trans F,O,C⟩
theorem PD:gZ 182 [109,97,120] 2 1:=by
 intro M z m j T y l u p w hd N G I;obtain⟨b,a,r,rfl⟩:=mh G;simp only[Uf] at I;rw[Sp.jL (by decide) (by decide) (by decide),show Sp.tL [109,97,120] a b=S (max a b) by simp[Sp.tL]];go_enter func182,ntmps182;go_wp2_with fail;refine(kE a b M z m j r y l w hd).mono ?_;rintro e L ⟨rfl,A,B⟩;go_wp2_with fail;refine(jX (max a b) M z m j r y l L A (by omega)).mono ?_;rintro e P ⟨rfl,C,F⟩;go_wp2;exact Ub (Ua O _ _ _) O ⟨B.trans F,O,C⟩
theorem QO:gZ 183 [100,117,112] 1 2:=by
 intro M y l b T m j u p w hd Q I L;obtain⟨a,r,rfl⟩:=En I;simp only[Uf] at L;rw[show Sp.ln b [100,117,112] (a::r)=S (a::a::r) by unfold Sp.ln;rw[show Sp.number [100,117,112]=U by decide];simp[Sp.jI,Sp.oD]];go_enter func183,ntmps183;go_wp2_with fail;refine(rU a M y l b r m j w hd).mono ?_;rintro e N ⟨rfl,z,A⟩;go_wp2_with fail;refine(jX a M y l b r m j N z (by omega)).mono ?_;rintro e P ⟨rfl,B,C⟩;go_wp2_with fail;refine(jX a M y l b (a::r) m j P B (by simp;omega)).mono ?_;rintro e w3 ⟨rfl,F,G⟩;go_wp2;exact Ub (Ua O _ _ _) O ⟨(A.trans C).trans G,O,F⟩
theorem QK:gZ 185 [100,114,111,112] 1 0:=by
 intro M y l b T m j u p w hd F B C;obtain⟨a,r,rfl⟩:=En B;simp only[Uf] at C;rw[show Sp.ln b [100,114,111,112] (a::r)=S (r) by unfold Sp.ln;rw[show Sp.number [100,114,111,112]=U by decide];simp[Sp.jI,Sp.oD]];go_enter func185,ntmps185;go_wp2_with fail;refine(rU a M y l b r m j w hd).mono ?_;rintro e G ⟨rfl,z,A⟩;go_wp2;exact Ub (Ua O _ _ _) O ⟨A,O,z⟩
theorem P9:gZ 186 [115,119,97,112] 2 2:=by
 intro M z m j T y l u p w hd R L N;obtain⟨b,a,r,rfl⟩:=mh L;simp only[Uf] at N;rw[show Sp.ln j [115,119,97,112] (b::a::r)=S (a::b::r) by unfold Sp.ln;rw[show Sp.number [115,119,97,112]=U by decide];simp[Sp.jI,Sp.oD]];go_enter func186,ntmps186;go_wp2_with fail;refine(kE a b M z m j r y l w hd).mono ?_;rintro e P ⟨rfl,A,B⟩;go_wp2_with fail;refine(jX b M z m j r y l P A (by omega)).mono ?_;rintro e Q ⟨rfl,C,F⟩;go_wp2_with fail;refine(jX a M z m j (b::r) y l Q C (by simp;omega)).mono ?_;rintro e w3 ⟨rfl,G,I⟩;go_wp2;exact Ub (Ua O _ _ _) O ⟨(B.trans F).trans I,O,G⟩
theorem QD:gZ 187 [111,118,101,114] 2 3:=by
 intro M z m j T y l u p w hd W P Q;obtain⟨b,a,r,rfl⟩:=mh P;simp only[Uf] at Q;rw[show Sp.ln j [111,118,101,114] (b::a::r)=S (a::b::a::r) by unfold Sp.ln;rw[show Sp.number [111,118,101,114]=U by decide];simp[Sp.jI,Sp.oD]];go_enter func187,ntmps187;go_wp2_with fail;refine(kE a b M z m j r y l w hd).mono ?_;rintro e R ⟨rfl,A,B⟩;go_wp2_with fail;refine(jX a M z m j r y l R A (by omega)).mono ?_;rintro e V ⟨rfl,C,F⟩;go_wp2_with fail;refine(jX b M z m j (a::r) y l V C (by simp;omega)).mono ?_;rintro e w3 ⟨rfl,G,I⟩;go_wp2_with fail;refine(jX a M z m j (b::a::r) y l w3 G (by simp;omega)).mono ?_;rintro e X ⟨rfl,L,N⟩;go_wp2;exact Ub (Ua O _ _ _) O ⟨((B.trans F).trans I).trans N,O,L⟩
end
section
theorem NW(a b c v:Int)(M u l:Nat)(E:Sp.Ev)(r:List Int)(m j:WS)(w:WR)(hd:jr w M m u l E (c::b::a::r) j)(R:Hid ((if a≠0 then b else c)=v)):WT prog 189 #[WV (S ⟨M,0,U⟩)] w λe T=>e=WZ (WX #[])/\jr T M m u l E (v::r) j/\eB M w T:=by
 have L:=hd.le;simp only[Uf] at L;by_cases I:a=0
 .have N:(a != 0)=W9:=by simp[I]
  have y:c=v:=by rw[<-cS R,TZ (by simp[I])]
  subst y;go_enter func189,ntmps189;go_wp2_with fail;refine(kE b c M u l E (a::r) m j w hd).mono ?_;rintro e P ⟨rfl,z,A⟩;go_wp2_with fail;refine(rU a M u l E r m j P z).mono ?_;rintro e Q ⟨rfl,B,C⟩;go_wp2_with fail;refine(jX c M u l E r m j Q B (by omega)).mono ?_;rintro e w3 ⟨rfl,F,G⟩;go_wp2;exact Ub (Ua O _ _ _) O ⟨O,F,(A.trans C).trans G⟩
 .have N:(a != 0)=W8:=by simp[I]
  have y:b=v:=by rw[<-cS R,T0 I]
  subst y;go_enter func189,ntmps189;go_wp2_with fail;refine(kE b c M u l E (a::r) m j w hd).mono ?_;rintro e P ⟨rfl,z,A⟩;go_wp2_with fail;refine(rU a M u l E r m j P z).mono ?_;rintro e Q ⟨rfl,B,C⟩;go_wp2_with fail;refine(jX b M u l E r m j Q B (by omega)).mono ?_;rintro e w3 ⟨rfl,F,G⟩;go_wp2;exact Ub (Ua O _ _ _) O ⟨O,F,(A.trans C).trans G⟩
theorem Qn:gZ 188 [63] 3 1:=by
 intro M z m j T y l u p w hd G F I;obtain⟨c,b,a,r,rfl⟩:=K3 F;rw[show Sp.ln j [63] (c::b::a::r)=S ((if a≠0 then b else c)::r) by unfold Sp.ln;rw[show Sp.number [63]=U by decide];simp[Sp.jI,Sp.oD]];generalize A:(if a≠0 then b else c)=v;replace A:=cT A;go_enter func188,ntmps188;go_wp2_with fail;refine(NW a b c v M z m j r y l w hd A).mono ?_;rintro e L ⟨rfl,B,C⟩;go_wp2;exact Ub (Ua O _ _ _) O ⟨C,O,B⟩
theorem Mu{x:List UInt8}{n:Int}(z:Sp.number x=S n)(B M m j:Nat)(E:Sp.Ev)(T:List Int)(l b:WS)(u:TypeId)(p:WS)(w:WR)(hd:jr w M l m j E T b)(A:Xg T<16)(C:w.cell? ⟨B,0,U⟩=S (Z Y n)):WT prog 242 #[WV (S ⟨M,0,U⟩),WV (S ⟨B,0,U⟩)] w (J5 (Sp.ln E x T) M m j E l b u p w):=by
 rw[show Sp.ln E x T=S (n::T) by unfold Sp.ln;rw[z]];go_enter func242,ntmps242;go_wp2_with fail;refine(jX n M m j E T l b w hd A).mono ?_;rintro e F ⟨rfl,r,y⟩;go_wp2;exact Ub (Ua O _ _ _) O ⟨y,O,r⟩
theorem SG:(k:Nat)->k<23->gZ (Rw[k]!) (Sp.yC[k]!) (Sp.S6[k]!).1 (Sp.S6[k]!).2
 |0,_=>RH
 |1,_=>Sy
 |2,_=>RZ
 |3,_=>RJ
 |4,_=>SO
 |5,_=>Sl
 |6,_=>RG
 |7,_=>Sj
 |8,_=>RC
 |9,_=>Q0
 |10,_=>QX
 |11,_=>PL
 |12,_=>Px
 |13,_=>P5
 |14,_=>QC
 |15,_=>Qc
 |16,_=>Qs
 |17,_=>PD
 |18,_=>QO
 |19,_=>QK
 |20,_=>P9
 |21,_=>QD
 |22,_=>Qn
 |n+23,h=>absurd h (by omega)
end
section
variable {T:List Int}{fuel M at':Nat}{loops code:WS}{w:WR}
theorem jr.far{w':WR}{E:Sp.Ev}(h:jr w M code at' fuel E T loops)(b:∀j,w'.cell? ⟨M,j,U⟩=w.cell? ⟨M,j,U⟩)(l:∀j,w'.frozen? ⟨M,j,U⟩=w.frozen? ⟨M,j,U⟩): jr w' M code at' fuel E T loops:=⟨(b _).trans h.c0,(b _).trans h.c1,(b _).trans h.c2,(b _).trans h.e0,(b _).trans h.e1,(b _).trans h.e2,(b _).trans h.e3,(b _).trans h.e4,(b _).trans h.e5,(b _).trans h.e6,(b _).trans h.e7,(b _).trans h.e8,λj e=>by rw[b];exact h.st j e,λj e=>by rw[b];exact h.sv j e,(b _).trans h.hh,(b _).trans h.ll,(b _).trans h.dr,λj=>(l j).trans (h.fz j),h.le⟩
theorem jr.alloc{E:Sp.Ev}(hd:jr w M code at' fuel E T loops)(o:Obj): jr (w.alloc o) M code at' fuel E T loops:=hd.far (λj=>((T4 w.heap.size w).alloc WN o).cell (p:=⟨M,j,U⟩) hd.lt) (λj=>((T4 w.heap.size w).alloc WN o).frozen (p:=⟨M,j,U⟩) hd.lt)
theorem jr.grown{w':WR}{E:Sp.Ev}{b:Option Nat}(hd:jr w M code at' fuel E T loops)(l:w.grownBy w' b)(e:S M≠b): jr w' M code at' fuel E T loops:=hd.far (λj=>l.cell_far ⟨M,j,U⟩ hd.lt e) (λj=>l.frozen_far ⟨M,j,U⟩ hd.lt e)
theorem jr.RR{E:Sp.Ev}(h:jr w M code at' fuel E T loops)(l:WS): jr (w.setCell ⟨M,29,U⟩ l) M code at' fuel E T l:=by
 have b:∀j,j≠29->(w.setCell ⟨M,29,U⟩ l).cell? ⟨M,j,U⟩=w.cell? ⟨M,j,U⟩:=λj e=>cW (by omega)
 have m:=h.le;exact⟨(b _ (by omega)).trans h.c0,(b _ (by omega)).trans h.c1,(b _ (by omega)).trans h.c2,(b _ (by omega)).trans h.e0,(b _ (by omega)).trans h.e1,(b _ (by omega)).trans h.e2,(b _ (by omega)).trans h.e3,(b _ (by omega)).trans h.e4,(b _ (by omega)).trans h.e5,(b _ (by omega)).trans h.e6,(b _ (by omega)).trans h.e7,(b _ (by omega)).trans h.e8,λj e=>by rw[b _ (by omega)];exact h.st j e,λj e=>by rw[b _ (by omega)];exact h.sv j e,(b _ (by omega)).trans h.hh,UN _ _ _ h.ll,(b _ (by omega)).trans h.dr,λj=>by rw[UK];exact h.fz j,h.le⟩
theorem jr.Mo{E:Sp.Ev}(h:jr w M code at' fuel E T loops)(a:Nat): jr (w.setCell ⟨M,1,U⟩ (Z Y a)) M code a fuel E T loops:=by
 have b:∀j,j≠1->(w.setCell ⟨M,1,U⟩ (Z Y a)).cell? ⟨M,j,U⟩=w.cell? ⟨M,j,U⟩:=λj e=>cW (by omega)
 have l:=h.le;exact⟨(b _ (by omega)).trans h.c0,UN _ _ _ h.c1,(b _ (by omega)).trans h.c2,(b _ (by omega)).trans h.e0,(b _ (by omega)).trans h.e1,(b _ (by omega)).trans h.e2,(b _ (by omega)).trans h.e3,(b _ (by omega)).trans h.e4,(b _ (by omega)).trans h.e5,(b _ (by omega)).trans h.e6,(b _ (by omega)).trans h.e7,(b _ (by omega)).trans h.e8,λj e=>by rw[b _ (by omega)];exact h.st j e,λj e=>by rw[b _ (by omega)];exact h.sv j e,(b _ (by omega)).trans h.hh,(b _ (by omega)).trans h.ll,(b _ (by omega)).trans h.dr,λj=>by rw[UK];exact h.fz j,h.le⟩
theorem jr.Qg{E:Sp.Ev}(h:jr w M code at' fuel E T loops)(a:Nat): jr (w.setCell ⟨M,2,U⟩ (Z Y a)) M code at' a E T loops:=by
 have b:∀j,j≠2->(w.setCell ⟨M,2,U⟩ (Z Y a)).cell? ⟨M,j,U⟩=w.cell? ⟨M,j,U⟩:=λj e=>cW (by omega)
 have l:=h.le;exact⟨(b _ (by omega)).trans h.c0,(b _ (by omega)).trans h.c1,UN _ _ _ h.c2,(b _ (by omega)).trans h.e0,(b _ (by omega)).trans h.e1,(b _ (by omega)).trans h.e2,(b _ (by omega)).trans h.e3,(b _ (by omega)).trans h.e4,(b _ (by omega)).trans h.e5,(b _ (by omega)).trans h.e6,(b _ (by omega)).trans h.e7,(b _ (by omega)).trans h.e8,λj e=>by rw[b _ (by omega)];exact h.st j e,λj e=>by rw[b _ (by omega)];exact h.sv j e,(b _ (by omega)).trans h.hh,(b _ (by omega)).trans h.ll,(b _ (by omega)).trans h.dr,λj=>by rw[UK];exact h.fz j,h.le⟩
def pV:List (Int × Nat)->List WS
 |[]=>[]
 | (k,h)::r=>Z Y k::Z Y h::pV r
theorem Gx(b:List (Int × Nat)):(pV b).length=Xg b*2:=by
 induction b with
 |nil=>rfl
 |cons h r e=>simp only[pV,Uf,e];omega
theorem sR(a b:List (Int × Nat)):pV (a++b)=pV a++pV b:=by
 induction a with
 |nil=>rfl
 |cons h r e=>simp[pV,e]
theorem Mq(v:Int)(M at' fuel n:Nat)(E:Sp.Ev)(T:List Int)(code x:WS)(y:List WS)(w:WR)(hd:jr w M code at' fuel E (v::T) x)(g:¬v<1)(hn:n<=10000)(R:w.ownsRow (M+1) 313 2 x n y):WT prog 191 #[WV (S ⟨M,0,U⟩)] w λe z=>e=WZ (WX #[])/\∃P,jr z M code at' fuel E T P/\z.ownsRow (M+1) 313 2 P (n+1) (y++[Z Y v,Z Y (Xg T)])/\Below M w z:=by
 obtain⟨V,A,B,C,F⟩:=UB info_loop;have W:(1:Int)<=v:=by omega
 go_enter func191,ntmps191;go_wp2_with fail;refine(rU v M at' fuel E T code x w hd).mono ?_;rintro e r ⟨rfl,j,u⟩;have G:r.ownsRow (M+1) 313 2 x n y:=u.own R;have I:=j.lt;have e1:=j.hh;have e2:=j.ll;have e3:=j.fz 29;have l:S M≠x.ownBlock:=λe=>by have:=(G.lt M e.symm).1;omega
 go_wp2_with fail
 go_region_law ((refine step_append_lies _ (by rfl) _ _ _ (by rfl) (M+1) 313 V _ 2 16 underlying221 A B C F O (by omega) x _ _ (by rfl) ((G.alloc _).drew) ⟨r.heap.size,0,U⟩ 1 1 [Z Y v,Z Y (Xg T:Int)] (by rfl) (by rfl) (We (cs := #[Z Y v,Z Y (Xg T:Int)]) (t:=313) (fr:=(0,0)) (T9 r _)) (by simp[Value.oneCell']) (by omega) (by unfold maxLen;omega) (by omega) (by simp;omega) (r.heap.size+1) (by simp) ?_;intro X q L m b s Q;have p:L.cell? ⟨M,29,U⟩=S x:=(b.cell_far ⟨M,29,U⟩ (by simp;omega) l).trans ((j.alloc _).drew).ll;have o:L.frozen? ⟨M,29,U⟩=W9:=(b.frozen_far ⟨M,29,U⟩ (by simp;omega) l).trans (((j.alloc _).drew).fz 29)))
 all_goals
  have N:=o9 (((T4 M r).alloc (UT I) _).drew) ((j.alloc _).drew).lt ((G.alloc _).drew) b 29 (J (S ⟨X,0,U⟩) (n+1) q);exact Ub (Ua O _ _ _) O ⟨O,_,(((j.alloc _).drew).grown b l).RR _,((eB.refl M L).set _ _).own m,u.below.trans N⟩
theorem MG(v:Int)(M at' fuel g N cap m:Nat)(E:Sp.Ev)(T:List Int)(x:WS)(w:WR)(hd:jr w M (J (S ⟨g,0,U⟩) N cap) at' fuel E (v::T) x)(C:v<1)(z:at'<N)(A:g≠M)(l:w.cell? ⟨g,at'*2+1,U⟩=S (Z Y m)):WT prog 191 #[WV (S ⟨M,0,U⟩)] w λe u=>e=WZ (WX #[])/\jr u M (J (S ⟨g,0,U⟩) N cap) m fuel E T x/\eB M w u:=by
 go_enter func191,ntmps191;go_wp2_with fail;refine(rU v M at' fuel E T _ x w hd).mono ?_;rintro e y ⟨rfl,b,r⟩;have F:=b.c0;have G:=b.c1;have I:=b.fz 1;have B:=(r.cell (j:=at'*2+1) A).trans l;have L:(0:Int)<=(at':Int):=UF _;have P:(at':Int)<(N:Int):=by omega
 go_wp2_with fail
 go_region
 all_goals
  go_wp2
  first
  |exact T8 (Ua rfl _ _ _) rfl ⟨rfl,(b.Mo m).drew,(r.trans ((eB.refl M y).set _ _)).drew⟩
  |exact Ub (Ua rfl _ _ _) rfl ⟨rfl,(b.Mo m).drew,(r.trans ((eB.refl M y).set _ _)).drew⟩
end
section
theorem Rq(k:Int)(M l b n g cap:Nat)(E:Sp.Ev)(T:List Int)(j:WS)(B:List WS)(w:WR)(hd:jr w M j l b E T (J (S ⟨g,0,U⟩) (n+1) cap))(hn:n<=10000)(m:w.ownsRow (M+1) 313 2 (J (S ⟨g,0,U⟩) (n+1) cap) (n+1) (B++[Z Y k,Z Y (Xg T)]))(P:Xg B=n*2)(W:k=1):WT prog 193 #[WV (S ⟨M,0,U⟩)] w λe u=>e=WZ (WX #[])/\jr u M j l b E T (J (S ⟨g,0,U⟩) n cap)/\u.ownsRow (M+1) 313 2 (J (S ⟨g,0,U⟩) n cap) n B/\Below M w u:=by
 subst W;obtain⟨h,Q⟩:∃h,Xg T=h:=⟨_,rfl⟩
 have q0:w.cell? ⟨g,n*2,U⟩=S (Z Y 1):=(m.cellAt (n*2) (by omega)).trans (by rw[Ul (by omega),P];simp);have X:w.cell? ⟨g,n*2+1,U⟩=S (Z Y (Xg T)):=(m.cellAt (n*2+1) (by omega)).trans (by rw[Ul (by omega),P];simp);have q2:=m.frozenAt (n*2);have C:M<g:=(m.lt g O).1;have q:M≠g:=by omega
 have t:g≠M:=by omega
 have R:n+1<=cap:=by
  rcases m.2 with ⟨s,_⟩|⟨g',V,o,hv,hB,hg,r⟩
  .cases s
  .cases hv;exact r.1
 have aa:(n:Int)<=(cap:Int):=by omega
 have ab:n<=cap:=by omega
 have e1:=hd.hh;have e2:=hd.ll;have e3:=hd.fz 29;have g0:((n+1:Nat):Int)-1=(n:Int):=by omega
 have g1:(0:Int)<=(n:Int):=UF _;have g2:(n:Int)<((n+1:Nat):Int):=by omega
 have F:Hid (∀k,(λu=>jr u M j l b E T (J (S ⟨g,0,U⟩) n cap)/\u.ownsRow (M+1) 313 2 (J (S ⟨g,0,U⟩) n cap) n B/\Below M w u) ((((w.drewN k).setCell ⟨g,n*2,U⟩ (Z Y 0)).setCell ⟨M,29,U⟩ (J (S ⟨g,0,U⟩) n cap)).drew)):=by
  intro k;have y:=below_drewN w k;have G:=hd.drewN k;have I:=dd m y;have z:=I.stored (n*2) (Z Y 0);have L:=G.grown z.2 (by simp[Value.ownBlock];omega);have A:=zS z.1;rw[WI _ _ (by omega),List.take_left' (by omega)] at A;have N:=((y.mono (UT hd.lt)).setCell (p:=⟨g,n*2,U⟩) (UT C) (Z Y 0)).setCell (p:=⟨M,29,U⟩) WN (J (S ⟨g,0,U⟩) n cap);exact⟨(L.RR _).drew,(((eB.refl M _).set _ _).own A).drew,N.drew⟩
 rw[Q] at X e1;have g3:(((h:Nat):Int) != ((h:Nat):Int))=W9:=by simp
 clear Q hd m;go_enter func193,ntmps193;go_wp2_with fail
 go_quiet (fail)
 go_wp2_with fail
 go_quiet (fail)
 go_wp2
 go_region
 generalize nq=n2 at *;exact Ub (Ua O _ _ _) O ⟨O,(cS F _).1,(cS F _).2.1,(cS F _).2.2⟩
theorem RU(k:Int)(M b l n g cap y N I m:Nat)(E:Sp.Ev)(T:List Int)(G:List WS)(w:WR)(hd:jr w M (J (S ⟨y,0,U⟩) N I) b l E T (J (S ⟨g,0,U⟩) (n+1) cap))(hn:n<=10000)(r:w.ownsRow (M+1) 313 2 (J (S ⟨g,0,U⟩) (n+1) cap) (n+1) (G++[Z Y k,Z Y (Xg T)]))(L:Xg G=n*2)(hk:1<k)(t:k<=9223372036854775807)(s:b<N)(o:y<M)(P:w.cell? ⟨y,b*2+1,U⟩=S (Z Y m)):WT prog 193 #[WV (S ⟨M,0,U⟩)] w λe u=>e=WZ (WX #[])/\jr u M (J (S ⟨y,0,U⟩) N I) m l E T (J (S ⟨g,0,U⟩) (n+1) cap)/\u.ownsRow (M+1) 313 2 (J (S ⟨g,0,U⟩) (n+1) cap) (n+1) (G++[Z Y (k-1),Z Y (Xg T)])/\Below M w u:=by
 obtain⟨h,q⟩:∃h,Xg T=h:=⟨_,rfl⟩
 have q0:w.cell? ⟨g,n*2,U⟩=S (Z Y k):=(r.cellAt (n*2) (by omega)).trans (by rw[Ul (by omega),L];simp);have q1:w.cell? ⟨g,n*2+1,U⟩=S (Z Y (Xg T)):=(r.cellAt (n*2+1) (by omega)).trans (by rw[Ul (by omega),L];simp);have q2:=r.frozenAt (n*2);have Q:M<g:=(r.lt g O).1;have aa:M≠g:=by omega
 have ab:g≠M:=by omega
 have ad:g≠y:=by omega
 have e0:=hd.c0;have ea:=hd.c1;have e1:=hd.hh;have e2:=hd.ll;have e3:=hd.fz 1;have g0:((n+1:Nat):Int)-1=(n:Int):=by omega
 have g1:(0:Int)<=(n:Int):=UF _;have g2:(n:Int)<((n+1:Nat):Int):=by omega
 have g4:(0:Int)<=(b:Int):=UF _;have g5:(b:Int)<(N:Int):=by omega
 have A:=r.stored (n*2) (Z Y (k-1));have k2:(w.setCell ⟨g,n*2,U⟩ (Z Y (k-1))).cell? ⟨g,n*2,U⟩=S (Z Y (k-1)):=UN _ _ _ q0;have z:Hid (∀j,(λu=>jr u M (J (S ⟨y,0,U⟩) N I) m l E T (J (S ⟨g,0,U⟩) (n+1) cap)/\u.ownsRow (M+1) 313 2 (J (S ⟨g,0,U⟩) (n+1) cap) (n+1) (G++[Z Y (k-1),Z Y (Xg T)])/\Below M w u) ((((w.drewN j).setCell ⟨g,n*2,U⟩ (Z Y (k-1))).setCell ⟨M,1,U⟩ (Z Y m)).drew)):=by
  intro j;have B:=below_drewN w j;have R:=hd.drewN j;have V:=dd r B;have C:=V.stored (n*2) (Z Y (k-1));have W:=R.grown C.2 (by simp[Value.ownBlock];omega);have F:=C.1;rw[WI _ _ (by omega),L,Nat.sub_self] at F;have X:=((B.mono (UT hd.lt)).setCell (p:=⟨g,n*2,U⟩) (UT Q) (Z Y (k-1))).setCell (p:=⟨M,1,U⟩) WN (Z Y m);exact⟨(W.Mo _).drew,(((eB.refl M _).set _ _).own F).drew,X.drew⟩
 rw[q] at q1 e1;have g3:(((h:Nat):Int) != ((h:Nat):Int))=W9:=by simp
 have g6:(0:Int)<k-1:=by omega
 have g7:k-1<=9223372036854775807:=by omega
 clear q hd r A;go_enter func193,ntmps193;go_wp2_with fail
 go_quiet (fail)
 go_wp2_with fail
 go_quiet (fail)
 go_wp2
 go_region
 all_goals
  go_wp2;generalize nq=n2 at *
  first
  |exact T8 (Ua rfl _ _ _) rfl ⟨rfl,(cS z _).1,(cS z _).2.1,(cS z _).2.2⟩
  |exact Ub (Ua rfl _ _ _) rfl ⟨rfl,(cS z _).1,(cS z _).2.1,(cS z _).2.2⟩
end
namespace Sp
open Go Go.RowKit
variable {ms op:List Nat}
theorem py{L:List (List UInt8)}{i:Nat}(hi:i<Xg L)(e:fB L i=S (ms,op)): fB L (i+1)=fC L[i] i ms op:=by
 rw[fB,e];simp only;rw[mQ hi]
theorem OY(L:List (List UInt8)):∀(k:Nat) (m o:List Nat),fB L k=S (m,o)->Xg m=k:=by
 intro k
 induction k with
 |zero=>intro b e h;simp[fB] at h;obtain⟨rfl,_⟩:=h;rfl
 |succ k j =>
  intro b e h;simp only[fB] at h;split at h
  .cases h
  .rename_i r u l;rw[(ui h).1,j _ _ l]
theorem JU(L:List (List UInt8)):∀(k:Nat) (m o:List Nat),fB L k=S (m,o)->∀q∈o,q<k:=by
 intro k
 induction k with
 |zero=>intro e j h;simp[fB] at h;obtain⟨_,rfl⟩:=h;intro q b;cases b
 |succ k l =>
  intro e j h q b;simp only[fB] at h;split at h
  .cases h
  .rename_i u y r;have:=l _ _ r;unfold fC at h;split at h
   .injection h with h;injection h with _ h;subst h;rcases Uq.1 b with b|b
    .have:=this q b;omega
    .rw[Uz] at b;omega
   .split at h
    .split at h
     .injection h with h;injection h with _ h;subst h;have:=this q ((List.dropLast_sublist _).subset b);omega
     .cases h
    .injection h with h;injection h with _ h;subst h;have:=this q b;omega
theorem IY(L:List (List UInt8)):∀(k:Nat) (m o:List Nat),fB L k=S (m,o)->o.Nodup:=by
 intro k
 induction k with
 |zero=>intro r u h;simp[fB] at h;obtain⟨_,rfl⟩:=h;exact List.nodup_nil
 |succ k y =>
  intro r u h;simp only[fB] at h;split at h
  .cases h
  .rename_i B C l;have e:=y _ _ l;have z:=JU L _ _ _ l;unfold fC at h;split at h
   .injection h with h;injection h with _ h;subst h;refine VW.2 ⟨e,by simp,λa A b j=>?_⟩;rw[Uz] at j;have:=z a A;omega
   .split at h
    .split at h
     .injection h with h;injection h with _ h;subst h;exact(List.dropLast_sublist _).nodup e
     .cases h
    .injection h with h;injection h with _ h;subst h;exact e
theorem MJ(L:List (List UInt8)){i:Nat}(e:fB L i=S (ms,op)): ∀(d:Nat) (r u:List Nat),fB L (i+d)=S (r,u)->(∀p,p<i->p∉op->r.getD p 0=ms.getD p 0)/\(∀q∈u,q<i->q∈op):=by
 intro d
 induction d with
 |zero =>
  intro r u h;rw[U9,e] at h;injection h with h;injection h with z C;subst z C;exact⟨λ_ _ _=>O,λq y _=>y⟩
 |succ d Q =>
  intro r u h;rw[<-Nat.add_assoc,fB] at h;split at h
  .cases h
  .rename_i N R C;obtain⟨G,F⟩:=Q _ _ C;have P:=OY L _ _ _ C;have b:∀p,p<i->(N++[0]).getD p 0=N.getD p 0:=λp m=>by
    rw[Uo,Uo,UY (by omega)]
   unfold fC at h;split at h
   .injection h with h;injection h with z j;subst z j;refine⟨λp m B=>(b p m).trans (G p m B),λq y A=>?_⟩;rcases Uq.1 y with y|y
    .exact F q y A
    .rw[Uz] at y;omega
   .split at h
    .split at h
     .rename_i l T;injection h with h;injection h with z j;subst z j;have I:l∈R:=List.mem_of_getLast? T;refine⟨λp m B=>?_,λq y A=>F q ((List.dropLast_sublist _).subset y) A⟩;have M:l≠p:=λe=>by subst e;exact B (F l I m)
      rw[Uo,V7 M,V7 (by omega),<-Uo];exact(b p m).trans (G p m B)
     .cases h
    .injection h with h;injection h with z j;subst z j;exact⟨λp m B=>(b p m).trans (G p m B),F⟩
theorem P2(L:List (List UInt8)):∀(N:Nat) (b T:List (List UInt8)) (i:Nat) (ms op:List Nat),Xg b<=N->L.drop i=b++T->i+Xg b<=Xg L->kh W8 b 0=W8->fB L i=S (ms,op)->∃z,fB L (i+Xg b)=S (z,op):=by
 intro N
 induction N with
 |zero =>
  intro b T i ms op R A V W e;have:b=[]:=Wo (by omega);subst this;exact⟨ms,e⟩
 |succ N B =>
  intro b T i ms op R A V W e;cases b with
  |nil=>exact⟨ms,e⟩
  |cons x r =>
   obtain⟨h1,t,u⟩:=lx W;simp only[Uf] at R V ⊢;have hi:i<Xg L:=by omega
   have s:L[i]=x:=by
    have:=UJ hi;rw[A] at this;simp only[UM,Wb] at this;exact this.1.symm
   have l:L.drop (i+1)=r++T:=by
    have:=UJ hi;rw[A] at this;simp only[UM,Wb] at this;exact this.2.symm
   have C:=py hi e;rw[s] at C;by_cases F:x=[91]
   .subst F;rw[show ds [91]=1 by decide] at u;obtain⟨j,m,y,p,o,_⟩:=xt r 0 (Int.le_refl _) (by simpa using u);have n:Xg r=Xg j+(Xg m+1):=by rw[y];simp
    have G:fB L (i+1)=S (ms++[0],op++[i]):=by rw[C];unfold fC;rw[T0 rfl]
    obtain⟨I,M⟩:=B j ([93]::m++T) (i+1) _ _ (by omega) (by rw[l,y];simp) (by omega) p G;have X:i+1+Xg j<Xg L:=by omega
    have g:L[i+1+Xg j]=[93]:=by
     have k:(L.drop (i+1))[Xg j]?=S [93]:=by rw[l,y];simp
     rw[VG,Uk X] at k;exact Ut k
    have q:=py X M;rw[g] at q;have P:∃h,fB L (i+1+Xg j+1)=S (h,op):=by
     refine⟨((I++[0]).set (i+1+Xg j) i).set i (i+1+Xg j),?_⟩;rw[q];unfold fC;rw[TZ (by decide),T0 rfl];simp only[Wy,Wz,Option.some_or,WA]
    obtain⟨h,P⟩:=P;have Q:L.drop (i+1+Xg j+1)=m++T:=by
     rw[Nat.add_assoc (i+1),<-List.drop_drop,l,y];rw[show j++[93]::m++T=(j++[[93]])++(m++T) by simp];exact List.drop_left' (by simp)
    obtain⟨m6,e6⟩:=B m T (i+1+Xg j+1) _ _ (by omega) Q (by omega) o P;exact⟨m6,by rw[show i+(Xg r+1)=i+1+Xg j+1+Xg m by omega];exact e6⟩
   .have f:x≠[93]:=by
     rintro rfl;rw[show ds [93] = -1 by decide] at t;omega
    rw[nO F f] at u;have G:fB L (i+1)=S (ms++[0],op):=by rw[C];unfold fC;rw[TZ F,TZ f]
    obtain⟨I,M⟩:=B r T (i+1) _ _ (by omega) l (by omega) (by simpa using u) G;exact⟨I,by rw[show i+(Xg r+1)=i+1+Xg r by omega];exact M⟩
theorem xM{L:List (List UInt8)}{m:List Nat}(z:fB L (Xg L)=S (m,[])){e a:Nat}(he:e<Xg L)(A:L[e]=[93])(h:fB L e=S (ms,op++[a])): m.getD e 0=a/\m.getD a 0=e:=by
 have b:=py he h;rw[A] at b;unfold fC at b;rw[TZ (by decide),T0 rfl] at b;simp only[Wy,Wz,Option.some_or,WA] at b;have F:=OY L _ _ _ h;have j:=JU L _ _ _ h;have B:a<e:=j a (by simp);have y:=MJ L b (Xg L-(e+1)) m [] (by rw[show e+1+(Xg L-(e+1))=Xg L by omega];exact z);have C:=JU L _ _ _ b;have u:e∉op:=λr=>by have:=j e (Vy _ r);omega
 constructor
 .rw[y.1 e (by omega) u,Uo,V7 (by omega),WE (by simp;omega)];rfl
 .by_cases r:a∈op
  .have l:=IY L _ _ _ h;rw[VW] at l;exact absurd O (l.2.2 a r a (by simp))
  .rw[y.1 a (by omega) r,Uo,WE (by simp;omega)];rfl
end Sp
namespace Sp
open Go Go.RowKit
def SW(L:List (List UInt8)):List (Int × Nat)->Prop
 |[]=>True
 | (k,a)::r=>(∃e,fB L (a+1)=S (e,(a::r.map Prod.snd).reverse))/\SW L r
structure KF (L:List (List UInt8)) (s:Ms):Prop where
 at':∃ms,fB L s.at'=S (ms,(s.lp.map Prod.snd).reverse)
 pl:SW L s.lp
theorem F8{L:List (List UInt8)}(T:kh W8 L 0=W8){r:Nat × List Nat}(V:fc L 0 []=S r){a h:Nat}{u:List Nat}(ha:a<Xg L)(hb:L[a]=[91])(e:fc (L.take a) 0 []=S (h,u)){F y:List Nat}(W:fB L a=S (F,y)):∃n A B,AF (L.drop a) a 0=S n/\n<Xg L/\L.getD n []=[93]/\fB L n=S (B,y++[a])/\fB L (n+1)=S (A,y):=by
 obtain⟨p,X,l,k⟩:=rK V ha e;rw[hb] at l;obtain⟨x,l⟩:=yP l;injection l with l q;subst l q;obtain⟨i,o⟩:=uI T _ _ _ (by omega) k;obtain⟨j,G,C,f,g,t⟩:=vo (L.drop (a+1)) (Xg u) 0 (UF _) (by omega) (by
  have:((u++[h-1]).length:Int)=(Xg u:Int)+0+1:=by simp
  rw[<-this];exact i)
 have I:Xg j+(Xg G+1)=Xg L-(a+1):=by
  have:=congrArg List.length C;simp only[Vb,UG,Uf] at this;omega
 have m:AF (L.drop a) a 0=S (a+1+Xg j):=by
  rw[UJ ha,hb];simp only[AF,show ds [91]=1 by decide];rw[TZ (by omega)];have:=t (a+1) [];rw[Vr] at this;simpa using this
 have z:a+1+Xg j<Xg L:=by omega
 have M:L[a+1+Xg j]=[93]:=by
  have N:(L.drop (a+1))[Xg j]?=S [93]:=by rw[C];simp
  rw[VG,Uk z] at N;exact Ut N
 have s:fB L (a+1)=S (F++[0],y++[a]):=by rw[py ha W,hb];unfold fC;rw[T0 rfl]
 obtain⟨P,Q⟩:=P2 L (Xg j) j ([93]::G) (a+1) _ _ WN C (by omega) f s;have R:=py z Q;rw[M] at R;refine⟨_,((P++[0]).set (a+1+Xg j) a).set a (a+1+Xg j),P,m,z,by rw[mQ z];exact M,Q,?_⟩;rw[R];unfold fC;rw[TZ (by decide),T0 rfl];simp only[Wy,Wz,Option.some_or,WA]
theorem DC{L:List (List UInt8)}{E:Ev}(R:kh W8 L 0=W8){r:Nat × List Nat}(V:fc L 0 []=S r){s t:Ms}(W:zn L s)(u:KF L s)(hi:s.at'<Xg L)(h:gx L E s=S t):KF L t:=by
 obtain⟨f,p,e,o,g⟩:=W.ex;obtain⟨C,F⟩:=u.at';have j:=py hi F;unfold gx at h;rw[mQ hi] at h;split at h
 .cases h
 .split at h
  .rename_i B;split at h
   .cases h
   .rename_i n T X;split at h
    .obtain⟨m,G,x,q,m2,m3,m4,i⟩:=F8 R V hi B e F;injection h with h;subst h;rw[q];exact⟨⟨G,i⟩,u.pl⟩
    .injection h with h;subst h;have I:fB L (s.at'+1)=S (C++[0],(s.lp.map Prod.snd).reverse++[s.at']):=by rw[j,B];unfold fC;rw[T0 rfl]
     have P:fB L (s.at'+1)=S (C++[0],(s.at'::s.lp.map Prod.snd).reverse):=by rw[I,List.reverse_cons]
     exact⟨⟨_,by simpa using P⟩,⟨_,P⟩,u.pl⟩
  .split at h
   .rename_i y B;split at h
    .cases h
    .rename_i k a rr M;have z:=u.pl;rw[M] at z F j;obtain⟨⟨A,Q⟩,l⟩:=z;split at h
     .injection h with h;subst h;exact⟨⟨A,by simpa using Q⟩,⟨A,Q⟩,l⟩
     .injection h with h;subst h;rw[B] at j;unfold fC at j;rw[TZ (by decide),T0 rfl] at j;simp only[U4,List.reverse_cons,Wy,Wz,Option.some_or,WA] at j;exact⟨⟨_,j⟩,l⟩
   .rename_i y N;obtain⟨T,hw,h⟩:=WD.1 h;subst h;have I:fB L (s.at'+1)=S (C++[0],(s.lp.map Prod.snd).reverse):=by rw[j];unfold fC;rw[TZ y,TZ N]
    exact⟨⟨_,I⟩,u.pl⟩
theorem RF(L:List (List UInt8))(f:Nat):KF L ⟨0,f,[],[]⟩:=⟨⟨[],O⟩,trivial⟩
def i64(n:Int):Prop := -9223372036854775808<=n/\n<=9223372036854775807
structure nA (E:Ev):Prop where
 value:i64 E.value
 yp:i64 E.yp
 jf:i64 E.jf
 iI:i64 E.iI
 step:i64 E.step
 id:i64 E.id
 deg:i64 E.deg
 all:i64 E.all
 weight:i64 E.weight
theorem oW(n:Int):i64 (wrap64 n):=by unfold i64 wrap64;constructor <;> omega
theorem Qy{E:Ev}(h:nA E)(x:List UInt8):i64 (wG E x):=by
 unfold wG
 repeat' split
 .exact h.value
 .exact h.yp
 .exact h.jf
 .exact h.iI
 .exact h.step
 .exact h.id
 .exact h.deg
 .exact h.all
 .exact h.weight
variable {b a:Int}
theorem LK(ha:i64 a): i64 (a.tmod b):=by
 unfold i64 at *;have l:(a.tmod b).natAbs<=a.natAbs:=by rw[Int.natAbs_tmod];exact Nat.mod_le _ _
 rcases Int.le_total 0 a with h|h
 .have e:0<=a.tmod b:=Int.tmod_nonneg b h;omega
 .have e:a.tmod b<=0:=by
   have j:0<=(-a).tmod b:=Int.tmod_nonneg b (by omega);rw[Int.neg_tmod] at j;omega
  omega
theorem M0(ha:i64 a)(hb:i64 b): i64 (min a b):=by
 by_cases h:a<=b
 .rw[Int.min_eq_left h];exact ha
 .rw[Int.min_eq_right (by omega)];exact hb
theorem NY(ha:i64 a)(hb:i64 b): i64 (max a b):=by
 by_cases h:a<=b
 .rw[Int.max_eq_right h];exact hb
 .rw[Int.max_eq_left (by omega)];exact ha
theorem Fh(q:Prop)[Decidable q]:i64 (if q then 1 else 0):=by unfold i64;split <;> omega
theorem Ph{x:List UInt8}{v:Int}(ha:i64 a)(hb:i64 b)(h:tL x a b=S v): i64 v:=by
 unfold tL at h;by_cases e:x=[43]
 .rw[T0 e] at h;injection h with h;subst h;exact oW _
 .rw[TZ e] at h;by_cases j:x=[45]
  .rw[T0 j] at h;injection h with h;subst h;exact oW _
  .rw[TZ j] at h;by_cases l:x=[42]
   .rw[T0 l] at h;injection h with h;subst h;exact oW _
   .rw[TZ l] at h;by_cases m:x=[47]
    .rw[T0 m] at h;split at h
     .cases h
     .injection h with h;subst h;exact oW _
    .rw[TZ m] at h;by_cases r:x=[37]
     .rw[T0 r] at h;split at h
      .cases h
      .injection h with h;subst h;exact LK ha
     .rw[TZ r] at h;by_cases u:x=[60]
      .rw[T0 u] at h;injection h with h;subst h;exact Fh _
      .rw[TZ u] at h;by_cases y:x=[61]
       .rw[T0 y] at h;injection h with h;subst h;exact Fh _
       .rw[TZ y] at h;by_cases z:x=[109,105,110]
        .rw[T0 z] at h;injection h with h;subst h;exact M0 ha hb
        .rw[TZ z] at h;injection h with h;subst h;exact NY ha hb
end Sp
namespace Sp
open Go Go.RowKit
def jh(T:List Int):Prop := ∀v∈T,i64 v
variable {T:List Int}{v:Int}
theorem jh.cons(b:i64 v)(h:jh T): jh (v::T):=λu hu=>by
 rcases UC.1 hu with rfl|hu
 .exact b
 .exact h u hu
theorem jh.head(h:jh (v::T)): i64 v:=h v (UI ..)
theorem jh.tail(h:jh (v::T)): jh T:=λu hu=>h u (UZ _ hu)
theorem M7{E:Ev}(j:nA E){x:List UInt8}{e:List Int}(l:∀n,number x=S n->i64 n)(h:jh T)(b:ln E x T=S e): jh e:=by
 unfold ln at b;split at b
 .rename_i n m;injection b with b;subst b;exact jh.cons (l _ m) h
 .split at b
  .injection b with b;subst b;exact jh.cons (Qy j x) h
  .split at b
   .split at b
    .obtain⟨v,r,rfl⟩:=WD.1 b;exact jh.cons (Ph h.tail.head h.head r) h.tail.tail
    .cases b
   .split at b
    .split at b
     .injection b with b;subst b;exact jh.cons h.head h
     .cases b
    .split at b
     .split at b
      .injection b with b;subst b;exact h.tail
      .cases b
     .split at b
      .split at b
       .injection b with b;subst b;exact jh.cons h.tail.head (jh.cons h.head h.tail.tail)
       .cases b
      .split at b
       .split at b
        .injection b with b;subst b;exact jh.cons h.tail.head (jh.cons h.head h.tail)
        .cases b
       .split at b
        .split at b
         .injection b with b;subst b;refine jh.cons ?_ h.tail.tail.tail;split
          .exact h.tail.head
          .exact h.head
         .cases b
        .cases b
structure F9 (s:Ms):Prop where
 T:jh s.T
 lp:∀q∈s.lp,1<=q.1/\q.1<=9223372036854775807
theorem uT{L:List (List UInt8)}{E:Ev}(y:nA E)(z:∀x n,number x=S n->i64 n){s t:Ms}(e:F9 s)(h:gx L E s=S t):F9 t:=by
 unfold gx at h;split at h
 .cases h
 .split at h
  .split at h
   .cases h
   .rename_i n T m;have j:=e.T;rw[m] at j;split at h
    .injection h with h;subst h;exact⟨j.tail,e.lp⟩
    .injection h with h;subst h;refine⟨j.tail,λq b=>?_⟩;rcases UC.1 b with rfl|b
     .exact⟨by simp only;omega,j.head.2⟩
     .exact e.lp q b
  .split at h
   .split at h
    .cases h
    .rename_i k a r u;have l:=e.lp;rw[u] at l;have A:=l (k,a) (UI ..);simp only at A;split at h
     .injection h with h;subst h;refine⟨e.T,λq b=>?_⟩;rcases UC.1 b with rfl|b
      .exact⟨by simp only;omega,by simp only;omega⟩
      .exact l q (UZ _ b)
     .injection h with h;subst h;exact⟨e.T,λq b=>l q (UZ _ b)⟩
   .obtain⟨T,B,h⟩:=WD.1 h;subst h;exact⟨M7 y (z _) e.T B,e.lp⟩
end Sp
end Go.Proofs.YtgkkdpegcieakaaGreatDoor
