import Derived.Test.YtgkkdpegcieakaaGreatDoorCv08
set_option linter.all false
set_option maxRecDepth 100000
set_option maxHeartbeats 0
namespace Go.Proofs.YtgkkdpegcieakaaGreatDoor
open Go.Proofs.Tryz
open Value renaming int→Z,slice→J,pointer→V9,tuple→Wb
open Ending renaming returned→Wd
open Option renaming none→U,some→S
open Bool renaming true→We,false→Wg
open List renaming length→Wn
open IntKind renaming i64→Y
open Go renaming World→V5,Value→V6,Calls→V7
open Go.RowKit
namespace Sp
open Go Go.RowKit
structure Ev where
 value:Int
 xB:Int
 jf:Int
 iH:Int
 step:Int
 id:Int
 deg:Int
 all:Int
 weight:Int
def wG(E:Ev)(x:List UInt8):Int:=if x=[118,97,108,117,101] then E.value
 else if x=[111,108,100] then E.xB
 else if x=[105,110] then E.jf
 else if x=[103,111,116] then E.iH
 else if x=[115,116,101,112] then E.step
 else if x=[105,100] then E.id
 else if x=[100,101,103] then E.deg
 else if x=[97,108,108] then E.all
 else E.weight
def tz(x:List UInt8)(a b:Int):Option Int:=if x=[43] then S (wrap64 (a+b))
 else if x=[45] then S (wrap64 (a-b))
 else if x=[42] then S (wrap64 (a*b))
 else if x=[47] then (if b=0 then U else S (wrap64 (a.tdiv b)))
 else if x=[37] then (if b=0 then U else S (a.tmod b))
 else if x=[60] then S (if a<b then 1 else 0)
 else if x=[61] then S (if a=b then 1 else 0)
 else if x=[109,105,110] then S (min a b)
 else S (max a b)
def kV(E:Ev)(x:List UInt8)(T:List Int):Option (List Int):=match number x with
 |some n=>S (n::T)
 |none =>
  if x∈jR\/x=[119,101,105,103,104,116] then S (wG E x::T)
  else if x∈oS then (match T with | b::a::r=>(tz x a b).map (· :: r) | _=>U)
  else if x=[100,117,112] then (match T with | a::r=>S (a::a::r) | _=>U)
  else if x=[100,114,111,112] then (match T with | _::r=>S r | _=>U)
  else if x=[115,119,97,112] then (match T with | b::a::r=>S (a::b::r) | _=>U)
  else if x=[111,118,101,114] then (match T with | b::a::r=>S (a::b::a::r) | _=>U)
  else if x=[63] then (match T with | c::b::a::r=>S ((if a≠0 then b else c)::r) | _=>U)
  else U
structure Ms where
 at':Nat
 fuel:Nat
 T:List Int
 lp:List (Int × Nat)
def gw(L:List (List UInt8))(E:Ev)(s:Ms):Option Ms:=if s.fuel=0 then U
 else if L.getD s.at' []=[91] then
  (match s.T with
    |[]=>U
    |n::T=>if n<1 then S ⟨(BK (L.drop s.at') s.at' 0).getD 0+1,s.fuel-1,T,s.lp⟩ else S ⟨s.at'+1,s.fuel-1,T,(n,s.at')::s.lp⟩)
 else if L.getD s.at' []=[93] then
  (match s.lp with
    |[]=>U
    | (k,a)::r=>if 1<k then S ⟨a+1,s.fuel-1,s.T,(k-1,a)::r⟩ else S ⟨s.at'+1,s.fuel-1,s.T,r⟩)
 else (kV E (L.getD s.at' []) s.T).map λT=>⟨s.at'+1,s.fuel-1,T,s.lp⟩
def lG(L:List (List UInt8))(E:Ev):Nat->Ms->Option Ms
 |0,_=>U
 |g+1,s=>if (Wn L)<=s.at' then S s else match gw L E s with
  |none=>U
  |some t=>lG L E g t
def ev(L:List (List UInt8))(E:Ev):Option Int:=(lG L E 201 ⟨0,200,[],[]⟩).bind λs=>s.T.head?
theorem qD{L:List (List UInt8)}{E:Ev}{s t:Ms}(h:gw L E s=S t):s.fuel=t.fuel+1:=by
 unfold gw at h;split at h
 .cases h
 .rename_i b;split at h
  .split at h
   .cases h
   .split at h <;> (injection h with h;subst h;simp;omega)
  .split at h
   .split at h
    .cases h
    .split at h <;> (injection h with h;subst h;simp;omega)
   .obtain⟨T,_,h⟩:=VS.1 h;subst h;simp;omega
theorem J8{L:List (List UInt8)}{E:Ev}:∀(g:Nat) (s:Ms),s.fuel<g->∀b,s.fuel<b->lG L E g s=lG L E b s:=by
 intro g
 induction g with
 |zero=>intro s h;omega
 |succ g e =>
  intro s h b l;cases b with
  |zero=>omega
  |succ b =>
   simp only[lG];split
   .rfl
   .cases j:gw L E s with
    |none=>rfl
    |some t =>
     have:=qD j;exact e t (by omega) b (by omega)
theorem uK:∀(R:List (List UInt8)) (d c:Int),0<=d->0<=c->kI We R (d+c+1)=We->
  ∃b j,R=b++[93]::j/\kI We b c=We/\kI We j d=We/\∀k T,BK (R++T) k (c+1)=S (k+Wn b):=by
 intro R
 induction R with
 |nil =>
  intro d c hd B h;simp only[kI,decide_eq_true_eq] at h;omega
 |cons y r C =>
  intro d c hd B h;obtain⟨F,M,m⟩:=kR h;have P:=Cn y;by_cases l:c+1+ds y=0
  .have G:y=[93]:=by
    by_cases z:y=[91]
    .subst z;simp[ds] at l;omega
    .by_cases A:y=[93]
     .exact A
     .rw[nS z A] at l;omega
   have u:c=0:=by omega
   subst G u;refine⟨[],r,O,O,?_,λk T=>?_⟩
   .rw[show d+0+1+ds [93]=d by omega] at m;exact m
   .simp only[TZ,BK];rw[Tg l];rfl
  .obtain⟨b,j,e,I,K,L⟩:=C d (c+ds y) hd (by omega) (by rw[show d+(c+ds y)+1=d+c+1+ds y by omega];exact m);refine⟨y::b,j,by rw[e];rfl,CF F (by omega) I,K,λk T=>?_⟩;simp only[TZ,BK];rw[Tf l,show c+1+ds y=c+ds y+1 by omega,L (k+1) T];simp only[Tr]
   congr 1;omega
theorem JW{b:List (List UInt8)}(m:kI We b 0=We){h:Nat}(r:h<=16)(l:List Nat){u:Nat}{j:List Nat}(e:fe b h l=S (u,j)):j=l:=by
 have:=Bk b (Wn b) b [] 0 h l V2 (by simp) (by omega) m r;rw[this] at e;split at e
 .cases e
 .injection e with e;injection e with _ e;exact e.symm
theorem Kr{E:Ev}{x:List UInt8}{T l:List Int}{n m:Nat}(h1:x≠[91])(h2:x≠[93])(ht:tk We x=S (n,m))(b:kV E x T=S l):n<=Wn T/\(Wn l)=Wn T-n+m:=by
 unfold tk at ht;unfold kV at b;cases r:number x with
 |some v =>
  rw[r] at ht b;simp at ht b;obtain⟨rfl,rfl⟩:=ht;subst b;simp
 |none =>
  rw[r] at ht b;simp only[Option.isSome_none,VE,false_or,true_and] at ht;simp only at b;by_cases u:x∈jR\/x=[119,101,105,103,104,116]
  .rw[Tg u] at ht b;injection ht with ht;injection ht with e j;subst e j;injection b with b;subst b;simp
  .rw[Tf u] at ht b;by_cases y:x∈oS
   .rw[Tg y] at ht b;injection ht with ht;injection ht with e j;subst e j;split at b
    .obtain⟨v,_,rfl⟩:=VS.1 b;simp
    .cases b
   .rw[Tf y] at ht b;by_cases z:x=[100,117,112]
    .rw[Tg z] at ht b;injection ht with ht;injection ht with e j;subst e j;split at b
     .injection b with b;subst b;simp
     .cases b
    .rw[Tf z] at ht b;by_cases A:x=[100,114,111,112]
     .rw[Tg A] at ht b;injection ht with ht;injection ht with e j;subst e j;split at b
      .injection b with b;subst b;simp
      .cases b
     .rw[Tf A] at ht b;rw[Tf h1] at ht;by_cases B:x=[115,119,97,112]
      .rw[Tg B] at ht b;injection ht with ht;injection ht with e j;subst e j;split at b
       .injection b with b;subst b;simp
       .cases b
      .rw[Tf B] at ht b;by_cases C:x=[111,118,101,114]
       .rw[Tg C] at ht b;injection ht with ht;injection ht with e j;subst e j;split at b
        .injection b with b;subst b;simp
        .cases b
       .rw[Tf C] at ht b;by_cases F:x=[63]
        .rw[Tg F] at ht b;injection ht with ht;injection ht with e j;subst e j;split at b
         .injection b with b;subst b;simp
         .cases b
        .rw[Tf F] at b;cases b
end Sp
namespace Sp
open Go Go.RowKit
def RV(L:List (List UInt8)):List (Int × Nat)->List Nat->Prop
 |[],ls=>ls=[]
 | (k,a)::r,ls=>1<=k/\a<Wn L/\L.getD a []=[91]/\∃h b,ls=b++[h]/\fe (L.take (a+1)) 0 []=S (h,b++[h])/\RV L r b
structure yZ (L:List (List UInt8)) (s:Ms):Prop where
 le:s.at'<=Wn L
 ex:∃h ls,fe (L.take s.at') 0 []=S (h,ls)/\(Wn s.T)=h/\RV L s.lp ls
variable {L:List (List UInt8)}{i:Nat}
theorem xw(hi:i<Wn L): L.take (i+1)=L.take i++[L[i]]:=by
 rw[Uw hi]
theorem Km(x:List UInt8)(h:Nat)(ls:List Nat):fe [x] h ls=dst x h ls:=by
 simp only[fe];cases dst x h ls with
 |none=>rfl
 |some p=>rfl
variable {h:Nat}{ls:List Nat}
theorem AD(hi:i<Wn L)(e:fe (L.take i) 0 []=S (h,ls)): fe (L.take (i+1)) 0 []=dst L[i] h ls:=by
 rw[xw hi,lx,e];exact Km _ _ _
variable {r:Nat × List Nat}
theorem Cc(b:fe L 0 []=S r)(i:Nat): ∃h ls,fe (L.take i) 0 []=S (h,ls):=by
 have e:=lx (L.take i) (L.drop i) 0 [];rw[Un,b] at e;cases j:fe (L.take i) 0 [] with
 |none=>rw[j] at e;cases e
 |some p=>exact⟨p.1,p.2,rfl⟩
theorem uD(A:kI We L 0=We): ∀(i h:Nat) (ls:List Nat),i<=Wn L->fe (L.take i) 0 []=S (h,ls)->kI We (L.drop i) (Wn ls)=We/\h<=16:=by
 intro i
 induction i with
 |zero =>
  intro h ls hi e;simp only[List.take_zero,fe] at e;injection e with e;injection e with e1 e2;subst e1 e2;exact⟨by simpa using A,by omega⟩
 |succ i B =>
  intro h ls hi e;have b:i<Wn L:=by omega
  have l:=e;rw[xw b,lx] at e;cases m:fe (L.take i) 0 [] with
  |none=>rw[m] at e;cases e
  |some p =>
   obtain⟨C,j⟩:=p;obtain⟨y,F⟩:=B C j (by omega) m;rw[AD b m] at l;rw[TW b] at y;obtain⟨_,z,G⟩:=kR y;have I:L[i]=[93]->j≠[]:=by
    intro u K;rw[u,K,show ds [93] = -1 by decide] at z;simp at z
   rw[Fq I l];exact⟨G,KM F l⟩
theorem rY(m:fe L 0 []=S r)(hi:i<Wn L)(e:fe (L.take i) 0 []=S (h,ls)): ∃j b,dst L[i] h ls=S (j,b)/\fe (L.take (i+1)) 0 []=S (j,b):=by
 obtain⟨j,b,l⟩:=Cc m (i+1);have:=AD hi e;rw[l] at this;exact⟨j,b,this.symm,l⟩
theorem mI(hi:i<Wn L): L.getD i []=L[i]:=by
 rw[Ty,Tw hi];rfl
variable {p:Nat × List Nat}
theorem zx(e:dst [91] h ls=S p): h≠0/\p=(h-1,ls++[h-1]):=by
 unfold dst at e;rw[Tg rfl] at e;split at e
 .cases e
 .rename_i b;injection e with e;exact⟨b,e.symm⟩
theorem CC{m:Nat}(e:dst [93] h (ls++[m])=S p): h=m/\p=(h,ls):=by
 unfold dst at e;rw[Tf (by decide),Tg rfl] at e;simp only[VO,VP,Option.some_or,VQ] at e;split at e
 .rename_i b;injection e with e;exact⟨b,e.symm⟩
 .cases e
theorem vO{x:List UInt8}(h1:x≠[91])(h2:x≠[93])(e:dst x h ls=S p): ∃n m,tk We x=S (n,m)/\n<=h/\h-n+m<=16/\p=(h-n+m,ls):=by
 unfold dst at e;rw[Tf h1,Tf h2] at e;split at e
 .cases e
 .rename_i n m j;split at e
  .rename_i b;injection e with e;exact⟨n,m,j,b.1,b.2,e.symm⟩
  .cases e
theorem skip(G:kI We L 0=We)(y:fe L 0 []=S r){a:Nat}(ha:a<Wn L)(hb:L[a]=[91])(e:fe (L.take a) 0 []=S (h,ls)):∃n,BK (L.drop a) a 0=S n/\a<n/\n<Wn L/\L.getD n []=[93]/\fe (L.take (n+1)) 0 []=S (h-1,ls)/\h≠0:=by
 obtain⟨g,R,j,I⟩:=rY y ha e;rw[hb] at j;obtain⟨z,j⟩:=zx j;injection j with j T;subst j T;obtain⟨V,f2⟩:=uD G _ _ _ (by omega) I;have f0:=(uD G _ _ _ (by omega) e).2;obtain⟨b,W,A,X,b2,k⟩:=uK (L.drop (a+1)) (Wn ls) 0 (TS _) (by omega) (by
  have:((ls++[h-1]).length:Int)=(Wn ls:Int)+0+1:=by simp
  rw[<-this];exact V)
 have K:Wn b+(Wn W+1)=Wn L-(a+1):=by
  have:=congrArg List.length A;simp only[Us,TT,Tr] at this;omega
 have l:BK (L.drop a) a 0=S (a+1+Wn b):=by
  rw[TW ha,hb];simp only[BK,show ds [91]=1 by decide];rw[Tf (by omega)];have:=k (a+1) [];rw[UJ] at this;simpa using this
 have m:a+1+Wn b<Wn L:=by omega
 have M:L[a+1+Wn b]=[93]:=by
  have P:(L.drop (a+1))[Wn b]?=S [93]:=by rw[A];simp
  rw[UX,Tw m] at P;exact TG P
 have B:L.take (a+1+Wn b)=L.take (a+1)++b:=by
  rw[List.take_add,A];simp
 obtain⟨h2,x,Q⟩:=Cc y (a+1+Wn b);have C:=Q;rw[B,lx,I] at C;simp only at C;have F:=JW X (by omega) _ C;subst F;obtain⟨h3,q,u,f⟩:=rY y m Q;rw[M] at u;obtain⟨t,u⟩:=CC u;injection u with s o;subst s o t;exact⟨_,l,by omega,m,by rw[mI m];exact M,f,z⟩
theorem sI{E:Ev}(Q:kI We L 0=We)(K:fe L 0 []=S r){s t:Ms}(R:yZ L s)(hi:s.at'<Wn L)(h:gw L E s=S t): yZ L t:=by
 obtain⟨C,ls,e,j,l⟩:=R.ex;obtain⟨h',V,d,F⟩:=rY K hi e;unfold gw at h;rw[mI hi] at h;split at h
 .cases h
 .split at h
  .rename_i u;rw[u] at d;obtain⟨W,d⟩:=zx d;injection d with y z;subst y z;split at h
   .cases h
   .rename_i n T G;rw[G] at j;simp only[Tr] at j;split at h
    .obtain⟨m,X,m2,m3,m4,x,m6⟩:=skip Q K hi u e;injection h with h;subst h;rw[X];exact⟨by simp;omega,C-1,ls,x,by simp;omega,l⟩
    .injection h with h;subst h;exact⟨by simp;omega,C-1,ls++[C-1],F,by simp;omega,by omega,hi,by rw[mI hi];exact u,C-1,ls,O,F,l⟩
  .split at h
   .rename_i b u;rw[u] at d;split at h
    .cases h
    .rename_i k a rr I;rw[I] at l;obtain⟨k1,q,f,h0,o,rfl,M,A⟩:=l;obtain⟨P,d⟩:=CC d;injection d with y z;subst y z P;split at h
     .injection h with h;subst h;exact⟨by simp;omega,_,_,M,j,by omega,q,f,_,_,O,M,A⟩
     .injection h with h;subst h;exact⟨by simp;omega,_,_,F,j,A⟩
   .rename_i b B;obtain⟨T,g,h⟩:=VS.1 h;subst h;obtain⟨n,m,ht,hn,P,d⟩:=vO b B d;injection d with y z;subst y z;obtain⟨w1,w2⟩:=Kr b B ht g;exact⟨by simp;omega,_,_,F,by simp only;rw[w2,j],l⟩
theorem NB(L:List (List UInt8))(f:Nat):yZ L ⟨0,f,[],[]⟩:=⟨Tp _,0,[],by simp[fe],O,O⟩
theorem Ja(b:fe L 0 []=S (1,[])){s:Ms}(j:yZ L s)(hi:Wn L<=s.at'): Wn s.T=1:=by
 obtain⟨l,ls,e,m,u⟩:=j.ex;rw[Ur hi,b] at e;injection e with e;injection e with e1 e2;omega
end Sp
section
structure jx (w:V5) (M:Nat) (code:V6) (at' fuel:Nat) (E:Sp.Ev) (T:List Int) (loops:V6):Prop where
 c0:w.cell? ⟨M,0,U⟩=S code
 c1:w.cell? ⟨M,1,U⟩=S (Z Y at')
 c2:w.cell? ⟨M,2,U⟩=S (Z Y fuel)
 e0:w.cell? ⟨M,3,U⟩=S (Z Y E.value)
 e1:w.cell? ⟨M,4,U⟩=S (Z Y E.jf)
 e2:w.cell? ⟨M,5,U⟩=S (Z Y E.iH)
 e3:w.cell? ⟨M,6,U⟩=S (Z Y E.step)
 e4:w.cell? ⟨M,7,U⟩=S (Z Y E.id)
 e5:w.cell? ⟨M,8,U⟩=S (Z Y E.deg)
 e6:w.cell? ⟨M,9,U⟩=S (Z Y E.all)
 e7:w.cell? ⟨M,10,U⟩=S (Z Y E.xB)
 e8:w.cell? ⟨M,11,U⟩=S (Z Y E.weight)
 st:∀j,j<16->∃n:Int,w.cell? ⟨M,12+j,U⟩=S (Z Y n)
 sv:∀j (hj:j<Wn T),w.cell? ⟨M,12+(Wn T-1-j),U⟩=S (Z Y T[j])
 hh:w.cell? ⟨M,28,U⟩=S (Z Y (Wn T))
 ll:w.cell? ⟨M,29,U⟩=S loops
 dr:w.cell? ⟨M,30,U⟩=S (.bool Wg)
 fz:∀j,w.frozen? ⟨M,j,U⟩=Wg
 le:Wn T<=16
variable {M fuel at':Nat}{w:V5}{loops code:V6}{T:List Int}
theorem jx.lt{E:Sp.Ev}(hd:jx w M code at' fuel E T loops): M<w.heap.size:=Tu w _ hd.c0
theorem jx.drew{E:Sp.Ev}(h:jx w M code at' fuel E T loops): jx w.drew M code at' fuel E T loops:=⟨h.c0,h.c1,h.c2,h.e0,h.e1,h.e2,h.e3,h.e4,h.e5,h.e6,h.e7,h.e8,h.st,h.sv,h.hh,h.ll,h.dr,h.fz,h.le⟩
theorem jx.drewN{E:Sp.Ev}(h:jx w M code at' fuel E T loops)(n:Nat): jx (w.drewN n) M code at' fuel E T loops:=⟨h.c0,h.c1,h.c2,h.e0,h.e1,h.e2,h.e3,h.e4,h.e5,h.e6,h.e7,h.e8,h.st,h.sv,h.hh,h.ll,h.dr,h.fz,h.le⟩
theorem eD.drewN{w':V5}(h:eD M w w')(n:Nat): eD M w (w'.drewN n):=⟨h.1,h.2,h.os,h.tape,h.output⟩
theorem jx.push{E:Sp.Ev}(h:jx w M code at' fuel E T loops)(u:Wn T<16)(v:Int):jx ((w.setCell ⟨M,12+Wn T,U⟩ (Z Y v)).setCell ⟨M,28,U⟩ (Z Y ((Wn T+1:Nat):Int))) M code at' fuel E (v::T) loops:=by
 have b:∀j,j<12\/28<j->((w.setCell ⟨M,12+Wn T,U⟩ (Z Y v)).setCell ⟨M,28,U⟩ (Z Y ((Wn T+1:Nat):Int))).cell? ⟨M,j,U⟩=w.cell? ⟨M,j,U⟩:=λj m=>by
  rw[cW (by omega),cW (by omega)]
 obtain⟨y,l⟩:=h.st (Wn T) u;refine⟨(b 0 (by omega)).trans h.c0,(b 1 (by omega)).trans h.c1,(b 2 (by omega)).trans h.c2,(b 3 (by omega)).trans h.e0,(b 4 (by omega)).trans h.e1,(b 5 (by omega)).trans h.e2,(b 6 (by omega)).trans h.e3,(b 7 (by omega)).trans h.e4,(b 8 (by omega)).trans h.e5,(b 9 (by omega)).trans h.e6,(b 10 (by omega)).trans h.e7,(b 11 (by omega)).trans h.e8,λj m=>?_,λj m=>?_,?_,(b 29 (by omega)).trans h.ll,(b 30 (by omega)).trans h.dr,λj=>?_,by simp;omega⟩
 .rw[cW (by omega)];by_cases e:Wn T=j
  .subst e;exact⟨v,T0 _ _ _ l⟩
  .rw[cW (by omega)];exact h.st j m
 .simp only[Tr] at m;rw[Tr,cW (by omega)];cases j with
  |zero =>
   rw[show (Wn T)+1-1-0=Wn T by omega];exact T0 _ _ _ l
  |succ j =>
   rw[show (Wn T)+1-1-(j+1)=Wn T-1-j by omega,cW (by omega)];exact h.sv j (by omega)
 .have r:(w.setCell ⟨M,12+Wn T,U⟩ (Z Y v)).cell? ⟨M,28,U⟩=S (Z Y (Wn T)):=(cW (by omega)).trans h.hh;exact T0 _ _ _ r
 .rw[TX,TX];exact h.fz j
theorem jx.pop{E:Sp.Ev}{v:Int}(h:jx w M code at' fuel E (v::T) loops):jx (w.setCell ⟨M,28,U⟩ (Z Y (Wn T:Int))) M code at' fuel E T loops/\w.cell? ⟨M,12+Wn T,U⟩=S (Z Y v):=by
 have b:∀j,j≠28->(w.setCell ⟨M,28,U⟩ (Z Y (Wn T:Int))).cell? ⟨M,j,U⟩=w.cell? ⟨M,j,U⟩:=λj e=>cW (by omega)
 have l:=h.le;simp only[Tr] at l;refine⟨⟨(b 0 (by omega)).trans h.c0,(b 1 (by omega)).trans h.c1,(b 2 (by omega)).trans h.c2,(b 3 (by omega)).trans h.e0,(b 4 (by omega)).trans h.e1,(b 5 (by omega)).trans h.e2,(b 6 (by omega)).trans h.e3,(b 7 (by omega)).trans h.e4,(b 8 (by omega)).trans h.e5,(b 9 (by omega)).trans h.e6,(b 10 (by omega)).trans h.e7,(b 11 (by omega)).trans h.e8,λj e=>?_,λj e=>?_,T0 _ _ _ h.hh,(b 29 (by omega)).trans h.ll,(b 30 (by omega)).trans h.dr,λj=>?_,by omega⟩,?_⟩
 .rw[b _ (by omega)];exact h.st j e
 .rw[b _ (by omega)];have:=h.sv (j+1) (by simp;omega);simp only[Tr,List.getElem_cons_succ] at this;rw[show (Wn T)+1-1-(j+1)=Wn T-1-j by omega] at this;exact this
 .rw[TX];exact h.fz j
 .have:=h.sv 0 (by simp);simp only[Tr,List.getElem_cons_zero] at this;rw[show (Wn T)+1-1-0=Wn T by omega] at this;exact this
theorem jY(v:Int)(M at' fuel:Nat)(E:Sp.Ev)(T:List Int)(code loops:V6)(w:V5)(hd:jx w M code at' fuel E T loops)(b:Wn T<16):V7 prog 162 #[V9 (S ⟨M,0,U⟩),Z Y v] w λe j=>e=Wd (Wb #[])/\jx j M code at' fuel E (v::T) loops/\eD M w j:=by
 have m:=hd.hh;obtain⟨x,r⟩:=hd.st (Wn T) b;have u:=hd.fz (12+Wn T);have y:=hd.fz 28;have l:=cU (hd.push b v);generalize (Wn T)=h at *;have z:(((h:Nat):Int) == 16)=Wg:=Tt.2 (by omega);have A:(0:Int)<=(h:Int):=TS _;have B:(h:Int)<(16:Int):=by omega
 clear hd;go_enter func162,ntmps162;go_wp2
 go_region
 go_wp2;exact Tm (Tl O _ _ _) O ⟨O,(cT l).drew,(((eD.refl M w).set _ _).set _ _).drew⟩
theorem qV(v:Int)(M at' fuel:Nat)(E:Sp.Ev)(T:List Int)(code loops:V6)(w:V5)(hd:jx w M code at' fuel E (v::T) loops):V7 prog 184 #[V9 (S ⟨M,0,U⟩)] w λe l=>e=Wd (Z Y v)/\jx l M code at' fuel E T loops/\eD M w l:=by
 have b:=hd.hh;have u:=hd.fz 28;have y:=hd.dr;obtain⟨m,r⟩:=hd.pop;have z:=cU m;have j:=hd.le;simp only[Tr] at b j;clear hd m;generalize (Wn T)=h at *;have B:((((h+1:Nat)):Int) == 0)=Wg:=Tt.2 (by omega);have C:((h+1:Nat):Int)-1=(h:Int):=by omega
 have F:(0:Int)<=(h:Int):=TS _;have G:(h:Int)<(16:Int):=by omega
 go_enter func184,ntmps184;go_wp2;have I:(w.setCell ⟨M,28,U⟩ (Z Y (h:Int))).cell? ⟨M,28,U⟩=S (Z Y (h:Int)):=T0 _ _ _ b;have K:(w.setCell ⟨M,28,U⟩ (Z Y (h:Int))).cell? ⟨M,12+h,U⟩=S (Z Y v):=(cW (by omega)).trans r;have A:=cU ((eD.refl M w).set 28 (Z Y (h:Int)));generalize w.setCell ⟨M,28,U⟩ (Z Y (h:Int))=W at *;clear b u y r
 go_quiet (fail)
 go_wp2;exact Tj (v := Z Y v) (by simp[results,results184,go_sem]) O ⟨O,(cT z).drewN _,(cT A).drewN _⟩
theorem kD(a b:Int)(M at' fuel:Nat)(E:Sp.Ev)(T:List Int)(code loops:V6)(w:V5)(hd:jx w M code at' fuel E (b::a::T) loops):V7 prog 172 #[V9 (S ⟨M,0,U⟩)] w λe u=>e=Wd (Wb #[Z Y a,Z Y b])/\jx u M code at' fuel E T loops/\eD M w u:=by
 go_enter func172,ntmps172;go_wp2_with fail;refine(qV b M at' fuel E (a::T) code loops w hd).mono ?_;rintro e y ⟨rfl,j,l⟩;go_wp2_with fail;refine(qV a M at' fuel E T code loops y j).mono ?_;rintro e z ⟨rfl,m,r⟩;go_wp2;exact Tj (v := Wb #[Z Y a,Z Y b]) (by simp[results,results172,go_sem]) O ⟨O,m,l.trans r⟩
theorem Jw(a b:Int)(M at' fuel:Nat)(E:Sp.Ev)(T:List Int)(code loops:V6)(w:V5)(hd:jx w M code at' fuel E (b::a::T) loops)(hb:¬b=0):V7 prog 176 #[V9 (S ⟨M,0,U⟩)] w λe m=>e=Wd (Wb #[Z Y a,Z Y b])/\jx m M code at' fuel E T loops/\eD M w m:=by
 have r:(b == 0)=Wg:=Tt.2 hb;go_enter func176,ntmps176;go_wp2_with fail;refine(kD a b M at' fuel E T code loops w hd).mono ?_;rintro e u ⟨rfl,j,l⟩;go_wp2;exact Tj (v := Wb #[Z Y a,Z Y b]) (by simp[results,results176,go_sem]) O ⟨O,j,l⟩
theorem JD(a:Int)(M at' fuel:Nat)(E:Sp.Ev)(T:List Int)(code loops:V6)(w:V5)(hd:jx w M code at' fuel E (0::a::T) loops)(j:1≠M)(u:TypeId)(p:V6)(he:w.cell? ⟨1,0,U⟩=S (.iface u p)):V7 prog 176 #[V9 (S ⟨M,0,U⟩)] w λe l=>e=.panicked [{ v := .iface u p,recovered:=false }]/\eD M w l:=by
 go_enter func176,ntmps176;go_wp2_with fail;refine(kD a 0 M at' fuel E T code loops w hd).mono ?_;rintro e y ⟨rfl,m,b⟩;have r:=(b.cell j).trans he;go_wp2;exact⟨O,O,b⟩
theorem ND(q:Bool)(M at' fuel:Nat)(E:Sp.Ev)(T:List Int)(code loops:V6)(w:V5)(hd:jx w M code at' fuel E T loops)(l:Wn T<16):V7 prog 179 #[V9 (S ⟨M,0,U⟩),.bool q] w λe m=>e=Wd (Wb #[])/\jx m M code at' fuel E ((if q=We then 1 else 0)::T) loops/\eD M w m:=by
 cases q with
 |true =>
  go_enter func179,ntmps179;go_wp2_with fail;refine(jY 1 M at' fuel E T code loops w hd l).mono ?_;rintro e r ⟨rfl,b,j⟩;go_wp2;exact Tm (Tl O _ _ _) O ⟨O,b,j⟩
 |false =>
  go_enter func179,ntmps179;go_wp2_with fail;refine(jY 0 M at' fuel E T code loops w hd l).mono ?_;rintro e r ⟨rfl,b,j⟩;go_wp2;exact Tm (Tl O _ _ _) O ⟨O,b,j⟩
end
section
def Ky(o:Option (List Int))(M m j:Nat)(E:Sp.Ev)(l b:V6)(u:TypeId)(p:V6)(w:V5)(e:Ending)(w':V5):Prop:=eD M w w'/\match o with
  |some T=>e=Wd (Wb #[])/\jx w' M l m j E T b
  |none=>e=.panicked [{ v := .iface u p,recovered:=false }]
structure Kq (M:Nat) (u:TypeId) (p:V6) (w:V5):Prop where
 hM:1≠M
 he:w.cell? ⟨1,0,U⟩=S (.iface u p)
def ia(F:Nat)(x:List UInt8)(n m:Nat):Prop := ∀(M l j:Nat) (b:Sp.Ev) (T:List Int) (code e:V6) (u:TypeId) (p:V6) (w:V5),jx w M code l j b T e->Kq M u p w->n<=Wn T->Wn T-n+m<=16->
 V7 prog F #[V9 (S ⟨M,0,U⟩)] w (Ky (Sp.kV b x T) M l j b code e u p w)
theorem mi{T:List Int}(h:2<=Wn T):∃b a r,T=b::a::r:=by
 match T,h with
 |b::a::r,_=>exact⟨b,a,r,rfl⟩
theorem DU{T:List Int}(h:1<=Wn T):∃a r,T=a::r:=by
 match T,h with
 |a::r,_=>exact⟨a,r,rfl⟩
theorem JH{T:List Int}(h:3<=Wn T):∃c b a r,T=c::b::a::r:=by
 match T,h with
 |c::b::a::r,_=>exact⟨c,b,a,r,rfl⟩
namespace Sp
theorem lT{E:Ev}{x:List UInt8}{T:List Int}(b:number x=U)(h:x∈jR\/x=[119,101,105,103,104,116]):kV E x T=S (wG E x::T):=by
 unfold kV;rw[b];simp only;rw[Tg h]
theorem jE{E:Ev}{x:List UInt8}{a b:Int}{r:List Int}(e:number x=U)(h1:¬(x∈jR\/x=[119,101,105,103,104,116]))(h:x∈oS):kV E x (b::a::r)=(tz x a b).map (· :: r):=by
 unfold kV;rw[e];simp only;rw[Tf h1,Tg h]
end Sp
theorem RP:ia 161 [118,97,108,117,101] 0 1:=by
 intro M r l b T m j u p w hd A B C;have F:=hd.e0;rw[Sp.lT (by decide) (by decide),show Sp.wG b [118,97,108,117,101]=b.value by simp[Sp.wG]];go_enter func161,ntmps161;go_wp2_with fail;refine(jY b.value M r l b T m j w hd (by omega)).mono ?_;rintro e G ⟨rfl,y,z⟩;go_wp2;exact Tm (Tl O _ _ _) O ⟨z,O,y⟩
theorem RM:ia 163 [111,108,100] 0 1:=by
 intro M r l b T m j u p w hd A B C;have F:=hd.e7;rw[Sp.lT (by decide) (by decide),show Sp.wG b [111,108,100]=b.xB by simp[Sp.wG]];go_enter func163,ntmps163;go_wp2_with fail;refine(jY b.xB M r l b T m j w hd (by omega)).mono ?_;rintro e G ⟨rfl,y,z⟩;go_wp2;exact Tm (Tl O _ _ _) O ⟨z,O,y⟩
theorem Rn:ia 164 [105,110] 0 1:=by
 intro M r l b T m j u p w hd A B C;have F:=hd.e1;rw[Sp.lT (by decide) (by decide),show Sp.wG b [105,110]=b.jf by simp[Sp.wG]];go_enter func164,ntmps164;go_wp2_with fail;refine(jY b.jf M r l b T m j w hd (by omega)).mono ?_;rintro e G ⟨rfl,y,z⟩;go_wp2;exact Tm (Tl O _ _ _) O ⟨z,O,y⟩
theorem RE:ia 165 [103,111,116] 0 1:=by
 intro M r l b T m j u p w hd A B C;have F:=hd.e2;rw[Sp.lT (by decide) (by decide),show Sp.wG b [103,111,116]=b.iH by simp[Sp.wG]];go_enter func165,ntmps165;go_wp2_with fail;refine(jY b.iH M r l b T m j w hd (by omega)).mono ?_;rintro e G ⟨rfl,y,z⟩;go_wp2;exact Tm (Tl O _ _ _) O ⟨z,O,y⟩
theorem RL:ia 166 [115,116,101,112] 0 1:=by
 intro M r l b T m j u p w hd A B C;have F:=hd.e3;rw[Sp.lT (by decide) (by decide),show Sp.wG b [115,116,101,112]=b.step by simp[Sp.wG]];go_enter func166,ntmps166;go_wp2_with fail;refine(jY b.step M r l b T m j w hd (by omega)).mono ?_;rintro e G ⟨rfl,y,z⟩;go_wp2;exact Tm (Tl O _ _ _) O ⟨z,O,y⟩
theorem RY:ia 167 [105,100] 0 1:=by
 intro M r l b T m j u p w hd A B C;have F:=hd.e4;rw[Sp.lT (by decide) (by decide),show Sp.wG b [105,100]=b.id by simp[Sp.wG]];go_enter func167,ntmps167;go_wp2_with fail;refine(jY b.id M r l b T m j w hd (by omega)).mono ?_;rintro e G ⟨rfl,y,z⟩;go_wp2;exact Tm (Tl O _ _ _) O ⟨z,O,y⟩
theorem RH:ia 168 [100,101,103] 0 1:=by
 intro M r l b T m j u p w hd A B C;have F:=hd.e5;rw[Sp.lT (by decide) (by decide),show Sp.wG b [100,101,103]=b.deg by simp[Sp.wG]];go_enter func168,ntmps168;go_wp2_with fail;refine(jY b.deg M r l b T m j w hd (by omega)).mono ?_;rintro e G ⟨rfl,y,z⟩;go_wp2;exact Tm (Tl O _ _ _) O ⟨z,O,y⟩
theorem Ra:ia 169 [97,108,108] 0 1:=by
 intro M r l b T m j u p w hd A B C;have F:=hd.e6;rw[Sp.lT (by decide) (by decide),show Sp.wG b [97,108,108]=b.all by simp[Sp.wG]];go_enter func169,ntmps169;go_wp2_with fail;refine(jY b.all M r l b T m j w hd (by omega)).mono ?_;rintro e G ⟨rfl,y,z⟩;go_wp2;exact Tm (Tl O _ _ _) O ⟨z,O,y⟩
theorem RF:ia 170 [119,101,105,103,104,116] 0 1:=by
 intro M r l b T m j u p w hd A B C;have F:=hd.e8;rw[Sp.lT (by decide) (by decide),show Sp.wG b [119,101,105,103,104,116]=b.weight by simp[Sp.wG]];go_enter func170,ntmps170;go_wp2_with fail;refine(jY b.weight M r l b T m j w hd (by omega)).mono ?_;rintro e G ⟨rfl,y,z⟩;go_wp2;exact Tm (Tl O _ _ _) O ⟨z,O,y⟩
theorem PB:ia 171 [43] 2 1:=by
 intro M z m j T y l u p w hd L G I;obtain⟨b,a,r,rfl⟩:=mi G;simp only[Tr] at I;rw[Sp.jE (by decide) (by decide) (by decide),show Sp.tz [43] a b=S (wrap64 (a+b)) by simp[Sp.tz]];go_enter func171,ntmps171;go_wp2_with fail;refine(kD a b M z m j r y l w hd).mono ?_;rintro e K ⟨rfl,A,B⟩;go_wp2_with fail;refine(jY (wrap64 (a+b)) M z m j r y l K A (by omega)).mono ?_;rintro e P ⟨rfl,C,F⟩;go_wp2;exact Tm (Tl O _ _ _) O ⟨B.trans F,O,C⟩
theorem P6:ia 173 [45] 2 1:=by
 intro M z m j T y l u p w hd L G I;obtain⟨b,a,r,rfl⟩:=mi G;simp only[Tr] at I;rw[Sp.jE (by decide) (by decide) (by decide),show Sp.tz [45] a b=S (wrap64 (a-b)) by simp[Sp.tz]];go_enter func173,ntmps173;go_wp2_with fail;refine(kD a b M z m j r y l w hd).mono ?_;rintro e K ⟨rfl,A,B⟩;go_wp2_with fail;refine(jY (wrap64 (a-b)) M z m j r y l K A (by omega)).mono ?_;rintro e P ⟨rfl,C,F⟩;go_wp2;exact Tm (Tl O _ _ _) O ⟨B.trans F,O,C⟩
theorem Oi:ia 174 [42] 2 1:=by
 intro M z m j T y l u p w hd L G I;obtain⟨b,a,r,rfl⟩:=mi G;simp only[Tr] at I;rw[Sp.jE (by decide) (by decide) (by decide),show Sp.tz [42] a b=S (wrap64 (a*b)) by simp[Sp.tz]];go_enter func174,ntmps174;go_wp2_with fail;refine(kD a b M z m j r y l w hd).mono ?_;rintro e K ⟨rfl,A,B⟩;go_wp2_with fail;refine(jY (wrap64 (a*b)) M z m j r y l K A (by omega)).mono ?_;rintro e P ⟨rfl,C,F⟩;go_wp2;exact Tm (Tl O _ _ _) O ⟨B.trans F,O,C⟩
end
theorem Pu:ia 175 [47] 2 1:=by
 intro M z m j T y l u p w hd I L P;obtain⟨b,a,r,rfl⟩:=mi L;simp only[Tr] at P;rw[Sp.jE (by decide) (by decide) (by decide)];by_cases B:b=0
 .subst B;rw[show Sp.tz [47] a 0=U by simp[Sp.tz]];go_enter func175,ntmps175;go_wp2_with fail;refine(JD a M z m j r y l w hd I.hM u p I.he).mono ?_;rintro e K ⟨rfl,A⟩;go_wp2;exact⟨O,A,O⟩
 .rw[show Sp.tz [47] a b=S (wrap64 (a.tdiv b)) by simp[Sp.tz,B]];go_enter func175,ntmps175;go_wp2_with fail;refine(Jw a b M z m j r y l w hd B).mono ?_;rintro e K ⟨rfl,C,A⟩;go_wp2_with fail;refine(jY (wrap64 (a.tdiv b)) M z m j r y l K C (by omega)).mono ?_;rintro e Q ⟨rfl,F,G⟩;go_wp2;exact Tm (Tl O _ _ _) O ⟨A.trans G,O,F⟩
theorem OQ:ia 177 [37] 2 1:=by
 intro M z m j T y l u p w hd I L P;obtain⟨b,a,r,rfl⟩:=mi L;simp only[Tr] at P;rw[Sp.jE (by decide) (by decide) (by decide)];by_cases B:b=0
 .subst B;rw[show Sp.tz [37] a 0=U by simp[Sp.tz]];go_enter func177,ntmps177;go_wp2_with fail;refine(JD a M z m j r y l w hd I.hM u p I.he).mono ?_;rintro e K ⟨rfl,A⟩;go_wp2;exact⟨O,A,O⟩
 .rw[show Sp.tz [37] a b=S (a.tmod b) by simp[Sp.tz,B]];go_enter func177,ntmps177;go_wp2_with fail;refine(Jw a b M z m j r y l w hd B).mono ?_;rintro e K ⟨rfl,C,A⟩;go_wp2_with fail;refine(jY (a.tmod b) M z m j r y l K C (by omega)).mono ?_;rintro e Q ⟨rfl,F,G⟩;go_wp2;exact Tm (Tl O _ _ _) O ⟨A.trans G,O,F⟩
theorem Qi:ia 178 [60] 2 1:=by
 intro M z m j T y l u p w hd P I K;obtain⟨b,a,r,rfl⟩:=mi I;simp only[Tr] at K;rw[Sp.jE (by decide) (by decide) (by decide),show Sp.tz [60] a b=S (if (decide (a<b))=We then 1 else 0) by simp[Sp.tz]];generalize B:(if (decide (a<b))=We then (1:Int) else 0)=v;replace B:=cU B;go_enter func178,ntmps178;go_wp2_with fail;refine(kD a b M z m j r y l w hd).mono ?_;rintro e L ⟨rfl,C,F⟩;go_wp2_with fail;refine(ND (decide (a<b)) M z m j r y l L C (by omega)).mono ?_;rintro e Q ⟨rfl,A,G⟩;rw[cT B] at A;go_wp2;exact Tm (Tl O _ _ _) O ⟨F.trans G,O,A⟩
theorem Qd:ia 180 [61] 2 1:=by
 intro M z m j T y l u p w hd P I K;obtain⟨b,a,r,rfl⟩:=mi I;simp only[Tr] at K;rw[Sp.jE (by decide) (by decide) (by decide),show Sp.tz [61] a b=S (if (a == b)=We then 1 else 0) by simp[Sp.tz]];generalize B:(if (a == b)=We then (1:Int) else 0)=v;replace B:=cU B;go_enter func180,ntmps180;go_wp2_with fail;refine(kD a b M z m j r y l w hd).mono ?_;rintro e L ⟨rfl,C,F⟩;go_wp2_with fail;refine(ND (a == b) M z m j r y l L C (by omega)).mono ?_;rintro e Q ⟨rfl,A,G⟩;rw[cT B] at A;go_wp2;exact Tm (Tl O _ _ _) O ⟨F.trans G,O,A⟩
theorem Ol:ia 181 [109,105,110] 2 1:=by
 intro M z m j T y l u p w hd L G I;obtain⟨b,a,r,rfl⟩:=mi G;simp only[Tr] at I;rw[Sp.jE (by decide) (by decide) (by decide),show Sp.tz [109,105,110] a b=S (min a b) by simp[Sp.tz]];go_enter func181,ntmps181;go_wp2_with fail;refine(kD a b M z m j r y l w hd).mono ?_;rintro e K ⟨rfl,A,B⟩;go_wp2_with fail;refine(jY (min a b) M z m j r y l K A (by omega)).mono ?_;rintro e P ⟨rfl,C,F⟩;go_wp2;exact Tm (Tl O _ _ _) O ⟨B.trans F,O,C⟩
theorem Ql:ia 182 [109,97,120] 2 1:=by
 intro M z m j T y l u p w hd L G I;obtain⟨b,a,r,rfl⟩:=mi G;simp only[Tr] at I;rw[Sp.jE (by decide) (by decide) (by decide),show Sp.tz [109,97,120] a b=S (max a b) by simp[Sp.tz]];go_enter func182,ntmps182;go_wp2_with fail;refine(kD a b M z m j r y l w hd).mono ?_;rintro e K ⟨rfl,A,B⟩;go_wp2_with fail;refine(jY (max a b) M z m j r y l K A (by omega)).mono ?_;rintro e P ⟨rfl,C,F⟩;go_wp2;exact Tm (Tl O _ _ _) O ⟨B.trans F,O,C⟩
theorem PQ:ia 183 [100,117,112] 1 2:=by
 intro M y l b T m j u p w hd Q I K;obtain⟨a,r,rfl⟩:=DU I;simp only[Tr] at K;rw[show Sp.kV b [100,117,112] (a::r)=S (a::a::r) by unfold Sp.kV;rw[show Sp.number [100,117,112]=U by decide];simp[Sp.jR,Sp.oS]];go_enter func183,ntmps183;go_wp2_with fail;refine(qV a M y l b r m j w hd).mono ?_;rintro e L ⟨rfl,z,A⟩;go_wp2_with fail;refine(jY a M y l b r m j L z (by omega)).mono ?_;rintro e P ⟨rfl,B,C⟩;go_wp2_with fail;refine(jY a M y l b (a::r) m j P B (by simp;omega)).mono ?_;rintro e w3 ⟨rfl,F,G⟩;go_wp2;exact Tm (Tl O _ _ _) O ⟨(A.trans C).trans G,O,F⟩
theorem Qf:ia 185 [100,114,111,112] 1 0:=by
 intro M y l b T m j u p w hd F B C;obtain⟨a,r,rfl⟩:=DU B;simp only[Tr] at C;rw[show Sp.kV b [100,114,111,112] (a::r)=S (r) by unfold Sp.kV;rw[show Sp.number [100,114,111,112]=U by decide];simp[Sp.jR,Sp.oS]];go_enter func185,ntmps185;go_wp2_with fail;refine(qV a M y l b r m j w hd).mono ?_;rintro e G ⟨rfl,z,A⟩;go_wp2;exact Tm (Tl O _ _ _) O ⟨A,O,z⟩
theorem Ot:ia 186 [115,119,97,112] 2 2:=by
 intro M z m j T y l u p w hd R K L;obtain⟨b,a,r,rfl⟩:=mi K;simp only[Tr] at L;rw[show Sp.kV j [115,119,97,112] (b::a::r)=S (a::b::r) by unfold Sp.kV;rw[show Sp.number [115,119,97,112]=U by decide];simp[Sp.jR,Sp.oS]];go_enter func186,ntmps186;go_wp2_with fail;refine(kD a b M z m j r y l w hd).mono ?_;rintro e P ⟨rfl,A,B⟩;go_wp2_with fail;refine(jY b M z m j r y l P A (by omega)).mono ?_;rintro e Q ⟨rfl,C,F⟩;go_wp2_with fail;refine(jY a M z m j (b::r) y l Q C (by simp;omega)).mono ?_;rintro e w3 ⟨rfl,G,I⟩;go_wp2;exact Tm (Tl O _ _ _) O ⟨(B.trans F).trans I,O,G⟩
theorem P3:ia 187 [111,118,101,114] 2 3:=by
 intro M z m j T y l u p w hd W P Q;obtain⟨b,a,r,rfl⟩:=mi P;simp only[Tr] at Q;rw[show Sp.kV j [111,118,101,114] (b::a::r)=S (a::b::a::r) by unfold Sp.kV;rw[show Sp.number [111,118,101,114]=U by decide];simp[Sp.jR,Sp.oS]];go_enter func187,ntmps187;go_wp2_with fail;refine(kD a b M z m j r y l w hd).mono ?_;rintro e R ⟨rfl,A,B⟩;go_wp2_with fail;refine(jY a M z m j r y l R A (by omega)).mono ?_;rintro e V ⟨rfl,C,F⟩;go_wp2_with fail;refine(jY b M z m j (a::r) y l V C (by simp;omega)).mono ?_;rintro e w3 ⟨rfl,G,I⟩;go_wp2_with fail;refine(jY a M z m j (b::a::r) y l w3 G (by simp;omega)).mono ?_;rintro e X ⟨rfl,K,L⟩;go_wp2;exact Tm (Tl O _ _ _) O ⟨((B.trans F).trans I).trans L,O,K⟩
theorem Nv(a b c v:Int)(M u l:Nat)(E:Sp.Ev)(r:List Int)(m j:V6)(w:V5)(hd:jx w M m u l E (c::b::a::r) j)(R:Hid ((if a≠0 then b else c)=v)):V7 prog 189 #[V9 (S ⟨M,0,U⟩)] w λe T=>e=Wd (Wb #[])/\jx T M m u l E (v::r) j/\eD M w T:=by
 have K:=hd.le;simp only[Tr] at K;by_cases I:a=0
 .have L:(a != 0)=Wg:=by simp[I]
  have y:c=v:=by rw[<-cT R,Tf (by simp[I])]
  subst y;go_enter func189,ntmps189;go_wp2_with fail;refine(kD b c M u l E (a::r) m j w hd).mono ?_;rintro e P ⟨rfl,z,A⟩;go_wp2_with fail;refine(qV a M u l E r m j P z).mono ?_;rintro e Q ⟨rfl,B,C⟩;go_wp2_with fail;refine(jY c M u l E r m j Q B (by omega)).mono ?_;rintro e w3 ⟨rfl,F,G⟩;go_wp2;exact Tm (Tl O _ _ _) O ⟨O,F,(A.trans C).trans G⟩
 .have L:(a != 0)=We:=by simp[I]
  have y:b=v:=by rw[<-cT R,Tg I]
  subst y;go_enter func189,ntmps189;go_wp2_with fail;refine(kD b c M u l E (a::r) m j w hd).mono ?_;rintro e P ⟨rfl,z,A⟩;go_wp2_with fail;refine(qV a M u l E r m j P z).mono ?_;rintro e Q ⟨rfl,B,C⟩;go_wp2_with fail;refine(jY b M u l E r m j Q B (by omega)).mono ?_;rintro e w3 ⟨rfl,F,G⟩;go_wp2;exact Tm (Tl O _ _ _) O ⟨O,F,(A.trans C).trans G⟩
theorem Ow:ia 188 [63] 3 1:=by
 intro M z m j T y l u p w hd G F I;obtain⟨c,b,a,r,rfl⟩:=JH F;rw[show Sp.kV j [63] (c::b::a::r)=S ((if a≠0 then b else c)::r) by unfold Sp.kV;rw[show Sp.number [63]=U by decide];simp[Sp.jR,Sp.oS]];generalize A:(if a≠0 then b else c)=v;replace A:=cU A;go_enter func188,ntmps188;go_wp2_with fail;refine(Nv a b c v M z m j r y l w hd A).mono ?_;rintro e K ⟨rfl,B,C⟩;go_wp2;exact Tm (Tl O _ _ _) O ⟨C,O,B⟩
theorem MG{x:List UInt8}{n:Int}(z:Sp.number x=S n)(B M m j:Nat)(E:Sp.Ev)(T:List Int)(l b:V6)(u:TypeId)(p:V6)(w:V5)(hd:jx w M l m j E T b)(A:Wn T<16)(C:w.cell? ⟨B,0,U⟩=S (Z Y n)):V7 prog 242 #[V9 (S ⟨M,0,U⟩),V9 (S ⟨B,0,U⟩)] w (Ky (Sp.kV E x T) M m j E l b u p w):=by
 rw[show Sp.kV E x T=S (n::T) by unfold Sp.kV;rw[z]];go_enter func242,ntmps242;go_wp2_with fail;refine(jY n M m j E T l b w hd A).mono ?_;rintro e F ⟨rfl,r,y⟩;go_wp2;exact Tm (Tl O _ _ _) O ⟨y,O,r⟩
theorem Ri:(k:Nat)->k<23->ia (Rz[k]!) (Sp.yP[k]!) (Sp.Sh[k]!).1 (Sp.Sh[k]!).2
 |0,_=>RP
 |1,_=>RM
 |2,_=>Rn
 |3,_=>RE
 |4,_=>RL
 |5,_=>RY
 |6,_=>RH
 |7,_=>Ra
 |8,_=>RF
 |9,_=>PB
 |10,_=>P6
 |11,_=>Oi
 |12,_=>Pu
 |13,_=>OQ
 |14,_=>Qi
 |15,_=>Qd
 |16,_=>Ol
 |17,_=>Ql
 |18,_=>PQ
 |19,_=>Qf
 |20,_=>Ot
 |21,_=>P3
 |22,_=>Ow
 |n+23,h=>absurd h (by omega)
section
variable {M fuel at':Nat}{w:V5}{loops code:V6}{T:List Int}
theorem jx.far{w':V5}{E:Sp.Ev}(h:jx w M code at' fuel E T loops)(b:∀j,w'.cell? ⟨M,j,U⟩=w.cell? ⟨M,j,U⟩)(l:∀j,w'.frozen? ⟨M,j,U⟩=w.frozen? ⟨M,j,U⟩): jx w' M code at' fuel E T loops:=⟨(b _).trans h.c0,(b _).trans h.c1,(b _).trans h.c2,(b _).trans h.e0,(b _).trans h.e1,(b _).trans h.e2,(b _).trans h.e3,(b _).trans h.e4,(b _).trans h.e5,(b _).trans h.e6,(b _).trans h.e7,(b _).trans h.e8,λj e=>by rw[b];exact h.st j e,λj e=>by rw[b];exact h.sv j e,(b _).trans h.hh,(b _).trans h.ll,(b _).trans h.dr,λj=>(l j).trans (h.fz j),h.le⟩
theorem jx.alloc{E:Sp.Ev}(hd:jx w M code at' fuel E T loops)(o:Obj): jx (w.alloc o) M code at' fuel E T loops:=hd.far (λj=>((Th w.heap.size w).alloc V2 o).cell (p:=⟨M,j,U⟩) hd.lt) (λj=>((Th w.heap.size w).alloc V2 o).frozen (p:=⟨M,j,U⟩) hd.lt)
theorem jx.grown{w':V5}{E:Sp.Ev}{b:Option Nat}(hd:jx w M code at' fuel E T loops)(l:w.grownBy w' b)(e:S M≠b): jx w' M code at' fuel E T loops:=hd.far (λj=>l.cell_far ⟨M,j,U⟩ hd.lt e) (λj=>l.frozen_far ⟨M,j,U⟩ hd.lt e)
theorem jx.QM{E:Sp.Ev}(h:jx w M code at' fuel E T loops)(l:V6): jx (w.setCell ⟨M,29,U⟩ l) M code at' fuel E T l:=by
 have b:∀j,j≠29->(w.setCell ⟨M,29,U⟩ l).cell? ⟨M,j,U⟩=w.cell? ⟨M,j,U⟩:=λj e=>cW (by omega)
 have m:=h.le;exact⟨(b _ (by omega)).trans h.c0,(b _ (by omega)).trans h.c1,(b _ (by omega)).trans h.c2,(b _ (by omega)).trans h.e0,(b _ (by omega)).trans h.e1,(b _ (by omega)).trans h.e2,(b _ (by omega)).trans h.e3,(b _ (by omega)).trans h.e4,(b _ (by omega)).trans h.e5,(b _ (by omega)).trans h.e6,(b _ (by omega)).trans h.e7,(b _ (by omega)).trans h.e8,λj e=>by rw[b _ (by omega)];exact h.st j e,λj e=>by rw[b _ (by omega)];exact h.sv j e,(b _ (by omega)).trans h.hh,T0 _ _ _ h.ll,(b _ (by omega)).trans h.dr,λj=>by rw[TX];exact h.fz j,h.le⟩
theorem jx.LD{E:Sp.Ev}(h:jx w M code at' fuel E T loops)(a:Nat): jx (w.setCell ⟨M,1,U⟩ (Z Y a)) M code a fuel E T loops:=by
 have b:∀j,j≠1->(w.setCell ⟨M,1,U⟩ (Z Y a)).cell? ⟨M,j,U⟩=w.cell? ⟨M,j,U⟩:=λj e=>cW (by omega)
 have l:=h.le;exact⟨(b _ (by omega)).trans h.c0,T0 _ _ _ h.c1,(b _ (by omega)).trans h.c2,(b _ (by omega)).trans h.e0,(b _ (by omega)).trans h.e1,(b _ (by omega)).trans h.e2,(b _ (by omega)).trans h.e3,(b _ (by omega)).trans h.e4,(b _ (by omega)).trans h.e5,(b _ (by omega)).trans h.e6,(b _ (by omega)).trans h.e7,(b _ (by omega)).trans h.e8,λj e=>by rw[b _ (by omega)];exact h.st j e,λj e=>by rw[b _ (by omega)];exact h.sv j e,(b _ (by omega)).trans h.hh,(b _ (by omega)).trans h.ll,(b _ (by omega)).trans h.dr,λj=>by rw[TX];exact h.fz j,h.le⟩
theorem jx.Pt{E:Sp.Ev}(h:jx w M code at' fuel E T loops)(a:Nat): jx (w.setCell ⟨M,2,U⟩ (Z Y a)) M code at' a E T loops:=by
 have b:∀j,j≠2->(w.setCell ⟨M,2,U⟩ (Z Y a)).cell? ⟨M,j,U⟩=w.cell? ⟨M,j,U⟩:=λj e=>cW (by omega)
 have l:=h.le;exact⟨(b _ (by omega)).trans h.c0,(b _ (by omega)).trans h.c1,T0 _ _ _ h.c2,(b _ (by omega)).trans h.e0,(b _ (by omega)).trans h.e1,(b _ (by omega)).trans h.e2,(b _ (by omega)).trans h.e3,(b _ (by omega)).trans h.e4,(b _ (by omega)).trans h.e5,(b _ (by omega)).trans h.e6,(b _ (by omega)).trans h.e7,(b _ (by omega)).trans h.e8,λj e=>by rw[b _ (by omega)];exact h.st j e,λj e=>by rw[b _ (by omega)];exact h.sv j e,(b _ (by omega)).trans h.hh,(b _ (by omega)).trans h.ll,(b _ (by omega)).trans h.dr,λj=>by rw[TX];exact h.fz j,h.le⟩
def pY:List (Int × Nat)->List V6
 |[]=>[]
 | (k,h)::r=>Z Y k::Z Y h::pY r
theorem Gl(b:List (Int × Nat)):(pY b).length=Wn b*2:=by
 induction b with
 |nil=>rfl
 |cons h r e=>simp only[pY,Tr,e];omega
theorem sZ(a b:List (Int × Nat)):pY (a++b)=pY a++pY b:=by
 induction a with
 |nil=>rfl
 |cons h r e=>simp[pY,e]
theorem Md(v:Int)(M at' fuel n:Nat)(E:Sp.Ev)(T:List Int)(code x:V6)(y:List V6)(w:V5)(hd:jx w M code at' fuel E (v::T) x)(g:¬v<1)(hn:n<=10000)(R:w.ownsRow (M+1) 313 2 x n y):V7 prog 191 #[V9 (S ⟨M,0,U⟩)] w λe z=>e=Wd (Wb #[])/\∃P,jx z M code at' fuel E T P/\z.ownsRow (M+1) 313 2 P (n+1) (y++[Z Y v,Z Y (Wn T)])/\Below M w z:=by
 obtain⟨V,A,B,C,F⟩:=TN info_loop;have W:(1:Int)<=v:=by omega
 go_enter func191,ntmps191;go_wp2_with fail;refine(qV v M at' fuel E T code x w hd).mono ?_;rintro e r ⟨rfl,j,u⟩;have G:r.ownsRow (M+1) 313 2 x n y:=u.own R;have I:=j.lt;have e1:=j.hh;have e2:=j.ll;have e3:=j.fz 29;have l:S M≠x.ownBlock:=λe=>by have:=(G.lt M e.symm).1;omega
 go_wp2_with fail
 go_region_law ((refine step_append_lies _ (by rfl) _ _ _ (by rfl) (M+1) 313 V _ 2 16 underlying221 A B C F O (by omega) x _ _ (by rfl) ((G.alloc _).drew) ⟨r.heap.size,0,U⟩ 1 1 [Z Y v,Z Y (Wn T:Int)] (by rfl) (by rfl) (Vv (cs := #[Z Y v,Z Y (Wn T:Int)]) (t:=313) (fr:=(0,0)) (Tk r _)) (by simp[Value.oneCell']) (by omega) (by unfold maxLen;omega) (by omega) (by simp;omega) (r.heap.size+1) (by simp) ?_;intro X q K m b s Q;have p:K.cell? ⟨M,29,U⟩=S x:=(b.cell_far ⟨M,29,U⟩ (by simp;omega) l).trans ((j.alloc _).drew).ll;have o:K.frozen? ⟨M,29,U⟩=Wg:=(b.frozen_far ⟨M,29,U⟩ (by simp;omega) l).trans (((j.alloc _).drew).fz 29)))
 all_goals
  have L:=py (((Th M r).alloc (Ub I) _).drew) ((j.alloc _).drew).lt ((G.alloc _).drew) b 29 (J (S ⟨X,0,U⟩) (n+1) q);exact Tm (Tl O _ _ _) O ⟨O,_,(((j.alloc _).drew).grown b l).QM _,((eD.refl M K).set _ _).own m,u.below.trans L⟩
theorem Nn(v:Int)(M at' fuel g N cap m:Nat)(E:Sp.Ev)(T:List Int)(x:V6)(w:V5)(hd:jx w M (J (S ⟨g,0,U⟩) N cap) at' fuel E (v::T) x)(C:v<1)(z:at'<N)(A:g≠M)(l:w.cell? ⟨g,at'*2+1,U⟩=S (Z Y m)):V7 prog 191 #[V9 (S ⟨M,0,U⟩)] w λe u=>e=Wd (Wb #[])/\jx u M (J (S ⟨g,0,U⟩) N cap) m fuel E T x/\eD M w u:=by
 go_enter func191,ntmps191;go_wp2_with fail;refine(qV v M at' fuel E T _ x w hd).mono ?_;rintro e y ⟨rfl,b,r⟩;have F:=b.c0;have G:=b.c1;have I:=b.fz 1;have B:=(r.cell (j:=at'*2+1) A).trans l;have K:(0:Int)<=(at':Int):=TS _;have L:(at':Int)<(N:Int):=by omega
 go_wp2_with fail
 go_region
 all_goals
  go_wp2
  first
  |exact Tj (Tl rfl _ _ _) rfl ⟨rfl,(b.LD m).drew,(r.trans ((eD.refl M y).set _ _)).drew⟩
  |exact Tm (Tl rfl _ _ _) rfl ⟨rfl,(b.LD m).drew,(r.trans ((eD.refl M y).set _ _)).drew⟩
end
theorem QR(k:Int)(M l b n g cap:Nat)(E:Sp.Ev)(T:List Int)(j:V6)(B:List V6)(w:V5)(hd:jx w M j l b E T (J (S ⟨g,0,U⟩) (n+1) cap))(hn:n<=10000)(m:w.ownsRow (M+1) 313 2 (J (S ⟨g,0,U⟩) (n+1) cap) (n+1) (B++[Z Y k,Z Y (Wn T)]))(P:Wn B=n*2)(W:k=1):V7 prog 193 #[V9 (S ⟨M,0,U⟩)] w λe u=>e=Wd (Wb #[])/\jx u M j l b E T (J (S ⟨g,0,U⟩) n cap)/\u.ownsRow (M+1) 313 2 (J (S ⟨g,0,U⟩) n cap) n B/\Below M w u:=by
 subst W;obtain⟨h,Q⟩:∃h,Wn T=h:=⟨_,rfl⟩
 have q0:w.cell? ⟨g,n*2,U⟩=S (Z Y 1):=(m.cellAt (n*2) (by omega)).trans (by rw[Tx (by omega),P];simp);have X:w.cell? ⟨g,n*2+1,U⟩=S (Z Y (Wn T)):=(m.cellAt (n*2+1) (by omega)).trans (by rw[Tx (by omega),P];simp);have q2:=m.frozenAt (n*2);have C:M<g:=(m.lt g O).1;have q:M≠g:=by omega
 have t:g≠M:=by omega
 have R:n+1<=cap:=by
  rcases m.2 with ⟨s,_⟩|⟨g',V,o,hv,hB,hg,r⟩
  .cases s
  .cases hv;exact r.1
 have aa:(n:Int)<=(cap:Int):=by omega
 have ab:n<=cap:=by omega
 have e1:=hd.hh;have e2:=hd.ll;have e3:=hd.fz 29;have g0:((n+1:Nat):Int)-1=(n:Int):=by omega
 have g1:(0:Int)<=(n:Int):=TS _;have g2:(n:Int)<((n+1:Nat):Int):=by omega
 have F:Hid (∀k,(λu=>jx u M j l b E T (J (S ⟨g,0,U⟩) n cap)/\u.ownsRow (M+1) 313 2 (J (S ⟨g,0,U⟩) n cap) n B/\Below M w u) ((((w.drewN k).setCell ⟨g,n*2,U⟩ (Z Y 0)).setCell ⟨M,29,U⟩ (J (S ⟨g,0,U⟩) n cap)).drew)):=by
  intro k;have y:=below_drewN w k;have G:=hd.drewN k;have I:=de m y;have z:=I.stored (n*2) (Z Y 0);have K:=G.grown z.2 (by simp[Value.ownBlock];omega);have A:=zq z.1;rw[VW _ _ (by omega),List.take_left' (by omega)] at A;have L:=((y.mono (Ub hd.lt)).setCell (p:=⟨g,n*2,U⟩) (Ub C) (Z Y 0)).setCell (p:=⟨M,29,U⟩) V2 (J (S ⟨g,0,U⟩) n cap);exact⟨(K.QM _).drew,(((eD.refl M _).set _ _).own A).drew,L.drew⟩
 rw[Q] at X e1;have g3:(((h:Nat):Int) != ((h:Nat):Int))=Wg:=by simp
 clear Q hd m;go_enter func193,ntmps193;go_wp2_with fail
 go_quiet (fail)
 go_wp2_with fail
 go_quiet (fail)
 go_wp2
 go_region
 generalize nq=n2 at *;exact Tm (Tl O _ _ _) O ⟨O,(cT F _).1,(cT F _).2.1,(cT F _).2.2⟩
theorem R8(k:Int)(M b l n g cap y N I m:Nat)(E:Sp.Ev)(T:List Int)(G:List V6)(w:V5)(hd:jx w M (J (S ⟨y,0,U⟩) N I) b l E T (J (S ⟨g,0,U⟩) (n+1) cap))(hn:n<=10000)(r:w.ownsRow (M+1) 313 2 (J (S ⟨g,0,U⟩) (n+1) cap) (n+1) (G++[Z Y k,Z Y (Wn T)]))(K:Wn G=n*2)(hk:1<k)(q:k<=9223372036854775807)(t:b<N)(s:y<M)(L:w.cell? ⟨y,b*2+1,U⟩=S (Z Y m)):V7 prog 193 #[V9 (S ⟨M,0,U⟩)] w λe u=>e=Wd (Wb #[])/\jx u M (J (S ⟨y,0,U⟩) N I) m l E T (J (S ⟨g,0,U⟩) (n+1) cap)/\u.ownsRow (M+1) 313 2 (J (S ⟨g,0,U⟩) (n+1) cap) (n+1) (G++[Z Y (k-1),Z Y (Wn T)])/\Below M w u:=by
 obtain⟨h,X⟩:∃h,Wn T=h:=⟨_,rfl⟩
 have o:w.cell? ⟨g,n*2,U⟩=S (Z Y k):=(r.cellAt (n*2) (by omega)).trans (by rw[Tx (by omega),K];simp);have q1:w.cell? ⟨g,n*2+1,U⟩=S (Z Y (Wn T)):=(r.cellAt (n*2+1) (by omega)).trans (by rw[Tx (by omega),K];simp);have q2:=r.frozenAt (n*2);have P:M<g:=(r.lt g O).1;have aa:M≠g:=by omega
 have ab:g≠M:=by omega
 have ad:g≠y:=by omega
 have e0:=hd.c0;have ea:=hd.c1;have e1:=hd.hh;have e2:=hd.ll;have e3:=hd.fz 1;have g0:((n+1:Nat):Int)-1=(n:Int):=by omega
 have g1:(0:Int)<=(n:Int):=TS _;have g2:(n:Int)<((n+1:Nat):Int):=by omega
 have g4:(0:Int)<=(b:Int):=TS _;have g5:(b:Int)<(N:Int):=by omega
 have A:=r.stored (n*2) (Z Y (k-1));have k2:(w.setCell ⟨g,n*2,U⟩ (Z Y (k-1))).cell? ⟨g,n*2,U⟩=S (Z Y (k-1)):=T0 _ _ _ o;have z:Hid (∀j,(λu=>jx u M (J (S ⟨y,0,U⟩) N I) m l E T (J (S ⟨g,0,U⟩) (n+1) cap)/\u.ownsRow (M+1) 313 2 (J (S ⟨g,0,U⟩) (n+1) cap) (n+1) (G++[Z Y (k-1),Z Y (Wn T)])/\Below M w u) ((((w.drewN j).setCell ⟨g,n*2,U⟩ (Z Y (k-1))).setCell ⟨M,1,U⟩ (Z Y m)).drew)):=by
  intro j;have B:=below_drewN w j;have Q:=hd.drewN j;have R:=de r B;have C:=R.stored (n*2) (Z Y (k-1));have V:=Q.grown C.2 (by simp[Value.ownBlock];omega);have F:=C.1;rw[VW _ _ (by omega),K,Nat.sub_self] at F;have W:=((B.mono (Ub hd.lt)).setCell (p:=⟨g,n*2,U⟩) (Ub P) (Z Y (k-1))).setCell (p:=⟨M,1,U⟩) V2 (Z Y m);exact⟨(V.LD _).drew,(((eD.refl M _).set _ _).own F).drew,W.drew⟩
 rw[X] at q1 e1;have g3:(((h:Nat):Int) != ((h:Nat):Int))=Wg:=by simp
 have g6:(0:Int)<k-1:=by omega
 have g7:k-1<=9223372036854775807:=by omega
 clear X hd r A;go_enter func193,ntmps193;go_wp2_with fail
 go_quiet (fail)
 go_wp2_with fail
 go_quiet (fail)
 go_wp2
 go_region
 all_goals
  go_wp2;generalize nq=n2 at *
  first
  |exact Tj (Tl rfl _ _ _) rfl ⟨rfl,(cT z _).1,(cT z _).2.1,(cT z _).2.2⟩
  |exact Tm (Tl rfl _ _ _) rfl ⟨rfl,(cT z _).1,(cT z _).2.1,(cT z _).2.2⟩
namespace Sp
open Go Go.RowKit
variable {ms op:List Nat}
theorem pt{L:List (List UInt8)}{i:Nat}(hi:i<Wn L)(e:fC L i=S (ms,op)): fC L (i+1)=fD L[i] i ms op:=by
 rw[fC,e];simp only;rw[mI hi]
theorem NN(L:List (List UInt8)):∀(k:Nat) (m o:List Nat),fC L k=S (m,o)->Wn m=k:=by
 intro k
 induction k with
 |zero=>intro b e h;simp[fC] at h;obtain⟨rfl,_⟩:=h;rfl
 |succ k j =>
  intro b e h;simp only[fC] at h;split at h
  .cases h
  .rename_i r u l;rw[(uq h).1,j _ _ l]
theorem KH(L:List (List UInt8)):∀(k:Nat) (m o:List Nat),fC L k=S (m,o)->∀q∈o,q<k:=by
 intro k
 induction k with
 |zero=>intro e j h;simp[fC] at h;obtain⟨_,rfl⟩:=h;intro q b;cases b
 |succ k l =>
  intro e j h q b;simp only[fC] at h;split at h
  .cases h
  .rename_i u y r;have:=l _ _ r;unfold fD at h;split at h
   .injection h with h;injection h with _ h;subst h;rcases TB.1 b with b|b
    .have:=this q b;omega
    .rw[TL] at b;omega
   .split at h
    .split at h
     .injection h with h;injection h with _ h;subst h;have:=this q ((List.dropLast_sublist _).subset b);omega
     .cases h
    .injection h with h;injection h with _ h;subst h;have:=this q b;omega
theorem H9(L:List (List UInt8)):∀(k:Nat) (m o:List Nat),fC L k=S (m,o)->o.Nodup:=by
 intro k
 induction k with
 |zero=>intro r u h;simp[fC] at h;obtain⟨_,rfl⟩:=h;exact List.nodup_nil
 |succ k y =>
  intro r u h;simp only[fC] at h;split at h
  .cases h
  .rename_i B C l;have e:=y _ _ l;have z:=KH L _ _ _ l;unfold fD at h;split at h
   .injection h with h;injection h with _ h;subst h;refine Vc.2 ⟨e,by simp,λa A b j=>?_⟩;rw[TL] at j;have:=z a A;omega
   .split at h
    .split at h
     .injection h with h;injection h with _ h;subst h;exact(List.dropLast_sublist _).nodup e
     .cases h
    .injection h with h;injection h with _ h;subst h;exact e
theorem M6(L:List (List UInt8)){i:Nat}(e:fC L i=S (ms,op)): ∀(d:Nat) (r u:List Nat),fC L (i+d)=S (r,u)->(∀p,p<i->p∉op->r.getD p 0=ms.getD p 0)/\(∀q∈u,q<i->q∈op):=by
 intro d
 induction d with
 |zero =>
  intro r u h;rw[Uo,e] at h;injection h with h;injection h with z C;subst z C;exact⟨λ_ _ _=>O,λq y _=>y⟩
 |succ d Q =>
  intro r u h;rw[<-Nat.add_assoc,fC] at h;split at h
  .cases h
  .rename_i M R C;obtain⟨G,F⟩:=Q _ _ C;have P:=NN L _ _ _ C;have b:∀p,p<i->(M++[0]).getD p 0=M.getD p 0:=λp m=>by
    rw[Ty,Ty,Uf (by omega)]
   unfold fD at h;split at h
   .injection h with h;injection h with z j;subst z j;refine⟨λp m B=>(b p m).trans (G p m B),λq y A=>?_⟩;rcases TB.1 y with y|y
    .exact F q y A
    .rw[TL] at y;omega
   .split at h
    .split at h
     .rename_i l T;injection h with h;injection h with z j;subst z j;have I:l∈R:=List.mem_of_getLast? T;refine⟨λp m B=>?_,λq y A=>F q ((List.dropLast_sublist _).subset y) A⟩;have K:l≠p:=λe=>by subst e;exact B (F l I m)
      rw[Ty,Vo K,Vo (by omega),<-Ty];exact(b p m).trans (G p m B)
     .cases h
    .injection h with h;injection h with z j;subst z j;exact⟨λp m B=>(b p m).trans (G p m B),F⟩
theorem OB(L:List (List UInt8)):∀(b:Nat) (j T:List (List UInt8)) (i:Nat) (ms op:List Nat),Wn j<=b->L.drop i=j++T->i+Wn j<=Wn L->kI We j 0=We->fC L i=S (ms,op)->∃A,fC L (i+Wn j)=S (A,op):=by
 intro b
 induction b with
 |zero =>
  intro j T i ms op R B V W e;have:j=[]:=VF (by omega);subst this;exact⟨ms,e⟩
 |succ b C =>
  intro j T i ms op R B V W e;cases j with
  |nil=>exact⟨ms,e⟩
  |cons x r =>
   obtain⟨h1,t,y⟩:=kR W;simp only[Tr] at R V ⊢;have hi:i<Wn L:=by omega
   have s:L[i]=x:=by
    have:=TW hi;rw[B] at this;simp only[TZ,Vs] at this;exact this.1.symm
   have m:L.drop (i+1)=r++T:=by
    have:=TW hi;rw[B] at this;simp only[TZ,Vs] at this;exact this.2.symm
   have F:=pt hi e;rw[s] at F;by_cases G:x=[91]
   .subst G;rw[show ds [91]=1 by decide] at y;obtain⟨l,u,z,p,o,_⟩:=xQ r 0 (Int.le_refl _) (by simpa using y);have n:Wn r=Wn l+(Wn u+1):=by rw[z];simp
    have I:fC L (i+1)=S (ms++[0],op++[i]):=by rw[F];unfold fD;rw[Tg rfl]
    obtain⟨K,M⟩:=C l ([93]::u++T) (i+1) _ _ (by omega) (by rw[m,z];simp) (by omega) p I;have X:i+1+Wn l<Wn L:=by omega
    have g:L[i+1+Wn l]=[93]:=by
     have k:(L.drop (i+1))[Wn l]?=S [93]:=by rw[m,z];simp
     rw[UX,Tw X] at k;exact TG k
    have q:=pt X M;rw[g] at q;have P:∃h,fC L (i+1+Wn l+1)=S (h,op):=by
     refine⟨((K++[0]).set (i+1+Wn l) i).set i (i+1+Wn l),?_⟩;rw[q];unfold fD;rw[Tf (by decide),Tg rfl];simp only[VO,VP,Option.some_or,VQ]
    obtain⟨h,P⟩:=P;have Q:L.drop (i+1+Wn l+1)=u++T:=by
     rw[Nat.add_assoc (i+1),<-List.drop_drop,m,z];rw[show l++[93]::u++T=(l++[[93]])++(u++T) by simp];exact List.drop_left' (by simp)
    obtain⟨m6,e6⟩:=C u T (i+1+Wn l+1) _ _ (by omega) Q (by omega) o P;exact⟨m6,by rw[show i+(Wn r+1)=i+1+Wn l+1+Wn u by omega];exact e6⟩
   .have f:x≠[93]:=by
     rintro rfl;rw[show ds [93] = -1 by decide] at t;omega
    rw[nS G f] at y;have I:fC L (i+1)=S (ms++[0],op):=by rw[F];unfold fD;rw[Tf G,Tf f]
    obtain⟨K,M⟩:=C r T (i+1) _ _ (by omega) m (by omega) (by simpa using y) I;exact⟨K,by rw[show i+(Wn r+1)=i+1+Wn r by omega];exact M⟩
theorem xE{L:List (List UInt8)}{m:List Nat}(z:fC L (Wn L)=S (m,[])){e a:Nat}(he:e<Wn L)(A:L[e]=[93])(h:fC L e=S (ms,op++[a])): m.getD e 0=a/\m.getD a 0=e:=by
 have b:=pt he h;rw[A] at b;unfold fD at b;rw[Tf (by decide),Tg rfl] at b;simp only[VO,VP,Option.some_or,VQ] at b;have F:=NN L _ _ _ h;have j:=KH L _ _ _ h;have B:a<e:=j a (by simp);have y:=M6 L b (Wn L-(e+1)) m [] (by rw[show e+1+(Wn L-(e+1))=Wn L by omega];exact z);have C:=KH L _ _ _ b;have u:e∉op:=λr=>by have:=j e (UT _ r);omega
 constructor
 .rw[y.1 e (by omega) u,Ty,Vo (by omega),VT (by simp;omega)];rfl
 .by_cases r:a∈op
  .have l:=H9 L _ _ _ h;rw[Vc] at l;exact absurd O (l.2.2 a r a (by simp))
  .rw[y.1 a (by omega) r,Ty,VT (by simp;omega)];rfl
end Sp
namespace Sp
open Go Go.RowKit
def Q9(L:List (List UInt8)):List (Int × Nat)->Prop
 |[]=>True
 | (k,a)::r=>(∃e,fC L (a+1)=S (e,(a::r.map Prod.snd).reverse))/\Q9 L r
structure KZ (L:List (List UInt8)) (s:Ms):Prop where
 at':∃ms,fC L s.at'=S (ms,(s.lp.map Prod.snd).reverse)
 pl:Q9 L s.lp
theorem En{L:List (List UInt8)}(T:kI We L 0=We){r:Nat × List Nat}(V:fe L 0 []=S r){a h:Nat}{u:List Nat}(ha:a<Wn L)(hb:L[a]=[91])(e:fe (L.take a) 0 []=S (h,u)){F y:List Nat}(W:fC L a=S (F,y)):∃n A B,BK (L.drop a) a 0=S n/\n<Wn L/\L.getD n []=[93]/\fC L n=S (B,y++[a])/\fC L (n+1)=S (A,y):=by
 obtain⟨p,X,l,k⟩:=rY V ha e;rw[hb] at l;obtain⟨x,l⟩:=zx l;injection l with l q;subst l q;obtain⟨i,o⟩:=uD T _ _ _ (by omega) k;obtain⟨j,G,C,f,g,t⟩:=uK (L.drop (a+1)) (Wn u) 0 (TS _) (by omega) (by
  have:((u++[h-1]).length:Int)=(Wn u:Int)+0+1:=by simp
  rw[<-this];exact i)
 have I:Wn j+(Wn G+1)=Wn L-(a+1):=by
  have:=congrArg List.length C;simp only[Us,TT,Tr] at this;omega
 have m:BK (L.drop a) a 0=S (a+1+Wn j):=by
  rw[TW ha,hb];simp only[BK,show ds [91]=1 by decide];rw[Tf (by omega)];have:=t (a+1) [];rw[UJ] at this;simpa using this
 have z:a+1+Wn j<Wn L:=by omega
 have K:L[a+1+Wn j]=[93]:=by
  have M:(L.drop (a+1))[Wn j]?=S [93]:=by rw[C];simp
  rw[UX,Tw z] at M;exact TG M
 have s:fC L (a+1)=S (F++[0],y++[a]):=by rw[pt ha W,hb];unfold fD;rw[Tg rfl]
 obtain⟨P,Q⟩:=OB L (Wn j) j ([93]::G) (a+1) _ _ V2 C (by omega) f s;have R:=pt z Q;rw[K] at R;refine⟨_,((P++[0]).set (a+1+Wn j) a).set a (a+1+Wn j),P,m,z,by rw[mI z];exact K,Q,?_⟩;rw[R];unfold fD;rw[Tf (by decide),Tg rfl];simp only[VO,VP,Option.some_or,VQ]
theorem D4{L:List (List UInt8)}{E:Ev}(R:kI We L 0=We){r:Nat × List Nat}(V:fe L 0 []=S r){s t:Ms}(W:yZ L s)(u:KZ L s)(hi:s.at'<Wn L)(h:gw L E s=S t):KZ L t:=by
 obtain⟨f,p,e,o,g⟩:=W.ex;obtain⟨C,F⟩:=u.at';have j:=pt hi F;unfold gw at h;rw[mI hi] at h;split at h
 .cases h
 .split at h
  .rename_i B;split at h
   .cases h
   .rename_i n T X;split at h
    .obtain⟨m,G,x,q,m2,m3,m4,i⟩:=En R V hi B e F;injection h with h;subst h;rw[q];exact⟨⟨G,i⟩,u.pl⟩
    .injection h with h;subst h;have I:fC L (s.at'+1)=S (C++[0],(s.lp.map Prod.snd).reverse++[s.at']):=by rw[j,B];unfold fD;rw[Tg rfl]
     have P:fC L (s.at'+1)=S (C++[0],(s.at'::s.lp.map Prod.snd).reverse):=by rw[I,List.reverse_cons]
     exact⟨⟨_,by simpa using P⟩,⟨_,P⟩,u.pl⟩
  .split at h
   .rename_i y B;split at h
    .cases h
    .rename_i k a rr K;have z:=u.pl;rw[K] at z F j;obtain⟨⟨A,Q⟩,l⟩:=z;split at h
     .injection h with h;subst h;exact⟨⟨A,by simpa using Q⟩,⟨A,Q⟩,l⟩
     .injection h with h;subst h;rw[B] at j;unfold fD at j;rw[Tf (by decide),Tg rfl] at j;simp only[Uj,List.reverse_cons,VO,VP,Option.some_or,VQ] at j;exact⟨⟨_,j⟩,l⟩
   .rename_i y M;obtain⟨T,hw,h⟩:=VS.1 h;subst h;have I:fC L (s.at'+1)=S (C++[0],(s.lp.map Prod.snd).reverse):=by rw[j];unfold fD;rw[Tf y,Tf M]
    exact⟨⟨_,I⟩,u.pl⟩
theorem Q0(L:List (List UInt8))(f:Nat):KZ L ⟨0,f,[],[]⟩:=⟨⟨[],O⟩,trivial⟩
def i64(n:Int):Prop := -9223372036854775808<=n/\n<=9223372036854775807
structure nE (E:Ev):Prop where
 value:i64 E.value
 xB:i64 E.xB
 jf:i64 E.jf
 iH:i64 E.iH
 step:i64 E.step
 id:i64 E.id
 deg:i64 E.deg
 all:i64 E.all
 weight:i64 E.weight
theorem oI(n:Int):i64 (wrap64 n):=by unfold i64 wrap64;constructor <;> omega
theorem Ov{E:Ev}(h:nE E)(x:List UInt8):i64 (wG E x):=by
 unfold wG
 repeat' split
 .exact h.value
 .exact h.xB
 .exact h.jf
 .exact h.iH
 .exact h.step
 .exact h.id
 .exact h.deg
 .exact h.all
 .exact h.weight
variable {a b:Int}
theorem KP(ha:i64 a): i64 (a.tmod b):=by
 unfold i64 at *;have l:(a.tmod b).natAbs<=a.natAbs:=by rw[Int.natAbs_tmod];exact Nat.mod_le _ _
 rcases Int.le_total 0 a with h|h
 .have e:0<=a.tmod b:=Int.tmod_nonneg b h;omega
 .have e:a.tmod b<=0:=by
   have j:0<=(-a).tmod b:=Int.tmod_nonneg b (by omega);rw[Int.neg_tmod] at j;omega
  omega
theorem Mg(ha:i64 a)(hb:i64 b): i64 (min a b):=by
 by_cases h:a<=b
 .rw[Int.min_eq_left h];exact ha
 .rw[Int.min_eq_right (by omega)];exact hb
theorem Mb(ha:i64 a)(hb:i64 b): i64 (max a b):=by
 by_cases h:a<=b
 .rw[Int.max_eq_right h];exact hb
 .rw[Int.max_eq_left (by omega)];exact ha
theorem EF(q:Prop)[Decidable q]:i64 (if q then 1 else 0):=by unfold i64;split <;> omega
theorem OC{x:List UInt8}{v:Int}(ha:i64 a)(hb:i64 b)(h:tz x a b=S v): i64 v:=by
 unfold tz at h;by_cases e:x=[43]
 .rw[Tg e] at h;injection h with h;subst h;exact oI _
 .rw[Tf e] at h;by_cases j:x=[45]
  .rw[Tg j] at h;injection h with h;subst h;exact oI _
  .rw[Tf j] at h;by_cases l:x=[42]
   .rw[Tg l] at h;injection h with h;subst h;exact oI _
   .rw[Tf l] at h;by_cases m:x=[47]
    .rw[Tg m] at h;split at h
     .cases h
     .injection h with h;subst h;exact oI _
    .rw[Tf m] at h;by_cases r:x=[37]
     .rw[Tg r] at h;split at h
      .cases h
      .injection h with h;subst h;exact KP ha
     .rw[Tf r] at h;by_cases u:x=[60]
      .rw[Tg u] at h;injection h with h;subst h;exact EF _
      .rw[Tf u] at h;by_cases y:x=[61]
       .rw[Tg y] at h;injection h with h;subst h;exact EF _
       .rw[Tf y] at h;by_cases z:x=[109,105,110]
        .rw[Tg z] at h;injection h with h;subst h;exact Mg ha hb
        .rw[Tf z] at h;injection h with h;subst h;exact Mb ha hb
end Sp
namespace Sp
open Go Go.RowKit
def ju(T:List Int):Prop := ∀v∈T,i64 v
variable {T:List Int}{v:Int}
theorem ju.cons(b:i64 v)(h:ju T): ju (v::T):=λu hu=>by
 rcases TO.1 hu with rfl|hu
 .exact b
 .exact h u hu
theorem ju.head(h:ju (v::T)): i64 v:=h v (TV ..)
theorem ju.tail(h:ju (v::T)): ju T:=λu hu=>h u (Ug _ hu)
theorem Nz{E:Ev}(j:nE E){x:List UInt8}{e:List Int}(l:∀n,number x=S n->i64 n)(h:ju T)(b:kV E x T=S e): ju e:=by
 unfold kV at b;split at b
 .rename_i n m;injection b with b;subst b;exact ju.cons (l _ m) h
 .split at b
  .injection b with b;subst b;exact ju.cons (Ov j x) h
  .split at b
   .split at b
    .obtain⟨v,r,rfl⟩:=VS.1 b;exact ju.cons (OC h.tail.head h.head r) h.tail.tail
    .cases b
   .split at b
    .split at b
     .injection b with b;subst b;exact ju.cons h.head h
     .cases b
    .split at b
     .split at b
      .injection b with b;subst b;exact h.tail
      .cases b
     .split at b
      .split at b
       .injection b with b;subst b;exact ju.cons h.tail.head (ju.cons h.head h.tail.tail)
       .cases b
      .split at b
       .split at b
        .injection b with b;subst b;exact ju.cons h.tail.head (ju.cons h.head h.tail)
        .cases b
       .split at b
        .split at b
         .injection b with b;subst b;refine ju.cons ?_ h.tail.tail.tail;split
          .exact h.tail.head
          .exact h.head
         .cases b
        .cases b
structure Hg (s:Ms):Prop where
 T:ju s.T
 lp:∀q∈s.lp,1<=q.1/\q.1<=9223372036854775807
theorem vz{L:List (List UInt8)}{E:Ev}(y:nE E)(z:∀x n,number x=S n->i64 n){s t:Ms}(e:Hg s)(h:gw L E s=S t):Hg t:=by
 unfold gw at h;split at h
 .cases h
 .split at h
  .split at h
   .cases h
   .rename_i n T m;have j:=e.T;rw[m] at j;split at h
    .injection h with h;subst h;exact⟨j.tail,e.lp⟩
    .injection h with h;subst h;refine⟨j.tail,λq b=>?_⟩;rcases TO.1 b with rfl|b
     .exact⟨by simp only;omega,j.head.2⟩
     .exact e.lp q b
  .split at h
   .split at h
    .cases h
    .rename_i k a r u;have l:=e.lp;rw[u] at l;have A:=l (k,a) (TV ..);simp only at A;split at h
     .injection h with h;subst h;refine⟨e.T,λq b=>?_⟩;rcases TO.1 b with rfl|b
      .exact⟨by simp only;omega,by simp only;omega⟩
      .exact l q (Ug _ b)
     .injection h with h;subst h;exact⟨e.T,λq b=>l q (Ug _ b)⟩
   .obtain⟨T,B,h⟩:=VS.1 h;subst h;exact⟨Nz y (z _) e.T B,e.lp⟩
end Sp
section
def hb(L:List (List UInt8))(a:Nat):Nat:=match Sp.fe (L.take (a+1)) 0 [] with
 |some (h,_)=>h
 |none=>0
def NS(L:List (List UInt8))(b:List (Int × Nat)):List (Int × Nat):=(b.map λq=>(q.1,hb L q.2)).reverse
theorem uQ(L:List (List UInt8))(k:Int)(a:Nat)(r:List (Int × Nat)):NS L ((k,a)::r)=NS L r++[(k,hb L a)]:=by simp[NS]
theorem Mk(L:List (List UInt8))(b:List (Int × Nat)):(NS L b).length=Wn b:=by simp[NS]
def o7(w:V5)(M:Nat)(b:V6)(L:List (List UInt8))(E:Sp.Ev)(j e:Nat)(T:List Int)(l:List (Int × Nat)):Prop :=
 ∃x,jx w M b j e E T x/\w.ownsRow (M+1) 313 2 x (Wn l) (pY (NS L l))
def CQ(o:Option Sp.Ms)(M:Nat)(b:V6)(L:List (List UInt8))(E:Sp.Ev)(u:TypeId)(p:V6)(w:V5)(e:Ending)(w':V5):Prop:=Below M w w'/\match o with
  |some t=>e=Wd (Wb #[])/\∃a,a+1=t.at'/\o7 w' M b L E a t.fuel t.T t.lp
  |none=>e=.panicked [{ v := .iface u p,recovered:=false }]
variable {s:Sp.Ms}{L:List (List UInt8)}
theorem F9{E:Sp.Ev}{x:List UInt8}(b:L.getD s.at' []=x)(e:s.fuel≠0)(h1:x≠[91])(h2:x≠[93]): Sp.gw L E s=(Sp.kV E x s.T).map λT=>⟨s.at'+1,s.fuel-1,T,s.lp⟩:=by
 unfold Sp.gw;rw[Tf e,b,Tf h1,Tf h2]
theorem xC{E:Sp.Ev}{x:List UInt8}{M:Nat}{b l:V6}{u:TypeId}{p:V6}{w w':V5}{e:Ending}(y:L.getD s.at' []=x)(z:s.fuel≠0)(h1:x≠[91])(h2:x≠[93])(A:w.ownsRow (M+1) 313 2 l (Wn s.lp) (pY (NS L s.lp)))(B:Ky (Sp.kV E x s.T) M s.at' (s.fuel-1) E b l u p w e w'): CQ (Sp.gw L E s) M b L E u p w e w':=by
 obtain⟨m,j⟩:=B;rw[F9 y z h1 h2];refine⟨m.below,?_⟩;cases r:Sp.kV E x s.T with
 |none=>rw[r] at j;exact j
 |some T =>
  rw[r] at j;exact⟨j.1,s.at',O,l,j.2,m.own A⟩
theorem KY(L:List (List UInt8)):∀(k:Nat) (m o:List Nat),Sp.fC L k=S (m,o)->Wn o<=k:=by
 intro k
 induction k with
 |zero=>intro b e h;simp[Sp.fC] at h;obtain⟨_,rfl⟩:=h;exact Te _
 |succ k j =>
  intro b e h;simp only[Sp.fC] at h;split at h
  .cases h
  .rename_i r u l;have y:=(Sp.uq h).2;have z:=Sp.Cn (L.getD k []);have A:=j _ _ l;omega
theorem K3{a h:Nat}{b:List Nat}(e:Sp.fe (L.take (a+1)) 0 []=S (h,b)): hb L a=h:=by unfold hb;rw[e]
theorem FR{MS:List Nat}{E:Sp.Ev}{r:Nat × List Nat}(ad:Sp.kI We L 0=We)(hk:Sp.fe L 0 []=S r)(ae:Sp.fC L (Wn L)=S (MS,[]))(hH:Sp.yZ L s)(hP:Sp.KZ L s)(hV:Sp.Hg s)(hi:s.at'<Wn L)(hf:s.fuel≠0)(ax:Wn L<=4000){M g cap:Nat}{u:TypeId}{p:V6}{w0 w:V5}{F:Nat}{x:Array V6}(hF:Fn w0 M L[s.at'] (.func (.func F) #[] x))(hb:Below M w0 w)(hg:g<M)(m:w.cell? ⟨g,s.at'*2+1,U⟩=S (Z Y ((MS.getD s.at' 0:Nat):Int)))(hd:o7 w M (J (S ⟨g,0,U⟩) (Wn L) cap) L E s.at' (s.fuel-1) s.T s.lp)(hv:Kq M u p w):V7 prog F (#[V9 (S ⟨M,0,U⟩)]++x) w (CQ (Sp.gw L E s) M (J (S ⟨g,0,U⟩) (Wn L) cap) L E u p w):=by
 obtain⟨l,f,Q⟩:=hd;obtain⟨h,ls,e,hT,hl⟩:=hH.ex;obtain⟨h',ay,d,e'⟩:=Sp.rY hk hi e;have C:=Sp.mI hi;have az:=(Sp.uD ad _ _ _ (by omega) e).2;obtain⟨ms,er⟩:=hP.at';have i:Wn s.lp<=4000:=by
  have t:=KY L _ _ _ er;simp at t;omega
 rcases hF with ⟨B,n,hB,ef,hn,b⟩|⟨k,af,G,ef⟩
 .injection ef with e1 e2 e3;injection e1 with e1;subst e1 e3;have t:L[s.at']≠[91]:=by intro hc;rw[hc,show Sp.number [91]=U by decide] at b;cases b
  have h2:L[s.at']≠[93]:=by intro hc;rw[hc,show Sp.number [93]=U by decide] at b;cases b
  obtain⟨n',m',R,ak,y,_⟩:=Sp.vO t h2 d;rw[Sp.zS b] at R;injection R with R;injection R with t1 t2;subst t1 t2;refine(MG b B M s.at' (s.fuel-1) E s.T _ l u p w f (by omega) ((ji hb hB).trans hn.cell)).mono λe V hp=>?_
  exact xC C hf t h2 Q hp
 .unfold oB at ef;injection ef with e1 e2 e3;injection e1 with e1;subst e1 e3;by_cases K:k<23
  .have o:∀j,j<23->Sp.yP[j]!≠[91]/\Sp.yP[j]!≠[93]:=by decide
   have t:L[s.at']≠[91]:=by rw[G];exact(o k K).1
   have h2:L[s.at']≠[93]:=by rw[G];exact(o k K).2
   obtain⟨n',m',R,ak,y,_⟩:=Sp.vO t h2 d;rw[G,Sp.Eo k af] at R;injection R with R;have an:=Ri k K M s.at' (s.fuel-1) E s.T (J (S ⟨g,0,U⟩) (Wn L) cap) l u p w f hv (by rw[R];simp only;omega) (by rw[R];simp only;omega);refine an.mono λe V hp=>?_
   rw[<-G] at hp;exact xC C hf t h2 Q hp
  .by_cases ag:k=23
   .subst ag;have W:L[s.at']=[91]:=G;rw[W] at d;obtain⟨o,d⟩:=Sp.zx d;injection d with d1 d2;subst d1 d2;obtain⟨n,T,aa⟩:=DU (T:=s.T) (by omega);rw[aa] at f hT;simp only[Tr] at hT;by_cases X:n<1
    .obtain⟨q,aA,aB,q1,q2,q3,q4,q5⟩:=Sp.En ad hk hi W e er;have ao:L[q]=[93]:=by rw[<-Sp.mI q2];exact q3
     obtain⟨_,aq⟩:=Sp.xE ae q2 ao q4;rw[aq] at m;have z:Sp.gw L E s=S ⟨q+1,s.fuel-1,T,s.lp⟩:=by
      unfold Sp.gw;rw[Tf hf,C,Tg W,aa];simp only;rw[Tg X,q1];rfl
     rw[z];refine(Fi _ M w (Nn n M s.at' (s.fuel-1) g (Wn L) cap q E T l w f X hi (by omega) m) (λe V hh=>Or.inl hh.1)).mono ?_;rintro e V ⟨rfl,y,ah⟩;exact⟨ah.below,O,q,O,l,y,ah.own Q⟩
    .have z:Sp.gw L E s=S ⟨s.at'+1,s.fuel-1,T,(n,s.at')::s.lp⟩:=by
      unfold Sp.gw;rw[Tf hf,C,Tg W,aa];simp only;rw[Tf X]
     rw[z];refine(Fi _ M w (Md n M s.at' (s.fuel-1) (Wn s.lp) E T _ l _ w f X (by omega) Q) (λe V hh=>Or.inl hh.1)).mono ?_;rintro e V ⟨rfl,x',y,I,P⟩;refine⟨P,O,s.at',O,x',y,?_⟩;rw[uQ,sZ,K3 e'];have:Wn T=h-1:=by omega
     rw[this] at I;exact I
   .have ar:k=24:=by omega
    subst ar;have W:L[s.at']=[93]:=G;rw[W] at d;cases A:s.lp with
    |nil =>
     rw[A] at hl;have hl:ls=[]:=hl;subst hl;exfalso;unfold Sp.dst at d;rw[Tf (by decide),Tg rfl] at d;cases d
    |cons q r =>
     obtain⟨k0,a⟩:=q;rw[A] at hl Q;obtain⟨k1,a1,a2,h0,aC,rfl,e0,aD⟩:=hl;obtain⟨au,d⟩:=Sp.CC d;subst au;rw[uQ,sZ,K3 e0,<-hT] at Q;simp only[Tr] at Q;obtain⟨gl,cl,rfl⟩:∃g cap,l=J (S ⟨g,0,U⟩) (Wn r+1) cap:=by
      rcases Q.2 with ⟨_,hn⟩|⟨g,cap,aE,hv,_⟩
      .omega
      .exact⟨g,cap,hv⟩
     have ai:(pY (NS L r)).length=Wn r*2:=by rw[Gl,Mk]
     have aF:Wn r<=4000:=by rw[A] at i;simp at i;omega
     have aj:=hV.lp (k0,a) (by rw[A];exact TV ..);rw[A] at er;obtain⟨av,_⟩:=Sp.xE ae hi W (by simpa using er);rw[av] at m;by_cases ab:1<k0
     .have z:Sp.gw L E s=S ⟨a+1,s.fuel-1,s.T,(k0-1,a)::r⟩:=by
       unfold Sp.gw;rw[Tf hf,C,W,Tf (by decide),Tg O,A];simp only;rw[Tg ab]
      rw[z];refine(ER _ M w (R8 k0 M s.at' (s.fuel-1) (Wn r) gl cl g (Wn L) cap a E s.T _ w f (by omega) Q ai ab aj.2 hi hg m) (λe V hh=>Or.inl hh.1)).mono ?_;rintro e V ⟨rfl,y,I,P⟩;refine⟨P,O,a,O,_,y,?_⟩;rw[uQ,sZ,K3 e0,<-hT];exact I
     .have aw:k0=1:=by have:=aj.1;simp only at this;omega
      have z:Sp.gw L E s=S ⟨s.at'+1,s.fuel-1,s.T,r⟩:=by
       unfold Sp.gw;rw[Tf hf,C,W,Tf (by decide),Tg O,A];simp only;rw[Tf ab]
      rw[z];refine(ER _ M w (QR k0 M s.at' (s.fuel-1) (Wn r) gl cl E s.T _ _ w f (by omega) Q ai aw) (λe V hh=>Or.inl hh.1)).mono ?_;rintro e V ⟨rfl,y,I,P⟩;exact⟨P,O,s.at',O,_,y,I⟩
end
section
def CR(o:Option Sp.Ms)(M:Nat)(code:V6)(L:List (List UInt8))(E:Sp.Ev)(u:TypeId)(p:V6)(b:TypeId)(pf:V6)(w:V5)(e:Ending)(w':V5):Prop:=Below M w w'/\match o with
  |some t=>e=Wd (Wb #[])/\o7 w' M code L E t.at' t.fuel t.T t.lp
  |none=>e=.panicked [{ v := .iface u p,recovered:=false }]\/e=.panicked [{ v := .iface b pf,recovered:=false }]
structure Oh (w:V5) (M g:Nat) (L:List (List UInt8)) (MS:List Nat):Prop where
 fm:Sp.kI We L 0=We
 keeps:∃r,Sp.fe L 0 []=S r
 rd:Sp.fC L (Wn L)=S (MS,[])
 len:Wn L<=4000
 lt:g<M
 fn:∀i (hi:i<Wn L),∃F caps,w.cell? ⟨g,i*2,U⟩=S (.func (.func F) #[] caps)/\Fn w M L[i] (.func (.func F) #[] caps)
 tX:∀i,i<Wn L->w.cell? ⟨g,i*2+1,U⟩=S (Z Y ((MS.getD i 0:Nat):Int))
structure OY (L:List (List UInt8)) (E:Sp.Ev) (M:Nat) (code:V6) (w wr:V5) (s0 s:Sp.Ms):Prop where
 hi:Sp.yZ L s
 pi:Sp.KZ L s
 vi:Sp.Hg s
 SN:o7 wr M code L E s.at' s.fuel s.T s.lp
 run:Sp.lG L E (s0.fuel+1) s0=Sp.lG L E (s.fuel+1) s
 kept:Below M w wr
 fu:s.fuel<=200
def Se(M:Nat)(w:V5):Nat:=match w.cell? ⟨M,2,U⟩ with
 |some v=>(intOf v).toNat
 |none=>0
variable {M:Nat}{w:V5}
theorem I9{n:Int}(h:w.cell? ⟨M,2,U⟩=S (Z Y n)): Se M w=n.toNat:=by
 unfold Se;rw[h];rfl
variable {L:List (List UInt8)}{fuel at':Nat}{lp:List (Int × Nat)}{T:List Int}{code:V6}
theorem o7.Pt{E:Sp.Ev}(h:o7 w M code L E at' fuel T lp)(a:Nat): o7 (w.setCell ⟨M,2,U⟩ (Z Y a)) M code L E at' a T lp:=by
 obtain⟨x,b,e⟩:=h;exact⟨x,b.Pt a,((eD.refl M w).set _ _).own e⟩
theorem o7.LD{E:Sp.Ev}(h:o7 w M code L E at' fuel T lp)(a:Nat): o7 (w.setCell ⟨M,1,U⟩ (Z Y a)) M code L E a fuel T lp:=by
 obtain⟨x,b,e⟩:=h;exact⟨x,b.LD a,((eD.refl M w).set _ _).own e⟩
theorem o7.drew{E:Sp.Ev}(h:o7 w M code L E at' fuel T lp): o7 w.drew M code L E at' fuel T lp:=by
 obtain⟨x,b,e⟩:=h;exact⟨x,b.drew,e.drew⟩
theorem o7.drewN{E:Sp.Ev}(h:o7 w M code L E at' fuel T lp)(n:Nat): o7 (w.drewN n) M code L E at' fuel T lp:=by
 obtain⟨x,b,e⟩:=h;exact⟨x,b.drewN n,de e (below_drewN w n)⟩
theorem lQ:∀x n,Sp.number x=S n->Sp.i64 n:=λx n h=>by
 have:=Sp.xL h;unfold Sp.i64;omega
variable {s:Sp.Ms}
theorem G6{E:Sp.Ev}{t:Sp.Ms}(hi:s.at'<Wn L)(h:Sp.gw L E s=S t): Sp.lG L E (s.fuel+1) s=Sp.lG L E (t.fuel+1) t:=by
 have b:=Sp.qD h;rw[Sp.lG,Tf (by omega),h];simp only;exact Sp.J8 _ t (by omega) _ (by omega)
theorem yc{E:Sp.Ev}(hi:s.at'<Wn L)(h:Sp.gw L E s=U): Sp.lG L E (s.fuel+1) s=U:=by
 rw[Sp.lG,Tf (by omega),h]
theorem J9{E:Sp.Ev}(hi:Wn L<=s.at'): Sp.lG L E (s.fuel+1) s=S s:=by
 rw[Sp.lG,Tg hi]
theorem Kt(L:List (List UInt8))(MS:List Nat)(E:Sp.Ev)(hE:Sp.nE E)(M g cap:Nat)(u:TypeId)(p:V6)(o:TypeId)(pf:V6)(A:Sp.Ms)(w:V5)(hc:Oh w M g L MS)(h0:OY L E M (J (S ⟨g,0,U⟩) (Wn L) cap) w w A A)(hM:1<M)(he:w.cell? ⟨1,0,U⟩=S (.iface u p))(ah:2<M)(aa:w.cell? ⟨2,0,U⟩=S (.iface o pf)):V7 prog 113 #[V9 (S ⟨M,0,U⟩)] w (CR (Sp.lG L E (A.fuel+1) A) M (J (S ⟨g,0,U⟩) (Wn L) cap) L E u p o pf w):=by
 generalize hO:CR (Sp.lG L E (A.fuel+1) A) M (J (S ⟨g,0,U⟩) (Wn L) cap) L E u p o pf w=b;replace hO:=cU hO;have ai:=cU he;have aj:=cU aa;have j:=cU hc;have H0:=cU h0;have hl:=hc.len;clear he aa hc h0;go_enter func113,ntmps113;go_wp2_with fail
 go_loopw [] (λwr=>∃s:Sp.Ms,Hid (OY L E M (J (S ⟨g,0,U⟩) (Wn L) cap) w wr A s)) (λwr=>Se M wr)
 case atStart=>exact⟨A,H0⟩
 case round =>
  obtain⟨s,y⟩:=hrel;clear H0;have au:=(cT y).hi.le;have av:=(cT y).fu;obtain⟨x,R,ab⟩:=(cT y).SN;have HX:=cU R;have e0:=R.c0;have e1:=R.c1;have e2:=R.c2;have f2:=R.fz 2;clear R ab;have g0:(0:Int)<=(s.at':Int):=TS _;by_cases c:s.at'<Wn L
  .have c1:(s.at':Int)<(Wn L:Int):=by omega
   by_cases K:s.fuel=0
   .have c2:((s.fuel:Int) == 0)=We:=by rw[K];rfl
    have aw:wr.cell? ⟨2,0,U⟩=S (.iface o pf):=(ji (cT y).kept ah).trans (cT aj);have HP:Hid (∀n,b (.panicked [{ v := .iface o pf,recovered:=false }]) (wr.drewN n)):=by
     show ∀n,_
     intro n;have l:=cT y;rw[<-cT hO,l.run,yc c (by unfold Sp.gw;rw[Tg K])];exact⟨l.kept.trans ((below_drewN wr n).mono (Ub (cT HX).lt)),Or.inr O⟩
    clear K;go_wp2_with fail
    go_quiet (fail)
    go_wp2;exact⟨O,cT HP _⟩
   .obtain⟨q,hq,HQ⟩:∃q,s.fuel=q+1/\Hid (s.fuel=q+1):=⟨s.fuel-1,by omega,cU (by omega)⟩
    rw[hq] at e2;have c2:((((q+1:Nat)):Int) == 0)=Wg:=Tt.2 (by omega);have c3:((q+1:Nat):Int)-1=(q:Int):=by omega
    have c4:q<=4000:=by omega
    obtain⟨F,I,ad,P⟩:=(cT j).fn s.at' c;have Q:=(cT j).lt;have e3:wr.cell? ⟨g,s.at'*2,U⟩=S (.func (.func F) #[] I):=(ji (cT y).kept Q).trans ad;have ax:M≠g:=by omega
    have ay:=P.enter;have ak:=cU P;clear hq P ad;have V:Hid (∀k,Below M w (((wr.drewN k).setCell ⟨M,2,U⟩ (Z Y (q:Int))).drew)/\V7 prog F (#[V9 (S ⟨M,0,U⟩)]++I) (((wr.drewN k).setCell ⟨M,2,U⟩ (Z Y (q:Int))).drew) (CQ (Sp.gw L E s) M (J (S ⟨g,0,U⟩) (Wn L) cap) L E u p (((wr.drewN k).setCell ⟨M,2,U⟩ (Z Y (q:Int))).drew))):=by
     show ∀k,_
     intro k;have l:=cT y;have hQ:=cT HQ;have B:Below M w (((wr.drewN k).setCell ⟨M,2,U⟩ (Z Y (q:Int))).drew):=(iI.set (l.kept.trans ((below_drewN wr k).mono (Ub (cT HX).lt))) _ _).drew;refine⟨B,?_⟩;obtain⟨r,W⟩:=(cT j).keeps;refine FR (cT j).fm W (cT j).rd l.hi l.pi l.vi c (by omega) hl (cT ak) B Q ((ji B Q).trans ((cT j).tX _ c)) ?_ ⟨by omega,(ji B hM).trans (cT ai)⟩;have:=((l.SN.drewN k).Pt q).drew;rw[show s.fuel-1=q by omega];exact this
    cases z:Sp.gw L E s with
    |none =>
     rw[z] at V;have HP:Hid (∀k m,Below M (((wr.drewN k).setCell ⟨M,2,U⟩ (Z Y (q:Int))).drew) m->b (.panicked [{ v := .iface u p,recovered:=false }]) m):=by
      show ∀k m,_
      intro k m hk;have l:=cT y;rw[<-cT hO,l.run,yc c z];exact⟨((cT V) k).1.trans hk,Or.inl O⟩
     clear z;go_wp2_with fail
     go_quiet (fail)
     go_wp2_with fail
     go_region_with (refine(cT V _).2.mono ?_;rintro e m ⟨C,rfl⟩;refine jB prog m ⟨O,cT HP _ m C⟩ ?_)
     all_goals trivial
    |some t =>
     rw[z] at V;have HN:Hid (∀k m a,Below M (((wr.drewN k).setCell ⟨M,2,U⟩ (Z Y (q:Int))).drew) m->a+1=t.at'->o7 m M (J (S ⟨g,0,U⟩) (Wn L) cap) L E a t.fuel t.T t.lp->OY L E M (J (S ⟨g,0,U⟩) (Wn L) cap) w (m.setCell ⟨M,1,U⟩ (Z Y ((a+1:Nat):Int))) A t/\t.fuel=q):=by
      show ∀k m a,_
      intro k m a hk X hm;have l:=cT y;have hQ:=cT HQ;obtain⟨r,W⟩:=(cT j).keeps;have az:=Sp.qD z;refine⟨⟨Sp.sI (cT j).fm W l.hi c z,Sp.D4 (cT j).fm W l.hi l.pi c z,Sp.vz hE lQ l.vi z,?_,l.run.trans (G6 c z),iI.set (((cT V) k).1.trans hk) _ _,by omega⟩,by omega⟩;rw[<-X];exact hm.LD (a+1)
     have an:Hid (∀a,a+1=t.at'->a<=4000):=by
      show ∀a,_
      intro a X;have l:=cT y;obtain⟨r,W⟩:=(cT j).keeps;have:=(Sp.sI (cT j).fm W l.hi c z).le;omega
     clear z;go_wp2_with fail
     go_quiet (fail)
     go_wp2_with fail
     go_region_with (refine(cT V _).2.mono ?_;rintro e m ⟨C,rfl,a,X,ae⟩)
     all_goals
      have aA:=cT an a X;obtain⟨af,ag⟩:=cT HN _ m a C X ae;have ao:=cU af;have aq:=cU ag;obtain⟨x1,G,_⟩:=ae;have j1:=G.c1;have j2:=G.fz 1;have k3:=G.c2;have ar:=cU k3;clear G C af ag X k3;go_wp2;go_roundw
      case rel=>exact⟨t,ao⟩
      case measure =>
       have a1:=I9 e2;have a2:Se M (m.setCell ⟨M,1,U⟩ (Z Y ((a:Int)+1)))=t.fuel:=by
        rw[I9 ((cW (by omega)).trans (cT ar))];simp
       have:=cT aq;rw[a1,a2];omega
  .have c1:¬(s.at':Int)<(Wn L:Int):=by omega
   go_wp2_with fail
   go_quiet (fail)
   go_wp2;refine Tm (Tl O _ _ _) O ?_;have l:=cT y;rw[<-cT hO,l.run,J9 (by omega)];exact⟨l.kept.trans ((below_drewN wr nq).mono (Ub (cT HX).lt)),O,l.SN.drewN nq⟩
end
end Go.Proofs.YtgkkdpegcieakaaGreatDoor
