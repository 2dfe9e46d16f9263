import Derived.Test.YtgkkdpegcieakaaGreatDoorCz09
set_option linter.unusedVariables false
set_option linter.unusedSimpArgs false
set_option maxRecDepth 100000
set_option maxHeartbeats 16000000
namespace Go.Proofs.YtgkkdpegcieakaaGreatDoor
open Go.Proofs.Tryz
open Value renaming int→Z
open IntKind renaming i64→Y
open Go renaming World→TJ,Value→TK,Calls→TL
namespace Sp
open Go Go.RowKit
structure Ev where
 value:Int
 vq:Int
 je:Int
 iK:Int
 step:Int
 id:Int
 deg:Int
 all:Int
 weight:Int
def wg(E:Ev)(x:List UInt8):Int:=if x=[118,97,108,117,101] then E.value
 else if x=[111,108,100] then E.vq
 else if x=[105,110] then E.je
 else if x=[103,111,116] then E.iK
 else if x=[115,116,101,112] then E.step
 else if x=[105,100] then E.id
 else if x=[100,101,103] then E.deg
 else if x=[97,108,108] then E.all
 else E.weight
def tx(x:List UInt8)(a b:Int):Option Int:=if x=[43] then some (wrap64 (a+b))
 else if x=[45] then some (wrap64 (a-b))
 else if x=[42] then some (wrap64 (a*b))
 else if x=[47] then (if b=0 then none else some (wrap64 (a.tdiv b)))
 else if x=[37] then (if b=0 then none else some (a.tmod b))
 else if x=[60] then some (if a<b then 1 else 0)
 else if x=[61] then some (if a=b then 1 else 0)
 else if x=[109,105,110] then some (min a b)
 else some (max a b)
def lj(E:Ev)(x:List UInt8)(T:List Int):Option (List Int):=match number x with
 |some n=>some (n::T)
 |none =>
  if x∈jH\/x=[119,101,105,103,104,116] then some (wg E x::T)
  else if x∈oy then (match T with | b::a::r=>(tx x a b).map (· :: r) | _=>none)
  else if x=[100,117,112] then (match T with | a::r=>some (a::a::r) | _=>none)
  else if x=[100,114,111,112] then (match T with | _::r=>some r | _=>none)
  else if x=[115,119,97,112] then (match T with | b::a::r=>some (a::b::r) | _=>none)
  else if x=[111,118,101,114] then (match T with | b::a::r=>some (a::b::a::r) | _=>none)
  else if x=[63] then (match T with | c::b::a::r=>some ((if a≠0 then b else c)::r) | _=>none)
  else none
structure Ms where
 at':Nat
 fuel:Nat
 T:List Int
 lp:List (Int × Nat)
def gy(L:List (List UInt8))(E:Ev)(s:Ms):Option Ms:=if s.fuel=0 then none
 else if L.getD s.at' []=[91] then
  (match s.T with
    |[]=>none
    |n::T=>if n<1 then some ⟨(Ao (L.drop s.at') s.at' 0).getD 0+1,s.fuel-1,T,s.lp⟩ else some ⟨s.at'+1,s.fuel-1,T,(n,s.at')::s.lp⟩)
 else if L.getD s.at' []=[93] then
  (match s.lp with
    |[]=>none
    |(k,a)::r=>if 1<k then some ⟨a+1,s.fuel-1,s.T,(k-1,a)::r⟩ else some ⟨s.at'+1,s.fuel-1,s.T,r⟩)
 else (lj E (L.getD s.at' []) s.T).map λT=>⟨s.at'+1,s.fuel-1,T,s.lp⟩
def lG(L:List (List UInt8))(E:Ev):Nat->Ms->Option Ms
 |0,_=>none
 |g+1,s=>if L.length<=s.at' then some s else match gy L E s with
  |none=>none
  |some t=>lG L E g t
def ev(L:List (List UInt8))(E:Ev):Option Int:=(lG L E 201 ⟨0,200,[],[]⟩).bind λs=>s.T.head?
variable {E:Ev}
theorem qD{L:List (List UInt8)}{s t:Ms}(h:gy L E s=some t): s.fuel=t.fuel+1:=by
 unfold gy at h;split at h
 .cases h
 .rename_i b;split at h
  .split at h
   .cases h
   .split at h <;> (injection h with h;subst h;simp;omega)
  .split at h
   .split at h
    .cases h
    .split at h <;> (injection h with h;subst h;simp;omega)
   .obtain⟨T,_,h⟩:=Tw.1 h;subst h;simp;omega
theorem Kh{L:List (List UInt8)}: ∀(g:Nat) (s:Ms),s.fuel<g->∀b,s.fuel<b->lG L E g s=lG L E b s:=by
 intro g
 induction g with
 |zero=>intro s h;omega
 |succ g e =>
  intro s h b l;cases b with
  |zero=>omega
  |succ b =>
   simp only[lG];split
   .rfl
   .cases j:gy L E s with
    |none=>rfl
    |some t =>
     have:=qD j;exact e t (by omega) b (by omega)
theorem vy:∀(R:List (List UInt8)) (d c:Int),0<=d->0<=c->kh true R (d+c+1)=true->
  ∃b j,R=b++[93]::j/\kh true b c=true/\kh true j d=true/\∀k T,Ao (R++T) k (c+1)=some (k+b.length):=by
 intro R
 induction R with
 |nil =>
  intro d c hd B h;simp only[kh,decide_eq_true_eq] at h;omega
 |cons y r C =>
  intro d c hd B h;obtain⟨D,J,m⟩:=kW h;have K:=A9 y;by_cases l:c+1+ds y=0
  .have F:y=[93]:=by
    by_cases z:y=[91]
    .subst z;simp[ds] at l;omega
    .by_cases A:y=[93]
     .exact A
     .rw[n7 z A] at l;omega
   have u:c=0:=by omega
   subst F u;refine⟨[],r,rfl,rfl,?_,λk T=>?_⟩
   .rw[show d+0+1+ds [93]=d by omega] at m;exact m
   .simp only[mf,Ao];rw[cg l];rfl
  .obtain⟨b,j,e,G,H,I⟩:=C d (c+ds y) hd (by omega) (by rw[show d+(c+ds y)+1=d+c+1+ds y by omega];exact m);refine⟨y::b,j,by rw[e];rfl,C4 D (by omega) G,H,λk T=>?_⟩;simp only[mf,Ao];rw[cd l,show c+1+ds y=c+ds y+1 by omega,I (k+1) T];simp only[cD]
   congr 1;omega
theorem SY{S:List (List UInt8)}(l:kh true S 0=true){h:Nat}(m:h<=16)(j:List Nat){r:Nat}{b:List Nat}(e:eZ S h j=some (r,b)):b=j:=by
 have:=zL S S.length S [] 0 h j TG (by simp) (by omega) l m;rw[this] at e;split at e
 .cases e
 .injection e with e;injection e with _ e;exact e.symm
theorem Gq{x:List UInt8}{T l:List Int}{n m:Nat}(h1:x≠[91])(h2:x≠[93])(ht:tk true x=some (n,m))(b:lj E x T=some l): n<=T.length/\l.length=T.length-n+m:=by
 unfold tk at ht;unfold lj at b;cases r:number x with
 |some v =>
  rw[r] at ht b;simp at ht b;obtain⟨rfl,rfl⟩:=ht;subst b;simp
 |none =>
  rw[r] at ht b;simp only[Option.isSome_none,Td,false_or,true_and] at ht;simp only at b;by_cases u:x∈jH\/x=[119,101,105,103,104,116]
  .rw[cg u] at ht b;injection ht with ht;injection ht with e j;subst e j;injection b with b;subst b;simp
  .rw[cd u] at ht b;by_cases y:x∈oy
   .rw[cg y] at ht b;injection ht with ht;injection ht with e j;subst e j;split at b
    .obtain⟨v,_,rfl⟩:=Tw.1 b;simp
    .cases b
   .rw[cd y] at ht b;by_cases z:x=[100,117,112]
    .rw[cg z] at ht b;injection ht with ht;injection ht with e j;subst e j;split at b
     .injection b with b;subst b;simp
     .cases b
    .rw[cd z] at ht b;by_cases A:x=[100,114,111,112]
     .rw[cg A] at ht b;injection ht with ht;injection ht with e j;subst e j;split at b
      .injection b with b;subst b;simp
      .cases b
     .rw[cd A] at ht b;rw[cd h1] at ht;by_cases B:x=[115,119,97,112]
      .rw[cg B] at ht b;injection ht with ht;injection ht with e j;subst e j;split at b
       .injection b with b;subst b;simp
       .cases b
      .rw[cd B] at ht b;by_cases C:x=[111,118,101,114]
       .rw[cg C] at ht b;injection ht with ht;injection ht with e j;subst e j;split at b
        .injection b with b;subst b;simp
        .cases b
       .rw[cd C] at ht b;by_cases D:x=[63]
        .rw[cg D] at ht b;injection ht with ht;injection ht with e j;subst e j;split at b
         .injection b with b;subst b;simp
         .cases b
        .rw[cd D] at b;cases b
end Sp
namespace Sp
open Go Go.RowKit
def Pl(L:List (List UInt8)):List (Int × Nat)->List Nat->Prop
 |[],ls=>ls=[]
 |(k,a)::r,ls=>1<=k/\a<L.length/\L.getD a []=[91]/\∃h b,ls=b++[h]/\eZ (L.take (a+1)) 0 []=some (h,b++[h])/\Pl L r b
structure yH (L:List (List UInt8)) (s:Ms):Prop where
 le:s.at'<=L.length
 ex:∃h ls,eZ (L.take s.at') 0 []=some (h,ls)/\s.T.length=h/\Pl L s.lp ls
variable {L:List (List UInt8)}{i:Nat}
theorem xr(hi:i<L.length): L.take (i+1)=L.take i++[L[i]]:=by
 rw[zQ hi]
theorem GU(x:List UInt8)(h:Nat)(ls:List Nat):eZ [x] h ls=dst x h ls:=by
 simp only[eZ];cases dst x h ls with
 |none=>rfl
 |some p=>rfl
variable {ls:List Nat}{h:Nat}
theorem Ah(hi:i<L.length)(e:eZ (L.take i) 0 []=some (h,ls)): eZ (L.take (i+1)) 0 []=dst L[i] h ls:=by
 rw[xr hi,ld,e];exact GU _ _ _
variable {r:Nat × List Nat}
theorem A4(b:eZ L 0 []=some r)(i:Nat): ∃h ls,eZ (L.take i) 0 []=some (h,ls):=by
 have e:=ld (L.take i) (L.drop i) 0 [];rw[r4,b] at e;cases j:eZ (L.take i) 0 [] with
 |none=>rw[j] at e;cases e
 |some p=>exact⟨p.1,p.2,rfl⟩
theorem uo(A:kh true L 0=true): ∀(i h:Nat) (ls:List Nat),i<=L.length->eZ (L.take i) 0 []=some (h,ls)->kh true (L.drop i) ls.length=true/\h<=16:=by
 intro i
 induction i with
 |zero =>
  intro h ls hi e;simp only[List.take_zero,eZ] at e;injection e with e;injection e with e1 e2;subst e1 e2;exact⟨by simpa using A,by omega⟩
 |succ i B =>
  intro h ls hi e;have b:i<L.length:=by omega
  have l:=e;rw[xr b,ld] at e;cases m:eZ (L.take i) 0 [] with
  |none=>rw[m] at e;cases e
  |some p =>
   obtain⟨C,j⟩:=p;obtain⟨y,D⟩:=B C j (by omega) m;rw[Ah b m] at l;rw[kp b] at y;obtain⟨_,z,E⟩:=kW y;have F:L[i]=[93]->j≠[]:=by
    intro u G;rw[u,G,show ds [93] = -1 by decide] at z;simp at z
   rw[DS F l];exact⟨E,Ke D l⟩
theorem rj(m:eZ L 0 []=some r)(hi:i<L.length)(e:eZ (L.take i) 0 []=some (h,ls)): ∃j b,dst L[i] h ls=some (j,b)/\eZ (L.take (i+1)) 0 []=some (j,b):=by
 obtain⟨j,b,l⟩:=A4 m (i+1);have:=Ah hi e;rw[l] at this;exact⟨j,b,this.symm,l⟩
theorem mT(hi:i<L.length): L.getD i []=L[i]:=by
 rw[cL,cH hi];rfl
variable {p:Nat × List Nat}
theorem yA(e:dst [91] h ls=some p): h≠0/\p=(h-1,ls++[h-1]):=by
 unfold dst at e;rw[cg rfl] at e;split at e
 .cases e
 .rename_i b;injection e with e;exact⟨b,e.symm⟩
theorem B7{m:Nat}(e:dst [93] h (ls++[m])=some p): h=m/\p=(h,ls):=by
 unfold dst at e;rw[cd (by decide),cg rfl] at e;simp only[Tr,Ts,Option.some_or,Tt] at e;split at e
 .rename_i b;injection e with e;exact⟨b,e.symm⟩
 .cases e
theorem vM{x:List UInt8}(h1:x≠[91])(h2:x≠[93])(e:dst x h ls=some p): ∃n m,tk true x=some (n,m)/\n<=h/\h-n+m<=16/\p=(h-n+m,ls):=by
 unfold dst at e;rw[cd h1,cd h2] at e;split at e
 .cases e
 .rename_i n m j;split at e
  .rename_i b;injection e with e;exact⟨n,m,j,b.1,b.2,e.symm⟩
  .cases e
theorem skip(E:kh true L 0=true)(y:eZ L 0 []=some r){a:Nat}(ha:a<L.length)(hb:L[a]=[91])(e:eZ (L.take a) 0 []=some (h,ls)):∃n,Ao (L.drop a) a 0=some n/\a<n/\n<L.length/\L.getD n []=[93]/\eZ (L.take (n+1)) 0 []=some (h-1,ls)/\h≠0:=by
 obtain⟨X,K,j,F⟩:=rj y ha e;rw[hb] at j;obtain⟨z,j⟩:=yA j;injection j with j M;subst j M;obtain⟨N,k⟩:=uo E _ _ _ (by omega) F;have x:=(uo E _ _ _ (by omega) e).2;obtain⟨b,O,A,P,q,Q⟩:=vy (L.drop (a+1)) ls.length 0 (iJ _) (by omega) (by
  have:((ls++[h-1]).length:Int)=(ls.length:Int)+0+1:=by simp
  rw[<-this];exact N)
 have G:b.length+(O.length+1)=L.length-(a+1):=by
  have:=congrArg List.length A;simp only[uT,lN,cD] at this;omega
 have l:Ao (L.drop a) a 0=some (a+1+b.length):=by
  rw[kp ha,hb];simp only[Ao,show ds [91]=1 by decide];rw[cd (by omega)];have:=Q (a+1) [];rw[B2] at this;simpa using this
 have m:a+1+b.length<L.length:=by omega
 have H:L[a+1+b.length]=[93]:=by
  have I:(L.drop (a+1))[b.length]?=some [93]:=by rw[A];simp
  rw[Gt,cH m] at I;exact iP I
 have B:L.take (a+1+b.length)=L.take (a+1)++b:=by
  rw[List.take_add,A];simp
 obtain⟨f,R,J⟩:=A4 y (a+1+b.length);have C:=J;rw[B,ld,F] at C;simp only at C;have D:=SY P (by omega) _ C;subst D;obtain⟨t,S,u,T⟩:=rj y m J;rw[H] at u;obtain⟨U,u⟩:=B7 u;injection u with V W;subst V W U;exact⟨_,l,by omega,m,by rw[mT m];exact H,T,z⟩
theorem tg{E:Ev}(K:kh true L 0=true)(H:eZ L 0 []=some r){s t:Ms}(M:yH L s)(hi:s.at'<L.length)(h:gy L E s=some t): yH L t:=by
 obtain⟨C,ls,e,j,l⟩:=M.ex;obtain⟨x,N,d,D⟩:=rj H hi e;unfold gy at h;rw[mT hi] at h;split at h
 .cases h
 .split at h
  .rename_i u;rw[u] at d;obtain⟨O,d⟩:=yA d;injection d with y z;subst y z;split at h
   .cases h
   .rename_i n T F;rw[F] at j;simp only[cD] at j;split at h
    .obtain⟨m,P,q,f,o,Q,g⟩:=skip K H hi u e;injection h with h;subst h;rw[P];exact⟨by simp;omega,C-1,ls,Q,by simp;omega,l⟩
    .injection h with h;subst h;exact⟨by simp;omega,C-1,ls++[C-1],D,by simp;omega,by omega,hi,by rw[mT hi];exact u,C-1,ls,rfl,D,l⟩
  .split at h
   .rename_i b u;rw[u] at d;split at h
    .cases h
    .rename_i k a rr G;rw[G] at l;obtain⟨k1,R,S,h0,U,rfl,I,A⟩:=l;obtain⟨J,d⟩:=B7 d;injection d with y z;subst y z J;split at h
     .injection h with h;subst h;exact⟨by simp;omega,_,_,I,j,by omega,R,S,_,_,rfl,I,A⟩
     .injection h with h;subst h;exact⟨by simp;omega,_,_,D,j,A⟩
   .rename_i b B;obtain⟨T,V,h⟩:=Tw.1 h;subst h;obtain⟨n,m,W,hn,J,d⟩:=vM b B d;injection d with y z;subst y z;obtain⟨w1,X⟩:=Gq b B W V;exact⟨by simp;omega,_,_,D,by simp only;rw[X,j],l⟩
theorem Mj(L:List (List UInt8))(f:Nat):yH L ⟨0,f,[],[]⟩:=⟨cy _,0,[],by simp[eZ],rfl,rfl⟩
theorem Ht(b:eZ L 0 []=some (1,[])){s:Ms}(j:yH L s)(hi:L.length<=s.at'): s.T.length=1:=by
 obtain⟨l,ls,e,m,u⟩:=j.ex;rw[zS hi,b] at e;injection e with e;injection e with e1 e2;omega
end Sp
section
open Go.RowKit
structure jj (w:TJ) (M:Nat) (code:TK) (at' fuel:Nat) (E:Sp.Ev) (T:List Int) (loops:TK):Prop where
 c0:w.cell? ⟨M,0,none⟩=some code
 c1:w.cell? ⟨M,1,none⟩=some (Z Y at')
 c2:w.cell? ⟨M,2,none⟩=some (Z Y fuel)
 e0:w.cell? ⟨M,3,none⟩=some (Z Y E.value)
 e1:w.cell? ⟨M,4,none⟩=some (Z Y E.je)
 e2:w.cell? ⟨M,5,none⟩=some (Z Y E.iK)
 e3:w.cell? ⟨M,6,none⟩=some (Z Y E.step)
 e4:w.cell? ⟨M,7,none⟩=some (Z Y E.id)
 e5:w.cell? ⟨M,8,none⟩=some (Z Y E.deg)
 e6:w.cell? ⟨M,9,none⟩=some (Z Y E.all)
 e7:w.cell? ⟨M,10,none⟩=some (Z Y E.vq)
 e8:w.cell? ⟨M,11,none⟩=some (Z Y E.weight)
 st:∀j,j<16->∃n:Int,w.cell? ⟨M,12+j,none⟩=some (Z Y n)
 sv:∀j (hj:j<T.length),w.cell? ⟨M,12+(T.length-1-j),none⟩=some (Z Y T[j])
 hh:w.cell? ⟨M,28,none⟩=some (Z Y T.length)
 ll:w.cell? ⟨M,29,none⟩=some loops
 dr:w.cell? ⟨M,30,none⟩=some (.bool false)
 fz:∀j,w.frozen? ⟨M,j,none⟩=false
 le:T.length<=16
variable {at' M fuel:Nat}{w:TJ}{code loops:TK}{E:Sp.Ev}{T:List Int}
theorem jj.lt(hd:jj w M code at' fuel E T loops): M<w.heap.size:=cE w _ hd.c0
theorem jj.drew(h:jj w M code at' fuel E T loops): jj w.drew M code at' fuel E T loops:=⟨h.c0,h.c1,h.c2,h.e0,h.e1,h.e2,h.e3,h.e4,h.e5,h.e6,h.e7,h.e8,h.st,h.sv,h.hh,h.ll,h.dr,h.fz,h.le⟩
theorem jj.drewN(h:jj w M code at' fuel E T loops)(n:Nat): jj (w.drewN n) M code at' fuel E T loops:=⟨h.c0,h.c1,h.c2,h.e0,h.e1,h.e2,h.e3,h.e4,h.e5,h.e6,h.e7,h.e8,h.st,h.sv,h.hh,h.ll,h.dr,h.fz,h.le⟩
theorem ey.drewN{w':TJ}(h:ey M w w')(n:Nat): ey M w (w'.drewN n):=⟨h.1,h.2,h.os,h.tape,h.output⟩
theorem jj.push(h:jj w M code at' fuel E T loops)(u:T.length<16)(v:Int):jj ((w.setCell ⟨M,12+T.length,none⟩ (Z Y v)).setCell ⟨M,28,none⟩ (Z Y ((T.length+1:Nat):Int))) M code at' fuel E (v::T) loops:=by
 have b:∀j,j<12\/28<j->((w.setCell ⟨M,12+T.length,none⟩ (Z Y v)).setCell ⟨M,28,none⟩ (Z Y ((T.length+1:Nat):Int))).cell? ⟨M,j,none⟩=w.cell? ⟨M,j,none⟩:=λj m=>by
  rw[cR (by omega),cR (by omega)]
 obtain⟨y,l⟩:=h.st T.length u;refine⟨(b 0 (by omega)).trans h.c0,(b 1 (by omega)).trans h.c1,(b 2 (by omega)).trans h.c2,(b 3 (by omega)).trans h.e0,(b 4 (by omega)).trans h.e1,(b 5 (by omega)).trans h.e2,(b 6 (by omega)).trans h.e3,(b 7 (by omega)).trans h.e4,(b 8 (by omega)).trans h.e5,(b 9 (by omega)).trans h.e6,(b 10 (by omega)).trans h.e7,(b 11 (by omega)).trans h.e8,λj m=>?_,λj m=>?_,?_,(b 29 (by omega)).trans h.ll,(b 30 (by omega)).trans h.dr,λj=>?_,by simp;omega⟩
 .rw[cR (by omega)];by_cases e:T.length=j
  .subst e;exact⟨v,mm _ _ _ l⟩
  .rw[cR (by omega)];exact h.st j m
 .simp only[cD] at m;rw[cD,cR (by omega)];cases j with
  |zero =>
   rw[show T.length+1-1-0=T.length by omega];exact mm _ _ _ l
  |succ j =>
   rw[show T.length+1-1-(j+1)=T.length-1-j by omega,cR (by omega)];exact h.sv j (by omega)
 .have r:(w.setCell ⟨M,12+T.length,none⟩ (Z Y v)).cell? ⟨M,28,none⟩=some (Z Y T.length):=(cR (by omega)).trans h.hh;exact mm _ _ _ r
 .rw[kX,kX];exact h.fz j
theorem jj.pop{v:Int}(h:jj w M code at' fuel E (v::T) loops):jj (w.setCell ⟨M,28,none⟩ (Z Y (T.length:Int))) M code at' fuel E T loops/\w.cell? ⟨M,12+T.length,none⟩=some (Z Y v):=by
 have b:∀j,j≠28->(w.setCell ⟨M,28,none⟩ (Z Y (T.length:Int))).cell? ⟨M,j,none⟩=w.cell? ⟨M,j,none⟩:=λj e=>cR (by omega)
 have l:=h.le;simp only[cD] at l;refine⟨⟨(b 0 (by omega)).trans h.c0,(b 1 (by omega)).trans h.c1,(b 2 (by omega)).trans h.c2,(b 3 (by omega)).trans h.e0,(b 4 (by omega)).trans h.e1,(b 5 (by omega)).trans h.e2,(b 6 (by omega)).trans h.e3,(b 7 (by omega)).trans h.e4,(b 8 (by omega)).trans h.e5,(b 9 (by omega)).trans h.e6,(b 10 (by omega)).trans h.e7,(b 11 (by omega)).trans h.e8,λj e=>?_,λj e=>?_,mm _ _ _ h.hh,(b 29 (by omega)).trans h.ll,(b 30 (by omega)).trans h.dr,λj=>?_,by omega⟩,?_⟩
 .rw[b _ (by omega)];exact h.st j e
 .rw[b _ (by omega)];have:=h.sv (j+1) (by simp;omega);simp only[cD,List.getElem_cons_succ] at this;rw[show T.length+1-1-(j+1)=T.length-1-j by omega] at this;exact this
 .rw[kX];exact h.fz j
 .have:=h.sv 0 (by simp);simp only[cD,List.getElem_cons_zero] at this;rw[show T.length+1-1-0=T.length by omega] at this;exact this
theorem jX(v:Int)(M at' fuel:Nat)(E:Sp.Ev)(T:List Int)(code loops:TK)(w:TJ)(hd:jj w M code at' fuel E T loops)(b:T.length<16):TL prog 162 #[.pointer (some ⟨M,0,none⟩),Z Y v] w λe j=>e=.returned (.tuple #[])/\jj j M code at' fuel E (v::T) loops/\ey M w j:=by
 have m:=hd.hh;obtain⟨x,r⟩:=hd.st T.length b;have u:=hd.fz (12+T.length);have y:=hd.fz 28;have l:=cP (hd.push b v);generalize T.length=h at *;have z:(((h:Nat):Int) == 16)=false:=cC.2 (by omega);have A:(0:Int)<=(h:Int):=iJ _;have B:(h:Int)<(16:Int):=by omega
 clear hd;go_enter func162,ntmps162;go_wp2
 go_region
 go_wp2;exact cw (cu rfl _ _ _) rfl ⟨rfl,(cO l).drew,(((ey.refl M w).set _ _).set _ _).drew⟩
theorem qX(v:Int)(M at' fuel:Nat)(E:Sp.Ev)(T:List Int)(code loops:TK)(w:TJ)(hd:jj w M code at' fuel E (v::T) loops):TL prog 184 #[.pointer (some ⟨M,0,none⟩)] w λe l=>e=.returned (Z Y v)/\jj l M code at' fuel E T loops/\ey M w l:=by
 have b:=hd.hh;have u:=hd.fz 28;have y:=hd.dr;obtain⟨m,r⟩:=hd.pop;have z:=cP m;have j:=hd.le;simp only[cD] at b j;clear hd m;generalize T.length=h at *;have B:((((h+1:Nat)):Int) == 0)=false:=cC.2 (by omega);have C:((h+1:Nat):Int)-1=(h:Int):=by omega
 have D:(0:Int)<=(h:Int):=iJ _;have F:(h:Int)<(16:Int):=by omega
 go_enter func184,ntmps184;go_wp2;have G:(w.setCell ⟨M,28,none⟩ (Z Y (h:Int))).cell? ⟨M,28,none⟩=some (Z Y (h:Int)):=mm _ _ _ b;have H:(w.setCell ⟨M,28,none⟩ (Z Y (h:Int))).cell? ⟨M,12+h,none⟩=some (Z Y v):=(cR (by omega)).trans r;have A:=cP ((ey.refl M w).set 28 (Z Y (h:Int)));generalize w.setCell ⟨M,28,none⟩ (Z Y (h:Int))=W at *;clear b u y r
 go_quiet (fail)
 go_wp2;exact cr (v := Z Y v) (by simp[results,results184,go_sem]) rfl ⟨rfl,(cO z).drewN _,(cO A).drewN _⟩
theorem j9(a b:Int)(M at' fuel:Nat)(E:Sp.Ev)(T:List Int)(code loops:TK)(w:TJ)(hd:jj w M code at' fuel E (b::a::T) loops):TL prog 172 #[.pointer (some ⟨M,0,none⟩)] w λe u=>e=.returned (.tuple #[Z Y a,Z Y b])/\jj u M code at' fuel E T loops/\ey M w u:=by
 go_enter func172,ntmps172;go_wp2_with fail;refine(qX b M at' fuel E (a::T) code loops w hd).mono ?_;rintro e y ⟨rfl,j,l⟩;go_wp2_with fail;refine(qX a M at' fuel E T code loops y j).mono ?_;rintro e z ⟨rfl,m,r⟩;go_wp2;exact cr (v := .tuple #[Z Y a,Z Y b]) (by simp[results,results172,go_sem]) rfl ⟨rfl,m,l.trans r⟩
theorem Ii(a b:Int)(M at' fuel:Nat)(E:Sp.Ev)(T:List Int)(code loops:TK)(w:TJ)(hd:jj w M code at' fuel E (b::a::T) loops)(hb:¬b=0):TL prog 176 #[.pointer (some ⟨M,0,none⟩)] w λe m=>e=.returned (.tuple #[Z Y a,Z Y b])/\jj m M code at' fuel E T loops/\ey M w m:=by
 have r:(b == 0)=false:=cC.2 hb;go_enter func176,ntmps176;go_wp2_with fail;refine(j9 a b M at' fuel E T code loops w hd).mono ?_;rintro e u ⟨rfl,j,l⟩;go_wp2;exact cr (v := .tuple #[Z Y a,Z Y b]) (by simp[results,results176,go_sem]) rfl ⟨rfl,j,l⟩
theorem IU(a:Int)(M at' fuel:Nat)(E:Sp.Ev)(T:List Int)(code loops:TK)(w:TJ)(hd:jj w M code at' fuel E (0::a::T) loops)(j:1≠M)(u:TypeId)(p:TK)(he:w.cell? ⟨1,0,none⟩=some (.iface u p)):TL prog 176 #[.pointer (some ⟨M,0,none⟩)] w λe l=>e=.panicked [{ v := .iface u p,recovered:=false }]/\ey M w l:=by
 go_enter func176,ntmps176;go_wp2_with fail;refine(j9 a 0 M at' fuel E T code loops w hd).mono ?_;rintro e y ⟨rfl,m,b⟩;have r:=(b.cell j).trans he;go_wp2;exact⟨rfl,rfl,b⟩
theorem Mg(q:Bool)(M at' fuel:Nat)(E:Sp.Ev)(T:List Int)(code loops:TK)(w:TJ)(hd:jj w M code at' fuel E T loops)(l:T.length<16):TL prog 179 #[.pointer (some ⟨M,0,none⟩),.bool q] w λe m=>e=.returned (.tuple #[])/\jj m M code at' fuel E ((if q=true then 1 else 0)::T) loops/\ey M w m:=by
 cases q with
 |true =>
  go_enter func179,ntmps179;go_wp2_with fail;refine(jX 1 M at' fuel E T code loops w hd l).mono ?_;rintro e r ⟨rfl,b,j⟩;go_wp2;exact cw (cu rfl _ _ _) rfl ⟨rfl,b,j⟩
 |false =>
  go_enter func179,ntmps179;go_wp2_with fail;refine(jX 0 M at' fuel E T code loops w hd l).mono ?_;rintro e r ⟨rfl,b,j⟩;go_wp2;exact cw (cu rfl _ _ _) rfl ⟨rfl,b,j⟩
end
section
open Go.RowKit
def Jd(o:Option (List Int))(M m j:Nat)(E:Sp.Ev)(l b:TK)(u:TypeId)(p:TK)(w:TJ)(e:Ending)(w':TJ):Prop:=ey M w w'/\match o with
  |some T=>e=.returned (.tuple #[])/\jj w' M l m j E T b
  |none=>e=.panicked [{ v := .iface u p,recovered:=false }]
structure JI (M:Nat) (u:TypeId) (p:TK) (w:TJ):Prop where
 hM:1≠M
 he:w.cell? ⟨1,0,none⟩=some (.iface u p)
def ib(F:Nat)(x:List UInt8)(n m:Nat):Prop := ∀(M j e:Nat) (E:Sp.Ev) (T:List Int) (code b:TK) (u:TypeId) (p:TK) (w:TJ),jj w M code j e E T b->JI M u p w->n<=T.length->T.length-n+m<=16->
 TL prog F #[.pointer (some ⟨M,0,none⟩)] w (Jd (Sp.lj E x T) M j e E code b u p w)
theorem mv{T:List Int}(h:2<=T.length):∃b a r,T=b::a::r:=by
 match T,h with
 |b::a::r,_=>exact⟨b,a,r,rfl⟩
theorem CJ{T:List Int}(h:1<=T.length):∃a r,T=a::r:=by
 match T,h with
 |a::r,_=>exact⟨a,r,rfl⟩
theorem Kd{T:List Int}(h:3<=T.length):∃c b a r,T=c::b::a::r:=by
 match T,h with
 |c::b::a::r,_=>exact⟨c,b,a,r,rfl⟩
namespace Sp
theorem lT{E:Ev}{x:List UInt8}{T:List Int}(b:number x=none)(h:x∈jH\/x=[119,101,105,103,104,116]):lj E x T=some (wg E x::T):=by
 unfold lj;rw[b];simp only;rw[cg h]
theorem jG{E:Ev}{x:List UInt8}{a b:Int}{r:List Int}(e:number x=none)(h1:¬(x∈jH\/x=[119,101,105,103,104,116]))(h:x∈oy):lj E x (b::a::r)=(tx x a b).map (· :: r):=by
 unfold lj;rw[e];simp only;rw[cd h1,cg h]
end Sp
theorem Qf:ib 161 [118,97,108,117,101] 0 1:=by
 intro M m j E T l b u p w hd z A B;have C:=hd.e0;rw[Sp.lT (by decide) (by decide),show Sp.wg E [118,97,108,117,101]=E.value by simp[Sp.wg]];go_enter func161,ntmps161;go_wp2_with fail;refine(jX E.value M m j E T l b w hd (by omega)).mono ?_;rintro e D ⟨rfl,r,y⟩;go_wp2;exact cw (cu rfl _ _ _) rfl ⟨y,rfl,r⟩
theorem Ql:ib 163 [111,108,100] 0 1:=by
 intro M m j E T l b u p w hd z A B;have C:=hd.e7;rw[Sp.lT (by decide) (by decide),show Sp.wg E [111,108,100]=E.vq by simp[Sp.wg]];go_enter func163,ntmps163;go_wp2_with fail;refine(jX E.vq M m j E T l b w hd (by omega)).mono ?_;rintro e D ⟨rfl,r,y⟩;go_wp2;exact cw (cu rfl _ _ _) rfl ⟨y,rfl,r⟩
theorem Pz:ib 164 [105,110] 0 1:=by
 intro M m j E T l b u p w hd z A B;have C:=hd.e1;rw[Sp.lT (by decide) (by decide),show Sp.wg E [105,110]=E.je by simp[Sp.wg]];go_enter func164,ntmps164;go_wp2_with fail;refine(jX E.je M m j E T l b w hd (by omega)).mono ?_;rintro e D ⟨rfl,r,y⟩;go_wp2;exact cw (cu rfl _ _ _) rfl ⟨y,rfl,r⟩
theorem Pp:ib 165 [103,111,116] 0 1:=by
 intro M m j E T l b u p w hd z A B;have C:=hd.e2;rw[Sp.lT (by decide) (by decide),show Sp.wg E [103,111,116]=E.iK by simp[Sp.wg]];go_enter func165,ntmps165;go_wp2_with fail;refine(jX E.iK M m j E T l b w hd (by omega)).mono ?_;rintro e D ⟨rfl,r,y⟩;go_wp2;exact cw (cu rfl _ _ _) rfl ⟨y,rfl,r⟩
theorem Pw:ib 166 [115,116,101,112] 0 1:=by
 intro M m j E T l b u p w hd z A B;have C:=hd.e3;rw[Sp.lT (by decide) (by decide),show Sp.wg E [115,116,101,112]=E.step by simp[Sp.wg]];go_enter func166,ntmps166;go_wp2_with fail;refine(jX E.step M m j E T l b w hd (by omega)).mono ?_;rintro e D ⟨rfl,r,y⟩;go_wp2;exact cw (cu rfl _ _ _) rfl ⟨y,rfl,r⟩
theorem Pj:ib 167 [105,100] 0 1:=by
 intro M m j E T l b u p w hd z A B;have C:=hd.e4;rw[Sp.lT (by decide) (by decide),show Sp.wg E [105,100]=E.id by simp[Sp.wg]];go_enter func167,ntmps167;go_wp2_with fail;refine(jX E.id M m j E T l b w hd (by omega)).mono ?_;rintro e D ⟨rfl,r,y⟩;go_wp2;exact cw (cu rfl _ _ _) rfl ⟨y,rfl,r⟩
theorem Qo:ib 168 [100,101,103] 0 1:=by
 intro M m j E T l b u p w hd z A B;have C:=hd.e5;rw[Sp.lT (by decide) (by decide),show Sp.wg E [100,101,103]=E.deg by simp[Sp.wg]];go_enter func168,ntmps168;go_wp2_with fail;refine(jX E.deg M m j E T l b w hd (by omega)).mono ?_;rintro e D ⟨rfl,r,y⟩;go_wp2;exact cw (cu rfl _ _ _) rfl ⟨y,rfl,r⟩
theorem Qm:ib 169 [97,108,108] 0 1:=by
 intro M m j E T l b u p w hd z A B;have C:=hd.e6;rw[Sp.lT (by decide) (by decide),show Sp.wg E [97,108,108]=E.all by simp[Sp.wg]];go_enter func169,ntmps169;go_wp2_with fail;refine(jX E.all M m j E T l b w hd (by omega)).mono ?_;rintro e D ⟨rfl,r,y⟩;go_wp2;exact cw (cu rfl _ _ _) rfl ⟨y,rfl,r⟩
theorem Pe:ib 170 [119,101,105,103,104,116] 0 1:=by
 intro M m j E T l b u p w hd z A B;have C:=hd.e8;rw[Sp.lT (by decide) (by decide),show Sp.wg E [119,101,105,103,104,116]=E.weight by simp[Sp.wg]];go_enter func170,ntmps170;go_wp2_with fail;refine(jX E.weight M m j E T l b w hd (by omega)).mono ?_;rintro e D ⟨rfl,r,y⟩;go_wp2;exact cw (cu rfl _ _ _) rfl ⟨y,rfl,r⟩
theorem OB:ib 171 [43] 2 1:=by
 intro M y l E T m j u p w hd H D F;obtain⟨b,a,r,rfl⟩:=mv D;simp only[cD] at F;rw[Sp.jG (by decide) (by decide) (by decide),show Sp.tx [43] a b=some (wrap64 (a+b)) by simp[Sp.tx]];go_enter func171,ntmps171;go_wp2_with fail;refine(j9 a b M y l E r m j w hd).mono ?_;rintro e G ⟨rfl,z,A⟩;go_wp2_with fail;refine(jX (wrap64 (a+b)) M y l E r m j G z (by omega)).mono ?_;rintro e I ⟨rfl,B,C⟩;go_wp2;exact cw (cu rfl _ _ _) rfl ⟨A.trans C,rfl,B⟩
theorem OK:ib 173 [45] 2 1:=by
 intro M y l E T m j u p w hd H D F;obtain⟨b,a,r,rfl⟩:=mv D;simp only[cD] at F;rw[Sp.jG (by decide) (by decide) (by decide),show Sp.tx [45] a b=some (wrap64 (a-b)) by simp[Sp.tx]];go_enter func173,ntmps173;go_wp2_with fail;refine(j9 a b M y l E r m j w hd).mono ?_;rintro e G ⟨rfl,z,A⟩;go_wp2_with fail;refine(jX (wrap64 (a-b)) M y l E r m j G z (by omega)).mono ?_;rintro e I ⟨rfl,B,C⟩;go_wp2;exact cw (cu rfl _ _ _) rfl ⟨A.trans C,rfl,B⟩
theorem NF:ib 174 [42] 2 1:=by
 intro M y l E T m j u p w hd H D F;obtain⟨b,a,r,rfl⟩:=mv D;simp only[cD] at F;rw[Sp.jG (by decide) (by decide) (by decide),show Sp.tx [42] a b=some (wrap64 (a*b)) by simp[Sp.tx]];go_enter func174,ntmps174;go_wp2_with fail;refine(j9 a b M y l E r m j w hd).mono ?_;rintro e G ⟨rfl,z,A⟩;go_wp2_with fail;refine(jX (wrap64 (a*b)) M y l E r m j G z (by omega)).mono ?_;rintro e I ⟨rfl,B,C⟩;go_wp2;exact cw (cu rfl _ _ _) rfl ⟨A.trans C,rfl,B⟩
end
section
open Go.RowKit
theorem Ow:ib 175 [47] 2 1:=by
 intro M y l E T m j u p w hd F H I;obtain⟨b,a,r,rfl⟩:=mv H;simp only[cD] at I;rw[Sp.jG (by decide) (by decide) (by decide)];by_cases A:b=0
 .subst A;rw[show Sp.tx [47] a 0=none by simp[Sp.tx]];go_enter func175,ntmps175;go_wp2_with fail;refine(IU a M y l E r m j w hd F.hM u p F.he).mono ?_;rintro e G ⟨rfl,z⟩;go_wp2;exact⟨rfl,z,rfl⟩
 .rw[show Sp.tx [47] a b=some (wrap64 (a.tdiv b)) by simp[Sp.tx,A]];go_enter func175,ntmps175;go_wp2_with fail;refine(Ii a b M y l E r m j w hd A).mono ?_;rintro e G ⟨rfl,B,z⟩;go_wp2_with fail;refine(jX (wrap64 (a.tdiv b)) M y l E r m j G B (by omega)).mono ?_;rintro e J ⟨rfl,C,D⟩;go_wp2;exact cw (cu rfl _ _ _) rfl ⟨z.trans D,rfl,C⟩
theorem NZ:ib 177 [37] 2 1:=by
 intro M y l E T m j u p w hd F H I;obtain⟨b,a,r,rfl⟩:=mv H;simp only[cD] at I;rw[Sp.jG (by decide) (by decide) (by decide)];by_cases A:b=0
 .subst A;rw[show Sp.tx [37] a 0=none by simp[Sp.tx]];go_enter func177,ntmps177;go_wp2_with fail;refine(IU a M y l E r m j w hd F.hM u p F.he).mono ?_;rintro e G ⟨rfl,z⟩;go_wp2;exact⟨rfl,z,rfl⟩
 .rw[show Sp.tx [37] a b=some (a.tmod b) by simp[Sp.tx,A]];go_enter func177,ntmps177;go_wp2_with fail;refine(Ii a b M y l E r m j w hd A).mono ?_;rintro e G ⟨rfl,B,z⟩;go_wp2_with fail;refine(jX (a.tmod b) M y l E r m j G B (by omega)).mono ?_;rintro e J ⟨rfl,C,D⟩;go_wp2;exact cw (cu rfl _ _ _) rfl ⟨z.trans D,rfl,C⟩
theorem Oe:ib 178 [60] 2 1:=by
 intro M y l E T m j u p w hd I F G;obtain⟨b,a,r,rfl⟩:=mv F;simp only[cD] at G;rw[Sp.jG (by decide) (by decide) (by decide),show Sp.tx [60] a b=some (if (decide (a<b))=true then 1 else 0) by simp[Sp.tx]];generalize A:(if (decide (a<b))=true then (1:Int) else 0)=v;replace A:=cP A;go_enter func178,ntmps178;go_wp2_with fail;refine(j9 a b M y l E r m j w hd).mono ?_;rintro e H ⟨rfl,B,C⟩;go_wp2_with fail;refine(Mg (decide (a<b)) M y l E r m j H B (by omega)).mono ?_;rintro e J ⟨rfl,z,D⟩;rw[cO A] at z;go_wp2;exact cw (cu rfl _ _ _) rfl ⟨C.trans D,rfl,z⟩
theorem MO:ib 180 [61] 2 1:=by
 intro M y l E T m j u p w hd I F G;obtain⟨b,a,r,rfl⟩:=mv F;simp only[cD] at G;rw[Sp.jG (by decide) (by decide) (by decide),show Sp.tx [61] a b=some (if (a == b)=true then 1 else 0) by simp[Sp.tx]];generalize A:(if (a == b)=true then (1:Int) else 0)=v;replace A:=cP A;go_enter func180,ntmps180;go_wp2_with fail;refine(j9 a b M y l E r m j w hd).mono ?_;rintro e H ⟨rfl,B,C⟩;go_wp2_with fail;refine(Mg (a == b) M y l E r m j H B (by omega)).mono ?_;rintro e J ⟨rfl,z,D⟩;rw[cO A] at z;go_wp2;exact cw (cu rfl _ _ _) rfl ⟨C.trans D,rfl,z⟩
theorem NT:ib 181 [109,105,110] 2 1:=by
 intro M y l E T m j u p w hd H D F;obtain⟨b,a,r,rfl⟩:=mv D;simp only[cD] at F;rw[Sp.jG (by decide) (by decide) (by decide),show Sp.tx [109,105,110] a b=some (min a b) by simp[Sp.tx]];go_enter func181,ntmps181;go_wp2_with fail;refine(j9 a b M y l E r m j w hd).mono ?_;rintro e G ⟨rfl,z,A⟩;go_wp2_with fail;refine(jX (min a b) M y l E r m j G z (by omega)).mono ?_;rintro e I ⟨rfl,B,C⟩;go_wp2;exact cw (cu rfl _ _ _) rfl ⟨A.trans C,rfl,B⟩
theorem Nr:ib 182 [109,97,120] 2 1:=by
 intro M y l E T m j u p w hd H D F;obtain⟨b,a,r,rfl⟩:=mv D;simp only[cD] at F;rw[Sp.jG (by decide) (by decide) (by decide),show Sp.tx [109,97,120] a b=some (max a b) by simp[Sp.tx]];go_enter func182,ntmps182;go_wp2_with fail;refine(j9 a b M y l E r m j w hd).mono ?_;rintro e G ⟨rfl,z,A⟩;go_wp2_with fail;refine(jX (max a b) M y l E r m j G z (by omega)).mono ?_;rintro e I ⟨rfl,B,C⟩;go_wp2;exact cw (cu rfl _ _ _) rfl ⟨A.trans C,rfl,B⟩
theorem NH:ib 183 [100,117,112] 1 2:=by
 intro M m j E T l b u p w hd J F G;obtain⟨a,r,rfl⟩:=CJ F;simp only[cD] at G;rw[show Sp.lj E [100,117,112] (a::r)=some (a::a::r) by unfold Sp.lj;rw[show Sp.number [100,117,112]=none by decide];simp[Sp.jH,Sp.oy]];go_enter func183,ntmps183;go_wp2_with fail;refine(qX a M m j E r l b w hd).mono ?_;rintro e H ⟨rfl,y,z⟩;go_wp2_with fail;refine(jX a M m j E r l b H y (by omega)).mono ?_;rintro e I ⟨rfl,A,B⟩;go_wp2_with fail;refine(jX a M m j E (a::r) l b I A (by simp;omega)).mono ?_;rintro e w3 ⟨rfl,C,D⟩;go_wp2;exact cw (cu rfl _ _ _) rfl ⟨(z.trans B).trans D,rfl,C⟩
theorem Nc:ib 185 [100,114,111,112] 1 0:=by
 intro M m j E T l b u p w hd C A B;obtain⟨a,r,rfl⟩:=CJ A;simp only[cD] at B;rw[show Sp.lj E [100,114,111,112] (a::r)=some (r) by unfold Sp.lj;rw[show Sp.number [100,114,111,112]=none by decide];simp[Sp.jH,Sp.oy]];go_enter func185,ntmps185;go_wp2_with fail;refine(qX a M m j E r l b w hd).mono ?_;rintro e D ⟨rfl,y,z⟩;go_wp2;exact cw (cu rfl _ _ _) rfl ⟨z,rfl,y⟩
theorem NL:ib 186 [115,119,97,112] 2 2:=by
 intro M y l E T m j u p w hd K G H;obtain⟨b,a,r,rfl⟩:=mv G;simp only[cD] at H;rw[show Sp.lj E [115,119,97,112] (b::a::r)=some (a::b::r) by unfold Sp.lj;rw[show Sp.number [115,119,97,112]=none by decide];simp[Sp.jH,Sp.oy]];go_enter func186,ntmps186;go_wp2_with fail;refine(j9 a b M y l E r m j w hd).mono ?_;rintro e I ⟨rfl,z,A⟩;go_wp2_with fail;refine(jX b M y l E r m j I z (by omega)).mono ?_;rintro e J ⟨rfl,B,C⟩;go_wp2_with fail;refine(jX a M y l E (b::r) m j J B (by simp;omega)).mono ?_;rintro e w3 ⟨rfl,D,F⟩;go_wp2;exact cw (cu rfl _ _ _) rfl ⟨(A.trans C).trans F,rfl,D⟩
theorem NI:ib 187 [111,118,101,114] 2 3:=by
 intro M y l E T m j u p w hd N I J;obtain⟨b,a,r,rfl⟩:=mv I;simp only[cD] at J;rw[show Sp.lj E [111,118,101,114] (b::a::r)=some (a::b::a::r) by unfold Sp.lj;rw[show Sp.number [111,118,101,114]=none by decide];simp[Sp.jH,Sp.oy]];go_enter func187,ntmps187;go_wp2_with fail;refine(j9 a b M y l E r m j w hd).mono ?_;rintro e K ⟨rfl,z,A⟩;go_wp2_with fail;refine(jX a M y l E r m j K z (by omega)).mono ?_;rintro e L ⟨rfl,B,C⟩;go_wp2_with fail;refine(jX b M y l E (a::r) m j L B (by simp;omega)).mono ?_;rintro e w3 ⟨rfl,D,F⟩;go_wp2_with fail;refine(jX a M y l E (b::a::r) m j w3 D (by simp;omega)).mono ?_;rintro e O ⟨rfl,G,H⟩;go_wp2;exact cw (cu rfl _ _ _) rfl ⟨((A.trans C).trans F).trans H,rfl,G⟩
end
section
open Go.RowKit
theorem KZ(a b c v:Int)(M u l:Nat)(E:Sp.Ev)(r:List Int)(m j:TK)(w:TJ)(hd:jj w M m u l E (c::b::a::r) j)(L:Hid ((if a≠0 then b else c)=v)):TL prog 189 #[.pointer (some ⟨M,0,none⟩)] w λe N=>e=.returned (.tuple #[])/\jj N M m u l E (v::r) j/\ey M w N:=by
 have H:=hd.le;simp only[cD] at H;by_cases G:a=0
 .have I:(a != 0)=false:=by simp[G]
  have y:c=v:=by rw[<-cO L,cd (by simp[G])]
  subst y;go_enter func189,ntmps189;go_wp2_with fail;refine(j9 b c M u l E (a::r) m j w hd).mono ?_;rintro e J ⟨rfl,z,A⟩;go_wp2_with fail;refine(qX a M u l E r m j J z).mono ?_;rintro e K ⟨rfl,B,C⟩;go_wp2_with fail;refine(jX c M u l E r m j K B (by omega)).mono ?_;rintro e w3 ⟨rfl,D,F⟩;go_wp2;exact cw (cu rfl _ _ _) rfl ⟨rfl,D,(A.trans C).trans F⟩
 .have I:(a != 0)=true:=by simp[G]
  have y:b=v:=by rw[<-cO L,cg G]
  subst y;go_enter func189,ntmps189;go_wp2_with fail;refine(j9 b c M u l E (a::r) m j w hd).mono ?_;rintro e J ⟨rfl,z,A⟩;go_wp2_with fail;refine(qX a M u l E r m j J z).mono ?_;rintro e K ⟨rfl,B,C⟩;go_wp2_with fail;refine(jX b M u l E r m j K B (by omega)).mono ?_;rintro e w3 ⟨rfl,D,F⟩;go_wp2;exact cw (cu rfl _ _ _) rfl ⟨rfl,D,(A.trans C).trans F⟩
theorem OC:ib 188 [63] 3 1:=by
 intro M y l E T m j u p w hd D C F;obtain⟨c,b,a,r,rfl⟩:=Kd C;rw[show Sp.lj E [63] (c::b::a::r)=some ((if a≠0 then b else c)::r) by unfold Sp.lj;rw[show Sp.number [63]=none by decide];simp[Sp.jH,Sp.oy]];generalize z:(if a≠0 then b else c)=v;replace z:=cP z;go_enter func188,ntmps188;go_wp2_with fail;refine(KZ a b c v M y l E r m j w hd z).mono ?_;rintro e G ⟨rfl,A,B⟩;go_wp2;exact cw (cu rfl _ _ _) rfl ⟨B,rfl,A⟩
theorem Kv{x:List UInt8}{n:Int}(z:Sp.number x=some n)(B M m j:Nat)(E:Sp.Ev)(T:List Int)(l b:TK)(u:TypeId)(p:TK)(w:TJ)(hd:jj w M l m j E T b)(A:T.length<16)(C:w.cell? ⟨B,0,none⟩=some (Z Y n)):TL prog 242 #[.pointer (some ⟨M,0,none⟩),.pointer (some ⟨B,0,none⟩)] w (Jd (Sp.lj E x T) M m j E l b u p w):=by
 rw[show Sp.lj E x T=some (n::T) by unfold Sp.lj;rw[z]];go_enter func242,ntmps242;go_wp2_with fail;refine(jX n M m j E T l b w hd A).mono ?_;rintro e D ⟨rfl,r,y⟩;go_wp2;exact cw (cu rfl _ _ _) rfl ⟨y,rfl,r⟩
theorem PG:(k:Nat)->k<23->ib (Qc[k]!) (Sp.yn[k]!) (Sp.Qx[k]!).1 (Sp.Qx[k]!).2
 |0,_=>Qf
 |1,_=>Ql
 |2,_=>Pz
 |3,_=>Pp
 |4,_=>Pw
 |5,_=>Pj
 |6,_=>Qo
 |7,_=>Qm
 |8,_=>Pe
 |9,_=>OB
 |10,_=>OK
 |11,_=>NF
 |12,_=>Ow
 |13,_=>NZ
 |14,_=>Oe
 |15,_=>MO
 |16,_=>NT
 |17,_=>Nr
 |18,_=>NH
 |19,_=>Nc
 |20,_=>NL
 |21,_=>NI
 |22,_=>OC
 |n+23,h=>absurd h (by omega)
end
section
open Go.RowKit
variable {at' M fuel:Nat}{w:TJ}{code loops:TK}{E:Sp.Ev}{T:List Int}
theorem jj.far{w':TJ}(h:jj w M code at' fuel E T loops)(b:∀j,w'.cell? ⟨M,j,none⟩=w.cell? ⟨M,j,none⟩)(l:∀j,w'.frozen? ⟨M,j,none⟩=w.frozen? ⟨M,j,none⟩): jj w' M code at' fuel E T loops:=⟨(b _).trans h.c0,(b _).trans h.c1,(b _).trans h.c2,(b _).trans h.e0,(b _).trans h.e1,(b _).trans h.e2,(b _).trans h.e3,(b _).trans h.e4,(b _).trans h.e5,(b _).trans h.e6,(b _).trans h.e7,(b _).trans h.e8,λj e=>by rw[b];exact h.st j e,λj e=>by rw[b];exact h.sv j e,(b _).trans h.hh,(b _).trans h.ll,(b _).trans h.dr,λj=>(l j).trans (h.fz j),h.le⟩
theorem jj.alloc(hd:jj w M code at' fuel E T loops)(o:Obj): jj (w.alloc o) M code at' fuel E T loops:=hd.far (λj=>((cj w.heap.size w).alloc TG o).cell (p:=⟨M,j,none⟩) hd.lt) (λj=>((cj w.heap.size w).alloc TG o).frozen (p:=⟨M,j,none⟩) hd.lt)
theorem jj.grown{w':TJ}{b:Option Nat}(hd:jj w M code at' fuel E T loops)(l:w.grownBy w' b)(e:some M≠b): jj w' M code at' fuel E T loops:=hd.far (λj=>l.cell_far ⟨M,j,none⟩ hd.lt e) (λj=>l.frozen_far ⟨M,j,none⟩ hd.lt e)
theorem jj.PC(h:jj w M code at' fuel E T loops)(l:TK): jj (w.setCell ⟨M,29,none⟩ l) M code at' fuel E T l:=by
 have b:∀j,j≠29->(w.setCell ⟨M,29,none⟩ l).cell? ⟨M,j,none⟩=w.cell? ⟨M,j,none⟩:=λj e=>cR (by omega)
 have m:=h.le;exact⟨(b _ (by omega)).trans h.c0,(b _ (by omega)).trans h.c1,(b _ (by omega)).trans h.c2,(b _ (by omega)).trans h.e0,(b _ (by omega)).trans h.e1,(b _ (by omega)).trans h.e2,(b _ (by omega)).trans h.e3,(b _ (by omega)).trans h.e4,(b _ (by omega)).trans h.e5,(b _ (by omega)).trans h.e6,(b _ (by omega)).trans h.e7,(b _ (by omega)).trans h.e8,λj e=>by rw[b _ (by omega)];exact h.st j e,λj e=>by rw[b _ (by omega)];exact h.sv j e,(b _ (by omega)).trans h.hh,mm _ _ _ h.ll,(b _ (by omega)).trans h.dr,λj=>by rw[kX];exact h.fz j,h.le⟩
theorem jj.Kj(h:jj w M code at' fuel E T loops)(a:Nat): jj (w.setCell ⟨M,1,none⟩ (Z Y a)) M code a fuel E T loops:=by
 have b:∀j,j≠1->(w.setCell ⟨M,1,none⟩ (Z Y a)).cell? ⟨M,j,none⟩=w.cell? ⟨M,j,none⟩:=λj e=>cR (by omega)
 have l:=h.le;exact⟨(b _ (by omega)).trans h.c0,mm _ _ _ h.c1,(b _ (by omega)).trans h.c2,(b _ (by omega)).trans h.e0,(b _ (by omega)).trans h.e1,(b _ (by omega)).trans h.e2,(b _ (by omega)).trans h.e3,(b _ (by omega)).trans h.e4,(b _ (by omega)).trans h.e5,(b _ (by omega)).trans h.e6,(b _ (by omega)).trans h.e7,(b _ (by omega)).trans h.e8,λj e=>by rw[b _ (by omega)];exact h.st j e,λj e=>by rw[b _ (by omega)];exact h.sv j e,(b _ (by omega)).trans h.hh,(b _ (by omega)).trans h.ll,(b _ (by omega)).trans h.dr,λj=>by rw[kX];exact h.fz j,h.le⟩
theorem jj.Ob(h:jj w M code at' fuel E T loops)(a:Nat): jj (w.setCell ⟨M,2,none⟩ (Z Y a)) M code at' a E T loops:=by
 have b:∀j,j≠2->(w.setCell ⟨M,2,none⟩ (Z Y a)).cell? ⟨M,j,none⟩=w.cell? ⟨M,j,none⟩:=λj e=>cR (by omega)
 have l:=h.le;exact⟨(b _ (by omega)).trans h.c0,(b _ (by omega)).trans h.c1,mm _ _ _ h.c2,(b _ (by omega)).trans h.e0,(b _ (by omega)).trans h.e1,(b _ (by omega)).trans h.e2,(b _ (by omega)).trans h.e3,(b _ (by omega)).trans h.e4,(b _ (by omega)).trans h.e5,(b _ (by omega)).trans h.e6,(b _ (by omega)).trans h.e7,(b _ (by omega)).trans h.e8,λj e=>by rw[b _ (by omega)];exact h.st j e,λj e=>by rw[b _ (by omega)];exact h.sv j e,(b _ (by omega)).trans h.hh,(b _ (by omega)).trans h.ll,(b _ (by omega)).trans h.dr,λj=>by rw[kX];exact h.fz j,h.le⟩
def p9:List (Int × Nat)->List TK
 |[]=>[]
 |(k,h)::r=>Z Y k::Z Y h::p9 r
theorem FH(b:List (Int × Nat)):(p9 b).length=b.length*2:=by
 induction b with
 |nil=>rfl
 |cons h r e=>simp only[p9,cD,e];omega
theorem sC(a b:List (Int × Nat)):p9 (a++b)=p9 a++p9 b:=by
 induction a with
 |nil=>rfl
 |cons h r e=>simp[p9,e]
theorem KX(v:Int)(M at' fuel n:Nat)(E:Sp.Ev)(T:List Int)(code x:TK)(y:List TK)(w:TJ)(hd:jj w M code at' fuel E (v::T) x)(V:¬v<1)(W:n<=10000)(L:w.ownsRow (M+1) 313 2 x n y):TL prog 191 #[.pointer (some ⟨M,0,none⟩)] w λe z=>e=.returned (.tuple #[])/\∃J,jj z M code at' fuel E T J/\z.ownsRow (M+1) 313 2 J (n+1) (y++[Z Y v,Z Y T.length])/\Below M w z:=by
 obtain⟨N,A,B,C,D⟩:=fa info_loop;have O:(1:Int)<=v:=by omega
 go_enter func191,ntmps191;go_wp2_with fail;refine(qX v M at' fuel E T code x w hd).mono ?_;rintro e r ⟨rfl,j,u⟩;have F:r.ownsRow (M+1) 313 2 x n y:=u.own L;have G:=j.lt;have X:=j.hh;have q:=j.ll;have s:=j.fz 29;have l:some M≠x.ownBlock:=λe=>by have:=(F.lt M e.symm).1;omega
 go_wp2_with fail
 go_region_law ((refine step_append_lies _ (by rfl) _ _ _ (by rfl) (M+1) 313 N _ 2 16 underlying221 A B C D rfl (by omega) x _ _ (by rfl) ((F.alloc _).drew) ⟨r.heap.size,0,none⟩ 1 1 [Z Y v,Z Y (T.length:Int)] (by rfl) (by rfl) (Rh (cs := #[Z Y v,Z Y (T.length:Int)]) (t:=313) (fr:=(0,0)) (ct r _)) (by simp[Value.oneCell']) (by omega) (by unfold maxLen;omega) (by omega) (by simp;omega) (r.heap.size+1) (by simp) ?_;intro P Q H m b R K;have S:H.cell? ⟨M,29,none⟩=some x:=(b.cell_far ⟨M,29,none⟩ (by simp;omega) l).trans ((j.alloc _).drew).ll;have U:H.frozen? ⟨M,29,none⟩=false:=(b.frozen_far ⟨M,29,none⟩ (by simp;omega) l).trans (((j.alloc _).drew).fz 29)))
 all_goals
  have I:=pB (((cj M r).alloc (o9 G) _).drew) ((j.alloc _).drew).lt ((F.alloc _).drew) b 29 (.slice (some ⟨P,0,none⟩) (n+1) Q);exact cw (cu rfl _ _ _) rfl ⟨rfl,_,(((j.alloc _).drew).grown b l).PC _,((ey.refl M H).set _ _).own m,u.below.trans I⟩
theorem Lq(v:Int)(M at' fuel g N cap m:Nat)(E:Sp.Ev)(T:List Int)(x:TK)(w:TJ)(hd:jj w M (.slice (some ⟨g,0,none⟩) N cap) at' fuel E (v::T) x)(C:v<1)(z:at'<N)(A:g≠M)(l:w.cell? ⟨g,at'*2+1,none⟩=some (Z Y m)):TL prog 191 #[.pointer (some ⟨M,0,none⟩)] w λe u=>e=.returned (.tuple #[])/\jj u M (.slice (some ⟨g,0,none⟩) N cap) m fuel E T x/\ey M w u:=by
 go_enter func191,ntmps191;go_wp2_with fail;refine(qX v M at' fuel E T _ x w hd).mono ?_;rintro e y ⟨rfl,b,r⟩;have D:=b.c0;have F:=b.c1;have G:=b.fz 1;have B:=(r.cell (j:=at'*2+1) A).trans l;have H:(0:Int)<=(at':Int):=iJ _;have I:(at':Int)<(N:Int):=by omega
 go_wp2_with fail
 go_region
 all_goals
  go_wp2
  first
  |exact cr (cu rfl _ _ _) rfl ⟨rfl,(b.Kj m).drew,(r.trans ((ey.refl M y).set _ _)).drew⟩
  |exact cw (cu rfl _ _ _) rfl ⟨rfl,(b.Kj m).drew,(r.trans ((ey.refl M y).set _ _)).drew⟩
end
section
open Go.RowKit
theorem P1(k:Int)(M l b n g cap:Nat)(E:Sp.Ev)(T:List Int)(j:TK)(B:List TK)(w:TJ)(hd:jj w M j l b E T (.slice (some ⟨g,0,none⟩) (n+1) cap))(t:n<=10000)(m:w.ownsRow (M+1) 313 2 (.slice (some ⟨g,0,none⟩) (n+1) cap) (n+1) (B++[Z Y k,Z Y T.length]))(J:B.length=n*2)(O:k=1):TL prog 193 #[.pointer (some ⟨M,0,none⟩)] w λe u=>e=.returned (.tuple #[])/\jj u M j l b E T (.slice (some ⟨g,0,none⟩) n cap)/\u.ownsRow (M+1) 313 2 (.slice (some ⟨g,0,none⟩) n cap) n B/\Below M w u:=by
 subst O;obtain⟨h,K⟩:∃h,T.length=h:=⟨_,rfl⟩
 have s:w.cell? ⟨g,n*2,none⟩=some (Z Y 1):=(m.cellAt (n*2) (by omega)).trans (by rw[cF (by omega),J];simp);have P:w.cell? ⟨g,n*2+1,none⟩=some (Z Y T.length):=(m.cellAt (n*2+1) (by omega)).trans (by rw[cF (by omega),J];simp);have o:=m.frozenAt (n*2);have C:M<g:=(m.lt g rfl).1;have Q:M≠g:=by omega
 have R:g≠M:=by omega
 have L:n+1<=cap:=by
  rcases m.2 with ⟨S,_⟩|⟨g',N,U,V,hB,hg,r⟩
  .cases S
  .cases V;exact r.1
 have W:(n:Int)<=(cap:Int):=by omega
 have X:n<=cap:=by omega
 have q:=hd.hh;have e2:=hd.ll;have e3:=hd.fz 29;have g0:((n+1:Nat):Int)-1=(n:Int):=by omega
 have g1:(0:Int)<=(n:Int):=iJ _;have g2:(n:Int)<((n+1:Nat):Int):=by omega
 have D:Hid (∀k,(λu=>jj u M j l b E T (.slice (some ⟨g,0,none⟩) n cap)/\u.ownsRow (M+1) 313 2 (.slice (some ⟨g,0,none⟩) n cap) n B/\Below M w u) ((((w.drewN k).setCell ⟨g,n*2,none⟩ (Z Y 0)).setCell ⟨M,29,none⟩ (.slice (some ⟨g,0,none⟩) n cap)).drew)):=by
  intro k;have y:=below_drewN w k;have F:=hd.drewN k;have G:=cW m y;have z:=G.stored (n*2) (Z Y 0);have H:=F.grown z.2 (by simp[Value.ownBlock];omega);have A:=yZ z.1;rw[TA _ _ (by omega),List.take_left' (by omega)] at A;have I:=((y.mono (o9 hd.lt)).setCell (p:=⟨g,n*2,none⟩) (o9 C) (Z Y 0)).setCell (p:=⟨M,29,none⟩) TG (.slice (some ⟨g,0,none⟩) n cap);exact⟨(H.PC _).drew,(((ey.refl M _).set _ _).own A).drew,I.drew⟩
 rw[K] at P q;have g3:(((h:Nat):Int) != ((h:Nat):Int))=false:=by simp
 clear K hd m;go_enter func193,ntmps193;go_wp2_with fail
 go_quiet (fail)
 go_wp2_with fail
 go_quiet (fail)
 go_wp2
 go_region
 generalize nq=n2 at *;exact cw (cu rfl _ _ _) rfl ⟨rfl,(cO D _).1,(cO D _).2.1,(cO D _).2.2⟩
theorem PA(k:Int)(M b l n g cap y N G m:Nat)(E:Sp.Ev)(T:List Int)(F:List TK)(w:TJ)(hd:jj w M (.slice (some ⟨y,0,none⟩) N G) b l E T (.slice (some ⟨g,0,none⟩) (n+1) cap))(o:n<=10000)(r:w.ownsRow (M+1) 313 2 (.slice (some ⟨g,0,none⟩) (n+1) cap) (n+1) (F++[Z Y k,Z Y T.length]))(H:F.length=n*2)(hk:1<k)(R:k<=9223372036854775807)(S:b<N)(U:y<M)(I:w.cell? ⟨y,b*2+1,none⟩=some (Z Y m)):TL prog 193 #[.pointer (some ⟨M,0,none⟩)] w λe u=>e=.returned (.tuple #[])/\jj u M (.slice (some ⟨y,0,none⟩) N G) m l E T (.slice (some ⟨g,0,none⟩) (n+1) cap)/\u.ownsRow (M+1) 313 2 (.slice (some ⟨g,0,none⟩) (n+1) cap) (n+1) (F++[Z Y (k-1),Z Y T.length])/\Below M w u:=by
 obtain⟨h,Q⟩:∃h,T.length=h:=⟨_,rfl⟩
 have V:w.cell? ⟨g,n*2,none⟩=some (Z Y k):=(r.cellAt (n*2) (by omega)).trans (by rw[cF (by omega),H];simp);have W:w.cell? ⟨g,n*2+1,none⟩=some (Z Y T.length):=(r.cellAt (n*2+1) (by omega)).trans (by rw[cF (by omega),H];simp);have q2:=r.frozenAt (n*2);have J:M<g:=(r.lt g rfl).1;have X:M≠g:=by omega
 have q:g≠M:=by omega
 have t:g≠y:=by omega
 have e0:=hd.c0;have ea:=hd.c1;have s:=hd.hh;have e2:=hd.ll;have e3:=hd.fz 1;have g0:((n+1:Nat):Int)-1=(n:Int):=by omega
 have g1:(0:Int)<=(n:Int):=iJ _;have g2:(n:Int)<((n+1:Nat):Int):=by omega
 have g4:(0:Int)<=(b:Int):=iJ _;have g5:(b:Int)<(N:Int):=by omega
 have A:=r.stored (n*2) (Z Y (k-1));have k2:(w.setCell ⟨g,n*2,none⟩ (Z Y (k-1))).cell? ⟨g,n*2,none⟩=some (Z Y (k-1)):=mm _ _ _ V;have z:Hid (∀j,(λu=>jj u M (.slice (some ⟨y,0,none⟩) N G) m l E T (.slice (some ⟨g,0,none⟩) (n+1) cap)/\u.ownsRow (M+1) 313 2 (.slice (some ⟨g,0,none⟩) (n+1) cap) (n+1) (F++[Z Y (k-1),Z Y T.length])/\Below M w u) ((((w.drewN j).setCell ⟨g,n*2,none⟩ (Z Y (k-1))).setCell ⟨M,1,none⟩ (Z Y m)).drew)):=by
  intro j;have B:=below_drewN w j;have K:=hd.drewN j;have L:=cW r B;have C:=L.stored (n*2) (Z Y (k-1));have O:=K.grown C.2 (by simp[Value.ownBlock];omega);have D:=C.1;rw[TA _ _ (by omega),H,Nat.sub_self] at D;have P:=((B.mono (o9 hd.lt)).setCell (p:=⟨g,n*2,none⟩) (o9 J) (Z Y (k-1))).setCell (p:=⟨M,1,none⟩) TG (Z Y m);exact⟨(O.Kj _).drew,(((ey.refl M _).set _ _).own D).drew,P.drew⟩
 rw[Q] at W s;have g3:(((h:Nat):Int) != ((h:Nat):Int))=false:=by simp
 have g6:(0:Int)<k-1:=by omega
 have g7:k-1<=9223372036854775807:=by omega
 clear Q hd r A;go_enter func193,ntmps193;go_wp2_with fail
 go_quiet (fail)
 go_wp2_with fail
 go_quiet (fail)
 go_wp2
 go_region
 all_goals
  go_wp2;generalize nq=n2 at *
  first
  |exact cr (cu rfl _ _ _) rfl ⟨rfl,(cO z _).1,(cO z _).2.1,(cO z _).2.2⟩
  |exact cw (cu rfl _ _ _) rfl ⟨rfl,(cO z _).1,(cO z _).2.1,(cO z _).2.2⟩
end
namespace Sp
open Go Go.RowKit
variable {ms op:List Nat}
theorem pF{L:List (List UInt8)}{i:Nat}(hi:i<L.length)(e:fB L i=some (ms,op)): fB L (i+1)=fC L[i] i ms op:=by
 rw[fB,e];simp only;rw[mT hi]
theorem MN(L:List (List UInt8)):∀(k:Nat) (m o:List Nat),fB L k=some (m,o)->m.length=k:=by
 intro k
 induction k with
 |zero=>intro b e h;simp[fB] at h;obtain⟨rfl,_⟩:=h;rfl
 |succ k j =>
  intro b e h;simp only[fB] at h;split at h
  .cases h
  .rename_i r u l;rw[(uv h).1,j _ _ l]
theorem JV(L:List (List UInt8)):∀(k:Nat) (m o:List Nat),fB L k=some (m,o)->∀q∈o,q<k:=by
 intro k
 induction k with
 |zero=>intro e j h;simp[fB] at h;obtain⟨_,rfl⟩:=h;intro q b;cases b
 |succ k l =>
  intro e j h q b;simp only[fB] at h;split at h
  .cases h
  .rename_i u y r;have:=l _ _ r;unfold fC at h;split at h
   .injection h with h;injection h with _ h;subst h;rcases cJ.1 b with b|b
    .have:=this q b;omega
    .rw[eh] at b;omega
   .split at h
    .split at h
     .injection h with h;injection h with _ h;subst h;have:=this q ((List.dropLast_sublist _).subset b);omega
     .cases h
    .injection h with h;injection h with _ h;subst h;have:=this q b;omega
theorem Iu(L:List (List UInt8)):∀(k:Nat) (m o:List Nat),fB L k=some (m,o)->o.Nodup:=by
 intro k
 induction k with
 |zero=>intro r u h;simp[fB] at h;obtain⟨_,rfl⟩:=h;exact List.nodup_nil
 |succ k y =>
  intro r u h;simp only[fB] at h;split at h
  .cases h
  .rename_i B C l;have e:=y _ _ l;have z:=JV L _ _ _ l;unfold fC at h;split at h
   .injection h with h;injection h with _ h;subst h;refine KY.2 ⟨e,by simp,λa A b j=>?_⟩;rw[eh] at j;have:=z a A;omega
   .split at h
    .split at h
     .injection h with h;injection h with _ h;subst h;exact(List.dropLast_sublist _).nodup e
     .cases h
    .injection h with h;injection h with _ h;subst h;exact e
theorem K0(L:List (List UInt8)){i:Nat}(e:fB L i=some (ms,op)): ∀(d:Nat) (r u:List Nat),fB L (i+d)=some (r,u)->(∀p,p<i->p∉op->r.getD p 0=ms.getD p 0)/\(∀q∈u,q<i->q∈op):=by
 intro d
 induction d with
 |zero =>
  intro r u h;rw[ub,e] at h;injection h with h;injection h with z C;subst z C;exact⟨λ_ _ _=>rfl,λq y _=>y⟩
 |succ d J =>
  intro r u h;rw[<-Nat.add_assoc,fB] at h;split at h
  .cases h
  .rename_i H K C;obtain⟨E,D⟩:=J _ _ C;have I:=MN L _ _ _ C;have b:∀p,p<i->(H++[0]).getD p 0=H.getD p 0:=λp m=>by
    rw[cL,cL,qa (by omega)]
   unfold fC at h;split at h
   .injection h with h;injection h with z j;subst z j;refine⟨λp m B=>(b p m).trans (E p m B),λq y A=>?_⟩;rcases cJ.1 y with y|y
    .exact D q y A
    .rw[eh] at y;omega
   .split at h
    .split at h
     .rename_i l M;injection h with h;injection h with z j;subst z j;have F:l∈K:=List.mem_of_getLast? M;refine⟨λp m B=>?_,λq y A=>D q ((List.dropLast_sublist _).subset y) A⟩;have G:l≠p:=λe=>by subst e;exact B (D l F m)
      rw[cL,RI G,RI (by omega),<-cL];exact(b p m).trans (E p m B)
     .cases h
    .injection h with h;injection h with z j;subst z j;exact⟨λp m B=>(b p m).trans (E p m B),D⟩
theorem NQ(L:List (List UInt8)):∀(N:Nat) (S T:List (List UInt8)) (i:Nat) (ms op:List Nat),S.length<=N->L.drop i=S++T->i+S.length<=L.length->kh true S 0=true->fB L i=some (ms,op)->∃y,fB L (i+S.length)=some (y,op):=by
 intro N
 induction N with
 |zero =>
  intro S T i ms op I z J K e;have:S=[]:=To (by omega);subst this;exact⟨ms,e⟩
 |succ N A =>
  intro S T i ms op I z J K e;cases S with
  |nil=>exact⟨ms,e⟩
  |cons x r =>
   obtain⟨t,U,m⟩:=kW K;simp only[cD] at I J ⊢;have hi:i<L.length:=by omega
   have V:L[i]=x:=by
    have:=kp hi;rw[z] at this;simp only[mf,Qv] at this;exact this.1.symm
   have j:L.drop (i+1)=r++T:=by
    have:=kp hi;rw[z] at this;simp only[mf,Qv] at this;exact this.2.symm
   have B:=pF hi e;rw[V] at B;by_cases C:x=[91]
   .subst C;rw[show ds [91]=1 by decide] at m;obtain⟨b,l,u,W,X,_⟩:=xP r 0 (Int.le_refl _) (by simpa using m);have k:r.length=b.length+(l.length+1):=by rw[u];simp
    have D:fB L (i+1)=some (ms++[0],op++[i]):=by rw[B];unfold fC;rw[cg rfl]
    obtain⟨E,F⟩:=A b ([93]::l++T) (i+1) _ _ (by omega) (by rw[j,u];simp) (by omega) W D;have M:i+1+b.length<L.length:=by omega
    have q:L[i+1+b.length]=[93]:=by
     have O:(L.drop (i+1))[b.length]?=some [93]:=by rw[j,u];simp
     rw[Gt,cH M] at O;exact iP O
    have P:=pF M F;rw[q] at P;have G:∃Q,fB L (i+1+b.length+1)=some (Q,op):=by
     refine⟨((E++[0]).set (i+1+b.length) i).set i (i+1+b.length),?_⟩;rw[P];unfold fC;rw[cd (by decide),cg rfl];simp only[Tr,Ts,Option.some_or,Tt]
    obtain⟨Q,G⟩:=G;have H:L.drop (i+1+b.length+1)=l++T:=by
     rw[Nat.add_assoc (i+1),<-List.drop_drop,j,u];rw[show b++[93]::l++T=(b++[[93]])++(l++T) by simp];exact List.drop_left' (by simp)
    obtain⟨h,f⟩:=A l T (i+1+b.length+1) _ _ (by omega) H (by omega) X G;exact⟨h,by rw[show i+(r.length+1)=i+1+b.length+1+l.length by omega];exact f⟩
   .have R:x≠[93]:=by
     rintro rfl;rw[show ds [93] = -1 by decide] at U;omega
    rw[n7 C R] at m;have D:fB L (i+1)=some (ms++[0],op):=by rw[B];unfold fC;rw[cd C,cd R]
    obtain⟨E,F⟩:=A r T (i+1) _ _ (by omega) j (by omega) (by simpa using m) D;exact⟨E,by rw[show i+(r.length+1)=i+1+r.length by omega];exact F⟩
theorem xK{L:List (List UInt8)}{m:List Nat}(z:fB L L.length=some (m,[])){e a:Nat}(he:e<L.length)(A:L[e]=[93])(h:fB L e=some (ms,op++[a])): m.getD e 0=a/\m.getD a 0=e:=by
 have b:=pF he h;rw[A] at b;unfold fC at b;rw[cd (by decide),cg rfl] at b;simp only[Tr,Ts,Option.some_or,Tt] at b;have D:=MN L _ _ _ h;have j:=JV L _ _ _ h;have B:a<e:=j a (by simp);have y:=K0 L b (L.length-(e+1)) m [] (by rw[show e+1+(L.length-(e+1))=L.length by omega];exact z);have C:=JV L _ _ _ b;have u:e∉op:=λr=>by have:=j e (Fv _ r);omega
 constructor
 .rw[y.1 e (by omega) u,cL,RI (by omega),TB (by simp;omega)];rfl
 .by_cases r:a∈op
  .have l:=Iu L _ _ _ h;rw[KY] at l;exact absurd rfl (l.2.2 a r a (by simp))
  .rw[y.1 a (by omega) r,cL,TB (by simp;omega)];rfl
end Sp
namespace Sp
open Go Go.RowKit
def Pv(L:List (List UInt8)):List (Int × Nat)->Prop
 |[]=>True
 |(k,a)::r=>(∃e,fB L (a+1)=some (e,(a::r.map Prod.snd).reverse))/\Pv L r
structure Ij (L:List (List UInt8)) (s:Ms):Prop where
 at':∃ms,fB L s.at'=some (ms,(s.lp.map Prod.snd).reverse)
 pl:Pv L s.lp
theorem DT{L:List (List UInt8)}(M:kh true L 0=true){r:Nat × List Nat}(N:eZ L 0 []=some r){a h:Nat}{u:List Nat}(ha:a<L.length)(hb:L[a]=[91])(e:eZ (L.take a) 0 []=some (h,u)){D y:List Nat}(O:fB L a=some (D,y)):∃n A B,Ao (L.drop a) a 0=some n/\n<L.length/\L.getD n []=[93]/\fB L n=some (B,y++[a])/\fB L (n+1)=some (A,y):=by
 obtain⟨X,P,l,Q⟩:=rj N ha e;rw[hb] at l;obtain⟨R,l⟩:=yA l;injection l with l S;subst l S;obtain⟨T,k⟩:=uo M _ _ _ (by omega) Q;obtain⟨j,E,C,U,x,V⟩:=vy (L.drop (a+1)) u.length 0 (iJ _) (by omega) (by
  have:((u++[h-1]).length:Int)=(u.length:Int)+0+1:=by simp
  rw[<-this];exact T)
 have F:j.length+(E.length+1)=L.length-(a+1):=by
  have:=congrArg List.length C;simp only[uT,lN,cD] at this;omega
 have m:Ao (L.drop a) a 0=some (a+1+j.length):=by
  rw[kp ha,hb];simp only[Ao,show ds [91]=1 by decide];rw[cd (by omega)];have:=V (a+1) [];rw[B2] at this;simpa using this
 have z:a+1+j.length<L.length:=by omega
 have G:L[a+1+j.length]=[93]:=by
  have H:(L.drop (a+1))[j.length]?=some [93]:=by rw[C];simp
  rw[Gt,cH z] at H;exact iP H
 have W:fB L (a+1)=some (D++[0],y++[a]):=by rw[pF ha O,hb];unfold fC;rw[cg rfl]
 obtain⟨I,J⟩:=NQ L j.length j ([93]::E) (a+1) _ _ TG C (by omega) U W;have K:=pF z J;rw[G] at K;refine⟨_,((I++[0]).set (a+1+j.length) a).set a (a+1+j.length),I,m,z,by rw[mT z];exact G,J,?_⟩;rw[K];unfold fC;rw[cd (by decide),cg rfl];simp only[Tr,Ts,Option.some_or,Tt]
theorem C6{L:List (List UInt8)}{E:Ev}(M:kh true L 0=true){r:Nat × List Nat}(N:eZ L 0 []=some r){s t:Ms}(O:yH L s)(u:Ij L s)(hi:s.at'<L.length)(h:gy L E s=some t):Ij L t:=by
 obtain⟨U,V,e,W,X⟩:=O.ex;obtain⟨C,D⟩:=u.at';have j:=pF hi D;unfold gy at h;rw[mT hi] at h;split at h
 .cases h
 .split at h
  .rename_i B;split at h
   .cases h
   .rename_i n T P;split at h
    .obtain⟨m,F,Q,R,x,q,i,S⟩:=DT M N hi B e D;injection h with h;subst h;rw[R];exact⟨⟨F,S⟩,u.pl⟩
    .injection h with h;subst h;have G:fB L (s.at'+1)=some (C++[0],(s.lp.map Prod.snd).reverse++[s.at']):=by rw[j,B];unfold fC;rw[cg rfl]
     have J:fB L (s.at'+1)=some (C++[0],(s.at'::s.lp.map Prod.snd).reverse):=by rw[G,List.reverse_cons]
     exact⟨⟨_,by simpa using J⟩,⟨_,J⟩,u.pl⟩
  .split at h
   .rename_i y B;split at h
    .cases h
    .rename_i k a f H;have z:=u.pl;rw[H] at z D j;obtain⟨⟨A,K⟩,l⟩:=z;split at h
     .injection h with h;subst h;exact⟨⟨A,by simpa using K⟩,⟨A,K⟩,l⟩
     .injection h with h;subst h;rw[B] at j;unfold fC at j;rw[cd (by decide),cg rfl] at j;simp only[wj,List.reverse_cons,Tr,Ts,Option.some_or,Tt] at j;exact⟨⟨_,j⟩,l⟩
   .rename_i y I;obtain⟨T,p,h⟩:=Tw.1 h;subst h;have G:fB L (s.at'+1)=some (C++[0],(s.lp.map Prod.snd).reverse):=by rw[j];unfold fC;rw[cd y,cd I]
    exact⟨⟨_,G⟩,u.pl⟩
theorem PI(L:List (List UInt8))(f:Nat):Ij L ⟨0,f,[],[]⟩:=⟨⟨[],rfl⟩,trivial⟩
def i64(n:Int):Prop := -9223372036854775808<=n/\n<=9223372036854775807
structure nk (E:Ev):Prop where
 value:i64 E.value
 vq:i64 E.vq
 je:i64 E.je
 iK:i64 E.iK
 step:i64 E.step
 id:i64 E.id
 deg:i64 E.deg
 all:i64 E.all
 weight:i64 E.weight
theorem oC(n:Int):i64 (wrap64 n):=by unfold i64 wrap64;constructor <;> omega
theorem OE{E:Ev}(h:nk E)(x:List UInt8):i64 (wg E x):=by
 unfold wg
 repeat' split
 .exact h.value
 .exact h.vq
 .exact h.je
 .exact h.iK
 .exact h.step
 .exact h.id
 .exact h.deg
 .exact h.all
 .exact h.weight
variable {a b:Int}
theorem Jt(ha:i64 a): i64 (a.tmod b):=by
 unfold i64 at *;have l:(a.tmod b).natAbs<=a.natAbs:=by rw[Int.natAbs_tmod];exact Nat.mod_le _ _
 rcases Int.le_total 0 a with h|h
 .have e:0<=a.tmod b:=Int.tmod_nonneg b h;omega
 .have e:a.tmod b<=0:=by
   have j:0<=(-a).tmod b:=Int.tmod_nonneg b (by omega);rw[Int.neg_tmod] at j;omega
  omega
theorem Lv(ha:i64 a)(hb:i64 b): i64 (min a b):=by
 by_cases h:a<=b
 .rw[Int.min_eq_left h];exact ha
 .rw[Int.min_eq_right (by omega)];exact hb
theorem LM(ha:i64 a)(hb:i64 b): i64 (max a b):=by
 by_cases h:a<=b
 .rw[Int.max_eq_right h];exact hb
 .rw[Int.max_eq_left (by omega)];exact ha
theorem DX(q:Prop)[Decidable q]:i64 (if q then 1 else 0):=by unfold i64;split <;> omega
theorem Nk{x:List UInt8}{v:Int}(ha:i64 a)(hb:i64 b)(h:tx x a b=some v): i64 v:=by
 unfold tx at h;by_cases e:x=[43]
 .rw[cg e] at h;injection h with h;subst h;exact oC _
 .rw[cd e] at h;by_cases j:x=[45]
  .rw[cg j] at h;injection h with h;subst h;exact oC _
  .rw[cd j] at h;by_cases l:x=[42]
   .rw[cg l] at h;injection h with h;subst h;exact oC _
   .rw[cd l] at h;by_cases m:x=[47]
    .rw[cg m] at h;split at h
     .cases h
     .injection h with h;subst h;exact oC _
    .rw[cd m] at h;by_cases r:x=[37]
     .rw[cg r] at h;split at h
      .cases h
      .injection h with h;subst h;exact Jt ha
     .rw[cd r] at h;by_cases u:x=[60]
      .rw[cg u] at h;injection h with h;subst h;exact DX _
      .rw[cd u] at h;by_cases y:x=[61]
       .rw[cg y] at h;injection h with h;subst h;exact DX _
       .rw[cd y] at h;by_cases z:x=[109,105,110]
        .rw[cg z] at h;injection h with h;subst h;exact Lv ha hb
        .rw[cd z] at h;injection h with h;subst h;exact LM ha hb
end Sp
namespace Sp
open Go Go.RowKit
def jq(T:List Int):Prop := ∀v∈T,i64 v
variable {T:List Int}{v:Int}
theorem jq.cons(b:i64 v)(h:jq T): jq (v::T):=λu hu=>by
 rcases ic.1 hu with rfl|hu
 .exact b
 .exact h u hu
theorem jq.head(h:jq (v::T)): i64 v:=h v (mz ..)
theorem jq.tail(h:jq (v::T)): jq T:=λu hu=>h u (ts _ hu)
theorem Lx{E:Ev}(j:nk E){x:List UInt8}{e:List Int}(l:∀n,number x=some n->i64 n)(h:jq T)(b:lj E x T=some e): jq e:=by
 unfold lj at b;split at b
 .rename_i n m;injection b with b;subst b;exact jq.cons (l _ m) h
 .split at b
  .injection b with b;subst b;exact jq.cons (OE j x) h
  .split at b
   .split at b
    .obtain⟨v,r,rfl⟩:=Tw.1 b;exact jq.cons (Nk h.tail.head h.head r) h.tail.tail
    .cases b
   .split at b
    .split at b
     .injection b with b;subst b;exact jq.cons h.head h
     .cases b
    .split at b
     .split at b
      .injection b with b;subst b;exact h.tail
      .cases b
     .split at b
      .split at b
       .injection b with b;subst b;exact jq.cons h.tail.head (jq.cons h.head h.tail.tail)
       .cases b
      .split at b
       .split at b
        .injection b with b;subst b;exact jq.cons h.tail.head (jq.cons h.head h.tail)
        .cases b
       .split at b
        .split at b
         .injection b with b;subst b;refine jq.cons ?_ h.tail.tail.tail;split
          .exact h.tail.head
          .exact h.head
         .cases b
        .cases b
structure Gb (s:Ms):Prop where
 T:jq s.T
 lp:∀q∈s.lp,1<=q.1/\q.1<=9223372036854775807
theorem uA{L:List (List UInt8)}{E:Ev}(y:nk E)(z:∀x n,number x=some n->i64 n){s t:Ms}(e:Gb s)(h:gy L E s=some t):Gb t:=by
 unfold gy at h;split at h
 .cases h
 .split at h
  .split at h
   .cases h
   .rename_i n T m;have j:=e.T;rw[m] at j;split at h
    .injection h with h;subst h;exact⟨j.tail,e.lp⟩
    .injection h with h;subst h;refine⟨j.tail,λq b=>?_⟩;rcases ic.1 b with rfl|b
     .exact⟨by simp only;omega,j.head.2⟩
     .exact e.lp q b
  .split at h
   .split at h
    .cases h
    .rename_i k a r u;have l:=e.lp;rw[u] at l;have A:=l (k,a) (mz ..);simp only at A;split at h
     .injection h with h;subst h;refine⟨e.T,λq b=>?_⟩;rcases ic.1 b with rfl|b
      .exact⟨by simp only;omega,by simp only;omega⟩
      .exact l q (ts _ b)
     .injection h with h;subst h;exact⟨e.T,λq b=>l q (ts _ b)⟩
   .obtain⟨T,B,h⟩:=Tw.1 h;subst h;exact⟨Lx y (z _) e.T B,e.lp⟩
end Sp
end Go.Proofs.YtgkkdpegcieakaaGreatDoor
