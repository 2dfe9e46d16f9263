import Derived.Test.YtgkkdpegcieakaaGreatDoorCw11
set_option linter.all false
set_option maxRecDepth 100000
set_option maxHeartbeats 16000000
namespace Go.Proofs.YtgkkdpegcieakaaGreatDoor
open Go.Proofs.Tryz
open Value renaming int→Z
open Option renaming none→U,some→S
open List renaming length→Xg
open IntKind renaming i64→Y
open Go renaming World→WR,Value→WS,Calls→WT
namespace Sp
open Go Go.RowKit
def rn(L:List (List UInt8))(E:Ev)(s:Ms):Option Ms:=lC L E (s.fuel+1) s
structure Good (L:List (List UInt8)):Prop where
 fm:kh true L 0=true
 one:fc L 0 []=S (1,[])
 len:Xg L<=4000
end Sp
namespace Sp
open Go Go.RowKit
def eR(k:List UInt8):Int:=if k=[109,105,110] then 9223372036854775807 else if k=[109,97,120] then -9223372036854775808 else 0
def jt(k:List UInt8)(a b:Int):Int:=if k=[115,117,109] then wrap64 (a+b) else if (k=[109,105,110]/\b<a)\/(k=[109,97,120]/\a<b) then b else a
structure Pg where
 code:Nat->List (List UInt8)
 pB:List UInt8
 al:List UInt8
structure Cfg where
 val:List Int
 fC:List Bool
 iI:List Int
 jf:List Int
 all:Int
structure Tn where
 value:Int
 gz:Bool
 lG:Int
 dX:List (Nat × Int)
def AO(c:Cfg)(deg i step:Nat):Ev:=⟨c.val.getD i 0,c.val.getD i 0,c.jf.getD i 0,c.iI.getD i 0,step,i,deg,c.all,0⟩
def Ev.j4(E:Ev)(v:Int):Ev:={ E with value:=v }
def Ev.setW(E:Ev)(v:Int):Ev:={ E with weight:=v }
def Ev.iY(E:Ev)(v:Int):Ev:={ E with yp:=v }
def iE(Es:List Ed)(i:Nat):List Ed:=Es.filter (λx=>x.dj == i)
def msgs(L:List (List UInt8))(E:Ev):List Ed->Option (List (Nat × Int))
 |[]=>S []
 |x::r=>match ev L (E.setW x.n) with
  |none=>U
  |some m=>match msgs L E r with
   |none=>U
   |some l=>S ((x.cR,m)::l)
def nT(P:Pg)(e:Ev)(v:Int)(b:List (Nat × Int)):Option Tn:=match ev (P.code 3) e with
 |none=>U
 |some h=>match ev (P.code 4) e with
  |none=>U
  |some g=>S ⟨v,h != 0,g,b⟩
def gY(P:Pg)(E:Ev)(b:List Ed):Option Tn:=match ev (P.code 0) E with
 |none=>U
 |some v=>match ev (P.code 1) (E.j4 v) with
  |none=>U
  |some goes=>match (if goes=0 then S [] else msgs (P.code 2) (E.j4 v) b) with
   |none=>U
   |some dX=>nT P (E.j4 v) v dX
def qJ(P:Pg)(Es:List Ed)(c:Cfg)(i step:Nat):Option Tn:=gY P (AO c (iE Es i).length i step) (iE Es i)
def mA(c:Cfg)(i step:Nat):Bool:=step == 0 || (!(c.fC.getD i false) || decide (0<c.iI.getD i 0))
structure Acc where
 val:List Int
 fC:List Bool
 all:Int
 dX:List (Nat × Int)
def lI(P:Pg)(Es:List Ed)(c:Cfg)(step:Nat):Nat->Except Nat Acc
 |0=>.ok ⟨[],[],eR P.al,[]⟩
 |k+1=>match lI P Es c step k with
  |.error i=>.error i
  |.ok a=>if mA c k step then (match qJ P Es c k step with
    |none=>.error k
    |some t=>.ok ⟨a.val++[t.value],a.fC++[t.gz],jt P.al a.all t.lG,a.dX++t.dX⟩)
   else .ok ⟨a.val++[c.val.getD k 0],a.fC++[c.fC.getD k false],a.all,a.dX⟩
def RE(b:List (Nat × Int))(i:Nat):List (Nat × Int):=b.filter (λm=>m.1 == i)
def hZ(b:List (Nat × Int))(i:Nat):Int:=((RE b i).length:Int)
def ig(P:Pg)(b:List (Nat × Int))(i:Nat):Int:=(RE b i).foldl (λx m=>jt P.pB x m.2) (eR P.pB)
def fh(P:Pg)(n:Nat)(a:Acc):Cfg:=⟨a.val,a.fC,(List.range n).map (hZ a.dX),(List.range n).map (ig P a.dX),a.all⟩
def fX(P:Pg)(b:List Int):Cfg:=⟨b,List.replicate (Xg b) false,List.replicate (Xg b) 0,List.replicate (Xg b) (eR P.pB),eR P.al⟩
def quiet(c:Cfg)(step:Nat):Bool:=(List.range (Xg c.val)).all λi=>!mA c i step
structure nH where
 outcome:Nat
 step:Nat
 dt:Nat
 dA:List Int
def CI(P:Pg)(Es:List Ed)(cap:Nat):Nat->Nat->Cfg->nH
 |0,_,_=>⟨0,0,0,[]⟩
 |g+1,step,c=>if quiet c step then ⟨1,step,0,c.val⟩ else if cap<=step then ⟨2,step,0,c.val⟩ else
  match lI P Es c step (Xg c.val) with
  |.error i=>⟨3,step,i,c.val⟩
  |.ok a=>CI P Es cap g (step+1) (fh P (Xg c.val) a)
def GL(P:Pg)(b:List Int)(Es:List Ed)(cap:Nat):nH:=CI P Es cap (cap+1) 0 (fX P b)
variable {L:List (List UInt8)}
theorem NI{E:Ev}(j:nA E)(l:∀x n,number x=S n->i64 n): ∀(g:Nat) (s t:Ms),F9 s->lC L E g s=S t->F9 t:=by
 intro g
 induction g with
 |zero=>intro s t _ h;cases h
 |succ g m =>
  intro s t e h;rw[lC] at h;split at h
  .injection h with h;subst h;exact e
  .split at h
   .cases h
   .rename_i r b;exact m _ _ (uT j l e b) h
variable {v:Int}
theorem FI{E:Ev}(e:nA E)(j:∀x n,number x=S n->i64 n)(h:ev L E=S v): i64 v:=by
 unfold ev at h;cases b:lC L E 201 ⟨0,200,[],[]⟩ with
 |none=>rw[b] at h;cases h
 |some t =>
  rw[b] at h;have:=NI e j _ _ _ ⟨λv l=>(by cases l),λq m=>(by cases m)⟩ b;exact this.T v (List.mem_of_head? (by simpa using h))
theorem tU(L:List (List UInt8))(E:Ev):∀(A B:List Ed),msgs L E (A++B)=match msgs L E A with
  |none=>U
  |some a=>match msgs L E B with
   |none=>U
   |some b=>S (a++b):=by
 intro A
 induction A with
 |nil=>intro B;simp only[U2,msgs];cases msgs L E B <;> rfl
 |cons x r e =>
  intro B;simp only[UM,msgs];cases ev L (E.setW x.n) with
  |none=>rfl
  |some m =>
   simp only[e B];cases msgs L E r with
   |none=>rfl
   |some a=>simp only;cases msgs L E B <;> rfl
theorem AE{E:Ev}: ∀{A:List Ed} {l:List (Nat × Int)},msgs L E A=S l->Xg l=Xg A:=by
 intro A
 induction A with
 |nil=>intro l h;simp only[msgs] at h;injection h with h;subst h;rfl
 |cons x r e =>
  intro l h;simp only[msgs] at h;split at h
  .cases h
  .split at h
   .cases h
   .rename_i j b;injection h with h;subst h;simp[e b]
theorem Ey{E:Ev}: ∀{A:List Ed} {l:List (Nat × Int)},msgs L E A=S l->l.map Prod.fst=A.map (·.cR):=by
 intro A
 induction A with
 |nil=>intro l h;simp only[msgs] at h;injection h with h;subst h;rfl
 |cons x r e =>
  intro l h;simp only[msgs] at h;split at h
  .cases h
  .split at h
   .cases h
   .rename_i j b;injection h with h;subst h;simp[e b]
structure eY (n:Nat) (c:Cfg):Prop where
 lv:Xg c.val=n
 lr:Xg c.fC=n
 lg:Xg c.iI=n
 li:Xg c.jf=n
 v:∀x∈c.val,i64 x
 g:∀x∈c.iI,0<=x/\x<=4294967295
 i:∀x∈c.jf,i64 x
 a:i64 c.all
theorem rk(k:List UInt8):i64 (eR k):=by unfold eR i64;split <;> (try split) <;> omega
theorem AX(k:List UInt8){a b:Int}(ha:i64 a)(hb:i64 b):i64 (jt k a b):=by
 unfold jt;split
 .exact oW _
 .split
  .exact hb
  .exact ha
theorem rE(P:Pg)(b:List Int)(h:∀x∈b,i64 x):eY (Xg b) (fX P b):=by
 refine⟨O,by simp[fX],by simp[fX],by simp[fX],h,?_,?_,rk _⟩
 .intro x e;rw[List.eq_of_mem_replicate e];omega
 .intro x e;rw[List.eq_of_mem_replicate e];exact rk _
structure iO (P:Pg) (Es:List Ed) (n:Nat):Prop where
 CP:∀i,i<5->Good (P.code i)
 nw:∀i,i<5->i≠2->kh false (P.code i) 0=true
 es:Es.length<=256
 It:n<=64
 ed:∀x∈Es,x.dj<n/\x.cR<n/\i64 x.n
 TW:P.pB∈ft
 TX:P.al∈ft
variable {i:Nat}
theorem kY{α : Type}{l:List α}{d : α}(h:i<Xg l): l.getD i d∈l:=by
 rw[Uo,Uk h];exact UU h
theorem oQ(Es:List Ed)(i:Nat):(iE Es i).length<=Es.length:=WH _ _
variable {c:Cfg}{step n:Nat}
theorem Fk(h:eY n c){deg:Nat}(hi:i<n)(hd:deg<=100000)(b:n<=64)(e:step<=100000): nA (AO c deg i step):=by
 have j:=h.g _ (kY (d:=0) (i:=i) (by rw[h.lg];exact hi));refine⟨h.v _ (kY (by rw[h.lv];exact hi)),h.v _ (kY (by rw[h.lv];exact hi)),h.i _ (kY (by rw[h.li];exact hi)),?_,?_,?_,?_,h.a,?_⟩
 .unfold i64 AO;simp only;omega
 .unfold i64 AO;simp only;omega
 .unfold i64 AO;simp only;omega
 .unfold i64 AO;simp only;omega
 .unfold i64 AO;simp only;omega
theorem nA.j4{E:Ev}(h:nA E)(b:i64 v): nA (E.j4 v):=⟨b,h.yp,h.jf,h.iI,h.step,h.id,h.deg,h.all,h.weight⟩
theorem nA.setW{E:Ev}(h:nA E)(b:i64 v): nA (E.setW v):=⟨h.value,h.yp,h.jf,h.iI,h.step,h.id,h.deg,h.all,b⟩
theorem MX{E:Ev}(j:nA E)(u:∀x n,number x=S n->i64 n): ∀{A:List Ed} {l:List (Nat × Int)},(∀x∈A,i64 x.n)->msgs L E A=S l->∀m∈l,i64 m.2:=by
 intro A
 induction A with
 |nil=>intro l _ h m hm;simp only[msgs] at h;injection h with h;subst h;cases hm
 |cons x r z =>
  intro l e h m hm;simp only[msgs] at h;split at h
  .cases h
  .rename_i v B;split at h
   .cases h
   .rename_i F b;injection h with h;subst h;rcases UC.1 hm with rfl|hm
    .exact FI (j.setW (e x (UI ..))) u B
    .exact z (λy C=>e y (UZ _ C)) b m hm
structure PU (n:Nat) (t:Tn):Prop where
 v:i64 t.value
 g:i64 t.lG
 l:Xg t.dX<=256
 s:∀m∈t.dX,m.1<n/\i64 m.2
variable {Es:List Ed}{P:Pg}
theorem ED(r:iO P Es n)(z:∀x n,number x=S n->i64 n)(G:eY n c)(hi:i<n)(I:step<=100000){t:Tn}(h:qJ P Es c i step=S t): PU n t:=by
 have A:=Fk G (deg:=(iE Es i).length) hi (by have:=oQ Es i;have:=r.es;omega) r.It I;unfold qJ gY at h;split at h
 .cases h
 .rename_i v M;have j:=FI A z M;split at h
  .cases h
  .rename_i C T;split at h
   .cases h
   .rename_i e b;have u:Xg e<=256/\∀m∈e,m.1<n/\i64 m.2:=by
     split at b
     .injection b with b;subst b;exact⟨by simp,λm y=>(by cases y)⟩
     .refine⟨?_,λm y=>⟨?_,?_⟩⟩
      .rw[AE b];have:=oQ Es i;have:=r.es;omega
      .have N:=Ey b;have F:m.1∈e.map Prod.fst:=Ve.2 ⟨m,y,O⟩;rw[N] at F;obtain⟨x,l,Q⟩:=Ve.1 F;have:=(r.ed x (VE.1 l).1).2.1;omega
      .exact MX (A.j4 j) z (λx l=>(r.ed x (VE.1 l).1).2.2) b m y
    unfold nT at h;split at h
    .cases h
    .rename_i V R;split at h
     .cases h
     .rename_i W B;injection h with h;subst h;exact⟨j,FI (A.j4 j) z B,u.1,u.2⟩
structure Bk (n k:Nat) (a:Acc):Prop where
 lv:Xg a.val=k
 lr:Xg a.fC=k
 v:∀x∈a.val,i64 x
 al:i64 a.all
 l:Xg a.dX<=k*256
 s:∀m∈a.dX,m.1<n/\i64 m.2
theorem sI(y:iO P Es n)(j:∀x n,number x=S n->i64 n)(r:eY n c)(z:step<=100000): ∀(k:Nat),k<=n->∀a,lI P Es c step k=.ok a->Bk n k a:=by
 intro k
 induction k with
 |zero =>
  intro _ a h;simp only[lI] at h;injection h with h;subst h;exact⟨rfl,rfl,λx j=>(by cases j),rk _,by simp,λm u=>(by cases u)⟩
 |succ k B =>
  intro I a h;simp only[lI] at h;split at h
  .cases h
  .rename_i C F;have A:=B (by omega) C F;split at h
   .split at h
    .cases h
    .rename_i t G;injection h with h;subst h;have T:=ED y j r (by omega) z G;refine⟨by simp[A.lv],by simp[A.lr],?_,AX _ A.al T.g,?_,?_⟩
     .intro x e;rcases Uq.1 e with b|b
      .exact A.v x b
      .rw[Uz] at b;rw[b];exact T.v
     .simp only[UG];have:=A.l;have:=T.l;omega
     .intro m u;rcases Uq.1 u with b|b
      .exact A.s m b
      .exact T.s m b
   .injection h with h;subst h;refine⟨by simp[A.lv],by simp[A.lr],?_,A.al,?_,A.s⟩
    .intro x e;rcases Uq.1 e with b|b
     .exact A.v x b
     .rw[Uz] at b;rw[b];exact r.v _ (kY (by rw[r.lv];omega))
    .have:=A.l;simp only;omega
theorem Jd(k:List UInt8):∀(l:List (Nat × Int)) (a:Int),i64 a->(∀m∈l,i64 m.2)->i64 (l.foldl (λx m=>jt k x m.2) a):=by
 intro l
 induction l with
 |nil=>intro a b _;exact b
 |cons m r j =>
  intro a b e;exact j _ (AX k b (e m (UI ..))) (λx u=>e x (UZ _ u))
theorem KK{b:List (Nat × Int)}(h:∀m∈b,m.1<n/\i64 m.2)(i:Nat): i64 (ig P b i):=Jd _ _ _ (rk _) (λm e=>(h m (VE.1 e).1).2)
theorem Ad(b:List (Nat × Int))(i:Nat):0<=hZ b i/\hZ b i<=(Xg b:Int):=by
 unfold hZ RE;have:=WH (λm:Nat × Int=>m.1 == i) b;omega
theorem rZ(e:iO P Es n){a:Acc}(A:Bk n n a): eY n (fh P n a):=by
 refine⟨A.lv,A.lr,by simp[fh],by simp[fh],A.v,?_,?_,A.al⟩
 .intro x b;obtain⟨i,_,rfl⟩:=Ve.1 b;have:=Ad a.dX i;have m:=A.l;have j:=e.It;have r:n*256<=64*256:=Wq _ j;omega
 .intro x b;obtain⟨i,_,rfl⟩:=Ve.1 b;exact KK A.s i
theorem DY(b:List (Nat × Int))(m:Nat × Int)(i:Nat):hZ (b++[m]) i=if m.1=i then hZ b i+1 else hZ b i:=by
 unfold hZ RE;rw[VB];by_cases c:m.1=i
 .rw[T0 c];simp[c]
 .rw[TZ c];simp[c]
theorem Dz(P:Pg)(b:List (Nat × Int))(m:Nat × Int)(i:Nat):ig P (b++[m]) i=if m.1=i then jt P.pB (ig P b i) m.2 else ig P b i:=by
 unfold ig RE;rw[VB];by_cases c:m.1=i
 .rw[T0 c];simp[c]
 .rw[TZ c];simp[c]
end Sp
end Go.Proofs.YtgkkdpegcieakaaGreatDoor
