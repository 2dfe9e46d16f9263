import Derived.Test.YtgkkdpegcieakaaGreatDoorCv09
set_option linter.all false
set_option maxRecDepth 100000
set_option maxHeartbeats 0
namespace Go.Proofs.YtgkkdpegcieakaaGreatDoor
open Go.Proofs.Tryz
open Value renaming int→Z
open Option renaming none→U,some→S
open List renaming length→Wn
open IntKind renaming i64→Y
open Go renaming World→V5,Value→V6,Calls→V7
namespace Sp
open Go Go.RowKit
def rn(L:List (List UInt8))(E:Ev)(s:Ms):Option Ms:=lG L E (s.fuel+1) s
structure Good (L:List (List UInt8)):Prop where
 fm:kI true L 0=true
 one:fe L 0 []=S (1,[])
 len:Wn L<=4000
end Sp
namespace Sp
open Go Go.RowKit
def eT(k:List UInt8):Int:=if k=[109,105,110] then 9223372036854775807 else if k=[109,97,120] then -9223372036854775808 else 0
def jq(k:List UInt8)(a b:Int):Int:=if k=[115,117,109] then wrap64 (a+b) else if (k=[109,105,110]/\b<a)\/(k=[109,97,120]/\a<b) then b else a
structure Pg where
 code:Nat->List (List UInt8)
 pq:List UInt8
 al:List UInt8
structure Cfg where
 val:List Int
 fD:List Bool
 iH:List Int
 jf:List Int
 all:Int
structure Tn where
 value:Int
 gx:Bool
 lE:Int
 dZ:List (Nat × Int)
def AU(c:Cfg)(deg i step:Nat):Ev:=⟨c.val.getD i 0,c.val.getD i 0,c.jf.getD i 0,c.iH.getD i 0,step,i,deg,c.all,0⟩
def Ev.j4(E:Ev)(v:Int):Ev:={ E with value:=v }
def Ev.setW(E:Ev)(v:Int):Ev:={ E with weight:=v }
def Ev.iW(E:Ev)(v:Int):Ev:={ E with xB:=v }
def iE(Es:List Ed)(i:Nat):List Ed:=Es.filter (λx=>x.dp == i)
def msgs(L:List (List UInt8))(E:Ev):List Ed->Option (List (Nat × Int))
 |[]=>S []
 |x::r=>match ev L (E.setW x.n) with
  |none=>U
  |some m=>match msgs L E r with
   |none=>U
   |some l=>S ((x.cS,m)::l)
def nQ(P:Pg)(e:Ev)(v:Int)(b:List (Nat × Int)):Option Tn:=match ev (P.code 3) e with
 |none=>U
 |some h=>match ev (P.code 4) e with
  |none=>U
  |some g=>S ⟨v,h != 0,g,b⟩
def ie(P:Pg)(E:Ev)(b:List Ed):Option Tn:=match ev (P.code 0) E with
 |none=>U
 |some v=>match ev (P.code 1) (E.j4 v) with
  |none=>U
  |some goes=>match (if goes=0 then S [] else msgs (P.code 2) (E.j4 v) b) with
   |none=>U
   |some dZ=>nQ P (E.j4 v) v dZ
def qJ(P:Pg)(Es:List Ed)(c:Cfg)(i step:Nat):Option Tn:=ie P (AU c (iE Es i).length i step) (iE Es i)
def mh(c:Cfg)(i step:Nat):Bool:=step == 0 || (!(c.fD.getD i false) || decide (0<c.iH.getD i 0))
structure Acc where
 val:List Int
 fD:List Bool
 all:Int
 dZ:List (Nat × Int)
def lK(P:Pg)(Es:List Ed)(c:Cfg)(step:Nat):Nat->Except Nat Acc
 |0=>.ok ⟨[],[],eT P.al,[]⟩
 |k+1=>match lK P Es c step k with
  |.error i=>.error i
  |.ok a=>if mh c k step then (match qJ P Es c k step with
    |none=>.error k
    |some t=>.ok ⟨a.val++[t.value],a.fD++[t.gx],jq P.al a.all t.lE,a.dZ++t.dZ⟩)
   else .ok ⟨a.val++[c.val.getD k 0],a.fD++[c.fD.getD k false],a.all,a.dZ⟩
def Q6(b:List (Nat × Int))(i:Nat):List (Nat × Int):=b.filter (λm=>m.1 == i)
def hZ(b:List (Nat × Int))(i:Nat):Int:=((Q6 b i).length:Int)
def iv(P:Pg)(b:List (Nat × Int))(i:Nat):Int:=(Q6 b i).foldl (λx m=>jq P.pq x m.2) (eT P.pq)
def fi(P:Pg)(n:Nat)(a:Acc):Cfg:=⟨a.val,a.fD,(List.range n).map (hZ a.dZ),(List.range n).map (iv P a.dZ),a.all⟩
def fX(P:Pg)(b:List Int):Cfg:=⟨b,List.replicate (Wn b) false,List.replicate (Wn b) 0,List.replicate (Wn b) (eT P.pq),eT P.al⟩
def quiet(c:Cfg)(step:Nat):Bool:=(List.range (Wn c.val)).all λi=>!mh c i step
structure nG where
 outcome:Nat
 step:Nat
 dG:Nat
 dJ:List Int
def Cu(P:Pg)(Es:List Ed)(cap:Nat):Nat->Nat->Cfg->nG
 |0,_,_=>⟨0,0,0,[]⟩
 |g+1,step,c=>if quiet c step then ⟨1,step,0,c.val⟩ else if cap<=step then ⟨2,step,0,c.val⟩ else
  match lK P Es c step (Wn c.val) with
  |.error i=>⟨3,step,i,c.val⟩
  |.ok a=>Cu P Es cap g (step+1) (fi P (Wn c.val) a)
def FV(P:Pg)(b:List Int)(Es:List Ed)(cap:Nat):nG:=Cu P Es cap (cap+1) 0 (fX P b)
variable {L:List (List UInt8)}
theorem LO{E:Ev}(j:nE E)(l:∀x n,number x=S n->i64 n): ∀(g:Nat) (s t:Ms),Hg s->lG L E g s=S t->Hg t:=by
 intro g
 induction g with
 |zero=>intro s t _ h;cases h
 |succ g m =>
  intro s t e h;rw[lG] at h;split at h
  .injection h with h;subst h;exact e
  .split at h
   .cases h
   .rename_i r b;exact m _ _ (vz j l e b) h
variable {v:Int}
theorem Fp{E:Ev}(e:nE E)(j:∀x n,number x=S n->i64 n)(h:ev L E=S v): i64 v:=by
 unfold ev at h;cases b:lG L E 201 ⟨0,200,[],[]⟩ with
 |none=>rw[b] at h;cases h
 |some t =>
  rw[b] at h;have:=LO e j _ _ _ ⟨λv l=>(by cases l),λq m=>(by cases m)⟩ b;exact this.T v (List.mem_of_head? (by simpa using h))
theorem ts(L:List (List UInt8))(E:Ev):∀(A B:List Ed),msgs L E (A++B)=match msgs L E A with
  |none=>U
  |some a=>match msgs L E B with
   |none=>U
   |some b=>S (a++b):=by
 intro A
 induction A with
 |nil=>intro B;simp only[Ul,msgs];cases msgs L E B <;> rfl
 |cons x r e =>
  intro B;simp only[TZ,msgs];cases ev L (E.setW x.n) with
  |none=>rfl
  |some m =>
   simp only[e B];cases msgs L E r with
   |none=>rfl
   |some a=>simp only;cases msgs L E B <;> rfl
theorem Bz{E:Ev}: ∀{A:List Ed} {l:List (Nat × Int)},msgs L E A=S l->Wn l=Wn A:=by
 intro A
 induction A with
 |nil=>intro l h;simp only[msgs] at h;injection h with h;subst h;rfl
 |cons x r e =>
  intro l h;simp only[msgs] at h;split at h
  .cases h
  .split at h
   .cases h
   .rename_i j b;injection h with h;subst h;simp[e b]
theorem El{E:Ev}: ∀{A:List Ed} {l:List (Nat × Int)},msgs L E A=S l->l.map Prod.fst=A.map (·.cS):=by
 intro A
 induction A with
 |nil=>intro l h;simp only[msgs] at h;injection h with h;subst h;rfl
 |cons x r e =>
  intro l h;simp only[msgs] at h;split at h
  .cases h
  .split at h
   .cases h
   .rename_i j b;injection h with h;subst h;simp[e b]
structure eY (n:Nat) (c:Cfg):Prop where
 lv:Wn c.val=n
 lr:Wn c.fD=n
 lg:Wn c.iH=n
 li:Wn c.jf=n
 v:∀x∈c.val,i64 x
 g:∀x∈c.iH,0<=x/\x<=4294967295
 i:∀x∈c.jf,i64 x
 a:i64 c.all
theorem rE(k:List UInt8):i64 (eT k):=by unfold eT i64;split <;> (try split) <;> omega
theorem AP(k:List UInt8){a b:Int}(ha:i64 a)(hb:i64 b):i64 (jq k a b):=by
 unfold jq;split
 .exact oI _
 .split
  .exact hb
  .exact ha
theorem qU(P:Pg)(b:List Int)(h:∀x∈b,i64 x):eY (Wn b) (fX P b):=by
 refine⟨O,by simp[fX],by simp[fX],by simp[fX],h,?_,?_,rE _⟩
 .intro x e;rw[List.eq_of_mem_replicate e];omega
 .intro x e;rw[List.eq_of_mem_replicate e];exact rE _
structure iM (P:Pg) (Es:List Ed) (n:Nat):Prop where
 Dc:∀i,i<5->Good (P.code i)
 nw:∀i,i<5->i≠2->kI false (P.code i) 0=true
 es:Es.length<=256
 FW:n<=64
 ed:∀x∈Es,x.dp<n/\x.cS<n/\i64 x.n
 Td:P.pq∈fp
 Ta:P.al∈fp
variable {i:Nat}
theorem lh{α : Type}{l:List α}{d : α}(h:i<Wn l): l.getD i d∈l:=by
 rw[Ty,Tw h];exact Uc h
theorem oN(Es:List Ed)(i:Nat):(iE Es i).length<=Es.length:=VV _ _
variable {n step:Nat}{c:Cfg}
theorem E0(h:eY n c){deg:Nat}(hi:i<n)(hd:deg<=100000)(b:n<=64)(e:step<=100000): nE (AU c deg i step):=by
 have j:=h.g _ (lh (d:=0) (i:=i) (by rw[h.lg];exact hi));refine⟨h.v _ (lh (by rw[h.lv];exact hi)),h.v _ (lh (by rw[h.lv];exact hi)),h.i _ (lh (by rw[h.li];exact hi)),?_,?_,?_,?_,h.a,?_⟩
 .unfold i64 AU;simp only;omega
 .unfold i64 AU;simp only;omega
 .unfold i64 AU;simp only;omega
 .unfold i64 AU;simp only;omega
 .unfold i64 AU;simp only;omega
theorem nE.j4{E:Ev}(h:nE E)(b:i64 v): nE (E.j4 v):=⟨b,h.xB,h.jf,h.iH,h.step,h.id,h.deg,h.all,h.weight⟩
theorem nE.setW{E:Ev}(h:nE E)(b:i64 v): nE (E.setW v):=⟨h.value,h.xB,h.jf,h.iH,h.step,h.id,h.deg,h.all,b⟩
theorem Mo{E:Ev}(j:nE E)(u:∀x n,number x=S n->i64 n): ∀{A:List Ed} {l:List (Nat × Int)},(∀x∈A,i64 x.n)->msgs L E A=S l->∀m∈l,i64 m.2:=by
 intro A
 induction A with
 |nil=>intro l _ h m hm;simp only[msgs] at h;injection h with h;subst h;cases hm
 |cons x r z =>
  intro l e h m hm;simp only[msgs] at h;split at h
  .cases h
  .rename_i v B;split at h
   .cases h
   .rename_i F b;injection h with h;subst h;rcases TO.1 hm with rfl|hm
    .exact Fp (j.setW (e x (TV ..))) u B
    .exact z (λy C=>e y (Ug _ C)) b m hm
structure Qq (n:Nat) (t:Tn):Prop where
 v:i64 t.value
 g:i64 t.lE
 l:Wn t.dZ<=256
 s:∀m∈t.dZ,m.1<n/\i64 m.2
variable {P:Pg}{Es:List Ed}
theorem Ej(r:iM P Es n)(z:∀x n,number x=S n->i64 n)(G:eY n c)(hi:i<n)(I:step<=100000){t:Tn}(h:qJ P Es c i step=S t): Qq n t:=by
 have A:=E0 G (deg:=(iE Es i).length) hi (by have:=oN Es i;have:=r.es;omega) r.FW I;unfold qJ ie at h;split at h
 .cases h
 .rename_i v K;have j:=Fp A z K;split at h
  .cases h
  .rename_i C T;split at h
   .cases h
   .rename_i e b;have u:Wn e<=256/\∀m∈e,m.1<n/\i64 m.2:=by
     split at b
     .injection b with b;subst b;exact⟨by simp,λm y=>(by cases y)⟩
     .refine⟨?_,λm y=>⟨?_,?_⟩⟩
      .rw[Bz b];have:=oN Es i;have:=r.es;omega
      .have M:=El b;have F:m.1∈e.map Prod.fst:=Uu.2 ⟨m,y,O⟩;rw[M] at F;obtain⟨x,l,Q⟩:=Uu.1 F;have:=(r.ed x (UU.1 l).1).2.1;omega
      .exact Mo (A.j4 j) z (λx l=>(r.ed x (UU.1 l).1).2.2) b m y
    unfold nQ at h;split at h
    .cases h
    .rename_i V R;split at h
     .cases h
     .rename_i W B;injection h with h;subst h;exact⟨j,Fp (A.j4 j) z B,u.1,u.2⟩
structure BW (n k:Nat) (a:Acc):Prop where
 lv:Wn a.val=k
 lr:Wn a.fD=k
 v:∀x∈a.val,i64 x
 al:i64 a.all
 l:Wn a.dZ<=k*256
 s:∀m∈a.dZ,m.1<n/\i64 m.2
theorem sT(y:iM P Es n)(j:∀x n,number x=S n->i64 n)(r:eY n c)(z:step<=100000): ∀(k:Nat),k<=n->∀a,lK P Es c step k=.ok a->BW n k a:=by
 intro k
 induction k with
 |zero =>
  intro _ a h;simp only[lK] at h;injection h with h;subst h;exact⟨rfl,rfl,λx j=>(by cases j),rE _,by simp,λm u=>(by cases u)⟩
 |succ k B =>
  intro I a h;simp only[lK] at h;split at h
  .cases h
  .rename_i C F;have A:=B (by omega) C F;split at h
   .split at h
    .cases h
    .rename_i t G;injection h with h;subst h;have T:=Ej y j r (by omega) z G;refine⟨by simp[A.lv],by simp[A.lr],?_,AP _ A.al T.g,?_,?_⟩
     .intro x e;rcases TB.1 e with b|b
      .exact A.v x b
      .rw[TL] at b;rw[b];exact T.v
     .simp only[TT];have:=A.l;have:=T.l;omega
     .intro m u;rcases TB.1 u with b|b
      .exact A.s m b
      .exact T.s m b
   .injection h with h;subst h;refine⟨by simp[A.lv],by simp[A.lr],?_,A.al,?_,A.s⟩
    .intro x e;rcases TB.1 e with b|b
     .exact A.v x b
     .rw[TL] at b;rw[b];exact r.v _ (lh (by rw[r.lv];omega))
    .have:=A.l;simp only;omega
theorem JA(k:List UInt8):∀(l:List (Nat × Int)) (a:Int),i64 a->(∀m∈l,i64 m.2)->i64 (l.foldl (λx m=>jq k x m.2) a):=by
 intro l
 induction l with
 |nil=>intro a b _;exact b
 |cons m r j =>
  intro a b e;exact j _ (AP k b (e m (TV ..))) (λx u=>e x (Ug _ u))
theorem Hw{b:List (Nat × Int)}(h:∀m∈b,m.1<n/\i64 m.2)(i:Nat): i64 (iv P b i):=JA _ _ _ (rE _) (λm e=>(h m (UU.1 e).1).2)
theorem BO(b:List (Nat × Int))(i:Nat):0<=hZ b i/\hZ b i<=(Wn b:Int):=by
 unfold hZ Q6;have:=VV (λm:Nat × Int=>m.1 == i) b;omega
theorem qP(e:iM P Es n){a:Acc}(A:BW n n a): eY n (fi P n a):=by
 refine⟨A.lv,A.lr,by simp[fi],by simp[fi],A.v,?_,?_,A.al⟩
 .intro x b;obtain⟨i,_,rfl⟩:=Uu.1 b;have:=BO a.dZ i;have m:=A.l;have j:=e.FW;have r:n*256<=64*256:=VH _ j;omega
 .intro x b;obtain⟨i,_,rfl⟩:=Uu.1 b;exact Hw A.s i
theorem C3(b:List (Nat × Int))(m:Nat × Int)(i:Nat):hZ (b++[m]) i=if m.1=i then hZ b i+1 else hZ b i:=by
 unfold hZ Q6;rw[UQ];by_cases c:m.1=i
 .rw[Tg c];simp[c]
 .rw[Tf c];simp[c]
theorem DH(P:Pg)(b:List (Nat × Int))(m:Nat × Int)(i:Nat):iv P (b++[m]) i=if m.1=i then jq P.pq (iv P b i) m.2 else iv P b i:=by
 unfold iv Q6;rw[UQ];by_cases c:m.1=i
 .rw[Tg c];simp[c]
 .rw[Tf c];simp[c]
end Sp
end Go.Proofs.YtgkkdpegcieakaaGreatDoor
