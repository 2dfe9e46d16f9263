import Derived.Test.YtgkkdpegcieakaaGreatDoorCz11
set_option linter.unusedVariables false
set_option linter.unusedSimpArgs false
set_option maxRecDepth 100000
set_option maxHeartbeats 16000000
namespace Go.Proofs.YtgkkdpegcieakaaGreatDoor
open Go.Proofs.Tryz
open Value renaming int→Z
open IntKind renaming i64→Y
open Go renaming World→TJ,Value→TK,Calls→TL
namespace Sp
open Go Go.RowKit
structure Good (L:List (List UInt8)):Prop where
 fm:kh true L 0=true
 one:eZ L 0 []=some (1,[])
 len:L.length<=4000
end Sp
namespace Sp
open Go Go.RowKit
def eN(k:List UInt8):Int:=if k=[109,105,110] then 9223372036854775807 else if k=[109,97,120] then -9223372036854775808 else 0
def jn(k:List UInt8)(a b:Int):Int:=if k=[115,117,109] then wrap64 (a+b) else if (k=[109,105,110]/\b<a)\/(k=[109,97,120]/\a<b) then b else a
structure Pg where
 code:Nat->List (List UInt8)
 pK:List UInt8
 al:List UInt8
structure Cfg where
 val:List Int
 fC:List Bool
 iK:List Int
 je:List Int
 all:Int
structure Tn where
 value:Int
 gx:Bool
 lI:Int
 dy:List (Nat × Int)
def zE(c:Cfg)(deg i step:Nat):Ev:=⟨c.val.getD i 0,c.val.getD i 0,c.je.getD i 0,c.iK.getD i 0,step,i,deg,c.all,0⟩
def Ev.jY(E:Ev)(v:Int):Ev:={ E with value:=v }
def Ev.setW(E:Ev)(v:Int):Ev:={ E with weight:=v }
def Ev.iM(E:Ev)(v:Int):Ev:={ E with vq:=v }
def iG(Es:List Ed)(i:Nat):List Ed:=Es.filter (λx=>x.de == i)
def msgs(L:List (List UInt8))(E:Ev):List Ed->Option (List (Nat × Int))
 |[]=>some []
 |x::r=>match ev L (E.setW x.n) with
  |none=>none
  |some m=>match msgs L E r with
   |none=>none
   |some l=>some ((x.vo,m)::l)
def nL(P:Pg)(e:Ev)(v:Int)(b:List (Nat × Int)):Option Tn:=match ev (P.code 3) e with
 |none=>none
 |some h=>match ev (P.code 4) e with
  |none=>none
  |some g=>some ⟨v,h != 0,g,b⟩
def ia(P:Pg)(E:Ev)(b:List Ed):Option Tn:=match ev (P.code 0) E with
 |none=>none
 |some v=>match ev (P.code 1) (E.jY v) with
  |none=>none
  |some goes=>match (if goes=0 then some [] else msgs (P.code 2) (E.jY v) b) with
   |none=>none
   |some dy=>nL P (E.jY v) v dy
def qA(P:Pg)(Es:List Ed)(c:Cfg)(i step:Nat):Option Tn:=ia P (zE c (iG Es i).length i step) (iG Es i)
def mO(c:Cfg)(i step:Nat):Bool:=step == 0 || (!(c.fC.getD i false) || decide (0<c.iK.getD i 0))
structure Acc where
 val:List Int
 fC:List Bool
 all:Int
 dy:List (Nat × Int)
def lK(P:Pg)(Es:List Ed)(c:Cfg)(step:Nat):Nat->Except Nat Acc
 |0=>.ok ⟨[],[],eN P.al,[]⟩
 |k+1=>match lK P Es c step k with
  |.error i=>.error i
  |.ok a=>if mO c k step then (match qA P Es c k step with
    |none=>.error k
    |some t=>.ok ⟨a.val++[t.value],a.fC++[t.gx],jn P.al a.all t.lI,a.dy++t.dy⟩)
   else .ok ⟨a.val++[c.val.getD k 0],a.fC++[c.fC.getD k false],a.all,a.dy⟩
def PY(b:List (Nat × Int))(i:Nat):List (Nat × Int):=b.filter (λm=>m.1 == i)
def gZ(b:List (Nat × Int))(i:Nat):Int:=((PY b i).length:Int)
def ij(P:Pg)(b:List (Nat × Int))(i:Nat):Int:=(PY b i).foldl (λx m=>jn P.pK x m.2) (eN P.pK)
def fh(P:Pg)(n:Nat)(a:Acc):Cfg:=⟨a.val,a.fC,(List.range n).map (gZ a.dy),(List.range n).map (ij P a.dy),a.all⟩
def fS(P:Pg)(b:List Int):Cfg:=⟨b,List.replicate b.length false,List.replicate b.length 0,List.replicate b.length (eN P.pK),eN P.al⟩
def quiet(c:Cfg)(step:Nat):Bool:=(List.range c.val.length).all λi=>!mO c i step
structure nK where
 outcome:Nat
 step:Nat
 dC:Nat
 dH:List Int
def BH(P:Pg)(Es:List Ed)(cap:Nat):Nat->Nat->Cfg->nK
 |0,_,_=>⟨0,0,0,[]⟩
 |g+1,step,c=>if quiet c step then ⟨1,step,0,c.val⟩ else if cap<=step then ⟨2,step,0,c.val⟩ else
  match lK P Es c step c.val.length with
  |.error i=>⟨3,step,i,c.val⟩
  |.ok a=>BH P Es cap g (step+1) (fh P c.val.length a)
def Fw(P:Pg)(b:List Int)(Es:List Ed)(cap:Nat):nK:=BH P Es cap (cap+1) 0 (fS P b)
variable {E:Ev}{L:List (List UInt8)}
theorem LR(j:nk E)(l:∀x n,number x=some n->i64 n): ∀(g:Nat) (s t:Ms),Gb s->lG L E g s=some t->Gb t:=by
 intro g
 induction g with
 |zero=>intro s t _ h;cases h
 |succ g m =>
  intro s t e h;rw[lG] at h;split at h
  .injection h with h;subst h;exact e
  .split at h
   .cases h
   .rename_i r b;exact m _ _ (uA j l e b) h
variable {v:Int}
theorem D8(e:nk E)(j:∀x n,number x=some n->i64 n)(h:ev L E=some v): i64 v:=by
 unfold ev at h;cases b:lG L E 201 ⟨0,200,[],[]⟩ with
 |none=>rw[b] at h;cases h
 |some t =>
  rw[b] at h;have:=LR e j _ _ _ ⟨λv l=>(by cases l),λq m=>(by cases m)⟩ b;exact this.T v (List.mem_of_head? (by simpa using h))
theorem tm(L:List (List UInt8))(E:Ev):∀(A B:List Ed),msgs L E (A++B)=match msgs L E A with
  |none=>none
  |some a=>match msgs L E B with
   |none=>none
   |some b=>some (a++b):=by
 intro A
 induction A with
 |nil=>intro B;simp only[sj,msgs];cases msgs L E B <;> rfl
 |cons x r e =>
  intro B;simp only[mf,msgs];cases ev L (E.setW x.n) with
  |none=>rfl
  |some m =>
   simp only[e B];cases msgs L E r with
   |none=>rfl
   |some a=>simp only;cases msgs L E B <;> rfl
theorem BA: ∀{A:List Ed} {l:List (Nat × Int)},msgs L E A=some l->l.length=A.length:=by
 intro A
 induction A with
 |nil=>intro l h;simp only[msgs] at h;injection h with h;subst h;rfl
 |cons x r e =>
  intro l h;simp only[msgs] at h;split at h
  .cases h
  .split at h
   .cases h
   .rename_i j b;injection h with h;subst h;simp[e b]
theorem DK: ∀{A:List Ed} {l:List (Nat × Int)},msgs L E A=some l->l.map Prod.fst=A.map (·.vo):=by
 intro A
 induction A with
 |nil=>intro l h;simp only[msgs] at h;injection h with h;subst h;rfl
 |cons x r e =>
  intro l h;simp only[msgs] at h;split at h
  .cases h
  .split at h
   .cases h
   .rename_i j b;injection h with h;subst h;simp[e b]
structure eT (n:Nat) (c:Cfg):Prop where
 lv:c.val.length=n
 lr:c.fC.length=n
 lg:c.iK.length=n
 li:c.je.length=n
 v:∀x∈c.val,i64 x
 g:∀x∈c.iK,0<=x/\x<=4294967295
 i:∀x∈c.je,i64 x
 a:i64 c.all
theorem rZ(k:List UInt8):i64 (eN k):=by unfold eN i64;split <;> (try split) <;> omega
theorem zG(k:List UInt8){a b:Int}(ha:i64 a)(hb:i64 b):i64 (jn k a b):=by
 unfold jn;split
 .exact oC _
 .split
  .exact hb
  .exact ha
theorem rT(P:Pg)(b:List Int)(h:∀x∈b,i64 x):eT b.length (fS P b):=by
 refine⟨rfl,by simp[fS],by simp[fS],by simp[fS],h,?_,?_,rZ _⟩
 .intro x e;rw[List.eq_of_mem_replicate e];omega
 .intro x e;rw[List.eq_of_mem_replicate e];exact rZ _
structure iN (P:Pg) (Es:List Ed) (n:Nat):Prop where
 CU:∀i,i<5->Good (P.code i)
 nw:∀i,i<5->i≠2->kh false (P.code i) 0=true
 es:Es.length<=256
 FR:n<=64
 ed:∀x∈Es,x.de<n/\x.vo<n/\i64 x.n
 RE:P.pK∈fj
 RC:P.al∈fj
variable {i:Nat}
theorem kZ{α : Type}{l:List α}{d : α}(h:i<l.length): l.getD i d∈l:=by
 rw[cL,cH h];exact pY h
theorem oE(Es:List Ed)(i:Nat):(iG Es i).length<=Es.length:=Tz _ _
variable {n step:Nat}{c:Cfg}
theorem C7(h:eT n c){deg:Nat}(hi:i<n)(hd:deg<=100000)(b:n<=64)(e:step<=100000): nk (zE c deg i step):=by
 have j:=h.g _ (kZ (d:=0) (i:=i) (by rw[h.lg];exact hi));refine⟨h.v _ (kZ (by rw[h.lv];exact hi)),h.v _ (kZ (by rw[h.lv];exact hi)),h.i _ (kZ (by rw[h.li];exact hi)),?_,?_,?_,?_,h.a,?_⟩
 .unfold i64 zE;simp only;omega
 .unfold i64 zE;simp only;omega
 .unfold i64 zE;simp only;omega
 .unfold i64 zE;simp only;omega
 .unfold i64 zE;simp only;omega
theorem nk.jY(h:nk E)(b:i64 v): nk (E.jY v):=⟨b,h.vq,h.je,h.iK,h.step,h.id,h.deg,h.all,h.weight⟩
theorem nk.setW(h:nk E)(b:i64 v): nk (E.setW v):=⟨h.value,h.vq,h.je,h.iK,h.step,h.id,h.deg,h.all,b⟩
theorem Ku(j:nk E)(u:∀x n,number x=some n->i64 n): ∀{A:List Ed} {l:List (Nat × Int)},(∀x∈A,i64 x.n)->msgs L E A=some l->∀m∈l,i64 m.2:=by
 intro A
 induction A with
 |nil=>intro l _ h m hm;simp only[msgs] at h;injection h with h;subst h;cases hm
 |cons x r z =>
  intro l e h m hm;simp only[msgs] at h;split at h
  .cases h
  .rename_i v B;split at h
   .cases h
   .rename_i D b;injection h with h;subst h;rcases ic.1 hm with rfl|hm
    .exact D8 (j.setW (e x (mz ..))) u B
    .exact z (λy C=>e y (ts _ C)) b m hm
structure MR (n:Nat) (t:Tn):Prop where
 v:i64 t.value
 g:i64 t.lI
 l:t.dy.length<=256
 s:∀m∈t.dy,m.1<n/\i64 m.2
variable {P:Pg}{Es:List Ed}
theorem EC(r:iN P Es n)(z:∀x n,number x=some n->i64 n)(F:eT n c)(hi:i<n)(G:step<=100000){t:Tn}(h:qA P Es c i step=some t): MR n t:=by
 have A:=C7 F (deg:=(iG Es i).length) hi (by have:=oE Es i;have:=r.es;omega) r.FR G;unfold qA ia at h;split at h
 .cases h
 .rename_i v H;have j:=D8 A z H;split at h
  .cases h
  .rename_i C M;split at h
   .cases h
   .rename_i e b;have u:e.length<=256/\∀m∈e,m.1<n/\i64 m.2:=by
     split at b
     .injection b with b;subst b;exact⟨by simp,λm y=>(by cases y)⟩
     .refine⟨?_,λm y=>⟨?_,?_⟩⟩
      .rw[BA b];have:=oE Es i;have:=r.es;omega
      .have I:=DK b;have D:m.1∈e.map Prod.fst:=xD.2 ⟨m,y,rfl⟩;rw[I] at D;obtain⟨x,l,J⟩:=xD.1 D;have:=(r.ed x (FT.1 l).1).2.1;omega
      .exact Ku (A.jY j) z (λx l=>(r.ed x (FT.1 l).1).2.2) b m y
    unfold nL at h;split at h
    .cases h
    .rename_i N K;split at h
     .cases h
     .rename_i O B;injection h with h;subst h;exact⟨j,D8 (A.jY j) z B,u.1,u.2⟩
structure Ba (n k:Nat) (a:Acc):Prop where
 lv:a.val.length=k
 lr:a.fC.length=k
 v:∀x∈a.val,i64 x
 al:i64 a.all
 l:a.dy.length<=k*256
 s:∀m∈a.dy,m.1<n/\i64 m.2
theorem sq(y:iN P Es n)(j:∀x n,number x=some n->i64 n)(r:eT n c)(z:step<=100000): ∀(k:Nat),k<=n->∀a,lK P Es c step k=.ok a->Ba n k a:=by
 intro k
 induction k with
 |zero =>
  intro _ a h;simp only[lK] at h;injection h with h;subst h;exact⟨rfl,rfl,λx j=>(by cases j),rZ _,by simp,λm u=>(by cases u)⟩
 |succ k B =>
  intro G a h;simp only[lK] at h;split at h
  .cases h
  .rename_i C D;have A:=B (by omega) C D;split at h
   .split at h
    .cases h
    .rename_i t F;injection h with h;subst h;have T:=EC y j r (by omega) z F;refine⟨by simp[A.lv],by simp[A.lr],?_,zG _ A.al T.g,?_,?_⟩
     .intro x e;rcases cJ.1 e with b|b
      .exact A.v x b
      .rw[eh] at b;rw[b];exact T.v
     .simp only[lN];have:=A.l;have:=T.l;omega
     .intro m u;rcases cJ.1 u with b|b
      .exact A.s m b
      .exact T.s m b
   .injection h with h;subst h;refine⟨by simp[A.lv],by simp[A.lr],?_,A.al,?_,A.s⟩
    .intro x e;rcases cJ.1 e with b|b
     .exact A.v x b
     .rw[eh] at b;rw[b];exact r.v _ (kZ (by rw[r.lv];omega))
    .have:=A.l;simp only;omega
theorem GN(k:List UInt8):∀(l:List (Nat × Int)) (a:Int),i64 a->(∀m∈l,i64 m.2)->i64 (l.foldl (λx m=>jn k x m.2) a):=by
 intro l
 induction l with
 |nil=>intro a b _;exact b
 |cons m r j =>
  intro a b e;exact j _ (zG k b (e m (mz ..))) (λx u=>e x (ts _ u))
theorem IV{b:List (Nat × Int)}(h:∀m∈b,m.1<n/\i64 m.2)(i:Nat): i64 (ij P b i):=GN _ _ _ (rZ _) (λm e=>(h m (FT.1 e).1).2)
theorem AH(b:List (Nat × Int))(i:Nat):0<=gZ b i/\gZ b i<=(b.length:Int):=by
 unfold gZ PY;have:=Tz (λm:Nat × Int=>m.1 == i) b;omega
theorem r8(e:iN P Es n){a:Acc}(A:Ba n n a): eT n (fh P n a):=by
 refine⟨A.lv,A.lr,by simp[fh],by simp[fh],A.v,?_,?_,A.al⟩
 .intro x b;obtain⟨i,_,rfl⟩:=xD.1 b;have:=AH a.dy i;have m:=A.l;have j:=e.FR;have r:n*256<=64*256:=Tj _ j;omega
 .intro x b;obtain⟨i,_,rfl⟩:=xD.1 b;exact IV A.s i
theorem Cc(b:List (Nat × Int))(m:Nat × Int)(i:Nat):gZ (b++[m]) i=if m.1=i then gZ b i+1 else gZ b i:=by
 unfold gZ PY;rw[Dr];by_cases c:m.1=i
 .rw[cg c];simp[c]
 .rw[cd c];simp[c]
theorem BM(P:Pg)(b:List (Nat × Int))(m:Nat × Int)(i:Nat):ij P (b++[m]) i=if m.1=i then jn P.pK (ij P b i) m.2 else ij P b i:=by
 unfold ij PY;rw[Dr];by_cases c:m.1=i
 .rw[cg c];simp[c]
 .rw[cd c];simp[c]
end Sp
end Go.Proofs.YtgkkdpegcieakaaGreatDoor
