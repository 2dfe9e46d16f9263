import Derived.Test.YtgkkdpegcieakaaGreatDoorCv01
set_option linter.all false
set_option maxRecDepth 100000
set_option maxHeartbeats 0
namespace Go.Proofs.YtgkkdpegcieakaaGreatDoor
open Go.Proofs.Tryz
open Value renaming int→Z
open Option renaming none→U,some→S
open Bool renaming true→We,false→Wg
open Or renaming inl→Wh,inr→Wi
open List renaming length→Wn
open IntKind renaming i64→Y
open Go renaming World→V5,Value→V6,Calls→V7
open Go.RowKit
namespace Sd
open Go
theorem xZ:∀l:List UInt8,Op.bytesLess l l=Wg
 |[]=>rfl
 |a::l=>by simp[Op.bytesLess,xZ l]
theorem Aw:∀a b c:List UInt8,Op.bytesLess a b=We->Op.bytesLess b c=We->Op.bytesLess a c=We
 |_,[],_,h,_=>by cases ‹List UInt8› <;> simp[Op.bytesLess] at h
 |_,_::_,[],_,h=>by simp[Op.bytesLess] at h
 |[],_::_,_::_,_,_=>rfl
 |a::x,b::y,c::z,j,e=>by
  simp only[Op.bytesLess,Bool.or_eq_true,Vl,decide_eq_true_iff,UH] at j e ⊢;rcases j with j|⟨rfl,j⟩
  .rcases e with e|⟨rfl,e⟩
   .exact Wh (UInt8.lt_trans j e)
   .exact Wh j
  .rcases e with e|⟨rfl,e⟩
   .exact Wh e
   .exact Wi ⟨O,Aw x y z j e⟩
theorem JR:∀a b:List UInt8,Op.bytesLess a b=We\/a=b\/Op.bytesLess b a=We
 |[],[]=>Wi (Wh rfl)
 |[],_::_=>Wh rfl
 |_::_,[]=>Wi (Wi rfl)
 |a::x,b::y=>by
  simp only[Op.bytesLess,Bool.or_eq_true,Vl,decide_eq_true_iff,UH,Vs];rcases Nat.lt_trichotomy a.toNat b.toNat with h|h|h
  .exact Wh (Wh h)
  .have e:a=b:=UInt8.toNat_inj.1 h;subst e;rcases JR x y with g|g|g
   .exact Wh (Wi ⟨O,g⟩)
   .exact Wi (Wh ⟨O,g⟩)
   .exact Wi (Wi (Wi ⟨O,g⟩))
  .exact Wi (Wi (Wh h))
def lt(a b:V8):Bool:=Op.bytesLess a.toList b.toList
theorem lt_irrefl(a:V8):lt a a=Wg:=xZ _
variable {a b:V8}
theorem lt_trans{c:V8}(h1:lt a b=We)(h2:lt b c=We): lt a c=We:=Aw _ _ _ h1 h2
theorem toList_inj(h:a.toList=b.toList): a=b:=by
 rw[UK,UK] at h;exact Uy (Vn.1 h)
theorem qz(a b:V8):lt a b=We\/a=b\/lt b a=We:=by
 rcases JR a.toList b.toList with h|h|h
 .exact Wh h
 .exact Wi (Wh (toList_inj h))
 .exact Wi (Wi h)
theorem lt_asymm(h:lt a b=We): lt b a=Wg:=by
 cases hb:lt b a with
 |false=>rfl
 |true=>have:=lt_trans h hb;rw[lt_irrefl] at this;cases this
theorem sd(h:lt a b=We): ¬a=b:=λe=>by subst e;rw[lt_irrefl] at h;cases h
theorem Ro(h:lt a b=Wg): b=a\/lt b a=We:=by
 rcases qz a b with g|g|g
 .rw[g] at h;cases h
 .exact Wh g.symm
 .exact Wi g
theorem oW{c:V8}(h1:lt b a=Wg)(h2:lt b c=We): lt a c=We:=by
 rcases Ro h1 with e|g
 .subst e;exact h2
 .exact lt_trans g h2
abbrev Tb:=List (V8 × Nat)
def dv(T:Tb)(a:V8):Nat:=(T.filter λp=>lt p.1 a).length
def dD(T:Tb)(a:V8):Bool:=T.any λp=>decide (p.1=a)
def dj(T:Tb):Prop:=T.Pairwise λp q=>lt p.1 q.1=We
def gJ(T:Tb)(a:V8)(v:Nat):Tb:=T.take (dv T a)++(a,v)::T.drop (dv T a)
theorem lW(T:Tb)(a:V8):dv T a<=Wn T:=VV _ _
theorem iq(A B:Tb)(a:V8)(j:∀p∈A,lt p.1 a=We)(l:∀p∈B,lt p.1 a=Wg):dv (A++B) a=Wn A:=by
 unfold dv;rw[UQ,VL.2 (λp e=>j p e),VM.2 (λp e=>by rw[l p e];decide)];simp
variable {T:Tb}{i:Nat}
theorem jM(hi:i<=Wn T)(h1:∀j (h:j<Wn T),j<i->lt (T[j]).1 a=We)(h2:∀j (h:j<Wn T),i<=j->lt (T[j]).1 a=Wg): dv T a=i:=by
 have e:=Un i T;rw[<-e,iq]
 .simp;omega
 .intro p l;obtain⟨j,m,rfl⟩:=T5.1 l;simp at m ⊢;exact h1 j (by omega) (by omega)
 .intro p l;obtain⟨j,m,rfl⟩:=T5.1 l;simp at m ⊢;exact h2 (i+j) (by omega) (by omega)
theorem eA(h:dj T){j:Nat}(e:i<j)(l:j<Wn T): lt (T[i]'(by omega)).1 (T[j]).1=We:=VY.1 h i j (by omega) l e
theorem fg(h:dj T){j:Nat}(e:i<=j)(l:j<Wn T): lt (T[j]).1 (T[i]'(by omega)).1=Wg:=by
 rcases VG e with m|rfl
 .exact lt_asymm (eA h m l)
 .exact lt_irrefl _
theorem kZ(h:dj T)(a:V8): (∀j (m:j<Wn T),j<dv T a↔lt (T[j]).1 a=We):=by
 induction T with
 |nil=>intro j m;simp at m
 |cons p t A =>
  have B:dj t:=(Um.1 h).2;have z:=(Um.1 h).1;intro j m;cases l:lt p.1 a with
  |true =>
   have e:dv (p::t) a=dv t a+1:=by unfold dv;rw[U7,Tg l];rfl
   rw[e];cases j with
   |zero=>simp[l]
   |succ j=>simpa using A B j (by simpa using m)
  |false =>
   have e:dv (p::t) a=0:=by
    have:=iq [] (p::t) a (by simp) (by
     intro q u;rcases TO.1 u with rfl|u
     .exact l
     .cases y:lt q.1 a with
      |false=>rfl
      |true=>have:=lt_trans (z q u) y;rw[this] at l;cases l)
    simpa using this
   rw[e];constructor
   .intro r;omega
   .intro r;exfalso;cases j with
    |zero=>simp at r;rw[r] at l;cases l
    |succ j=>have C:=z (t[j]'(by simpa using m)) (Uc _);simp at r;have:=lt_trans C r;rw[this] at l;cases l
theorem iP: dD T a=We↔∃v,(a,v)∈T:=by
 unfold dD;rw[UL];constructor
 .rintro⟨p,e,j⟩;have:p.1=a:=by simpa using j
  exact⟨p.2,by rw[<-this];exact e⟩
 .rintro⟨v,l⟩;exact⟨(a,v),l,by simp⟩
theorem iV(h:dj T)(a:V8): dD T a=We↔∃m:dv T a<Wn T,(T[dv T a]).1=a:=by
 constructor
 .intro u;obtain⟨p,y,e⟩:=UL.1 u;obtain⟨j,m,rfl⟩:=T5.1 y;have e:(T[j]).1=a:=by simpa using e
  have r:dv T a=j:=jM (by omega) (λi hi l=>by have:=eA h l m;rw[e] at this;exact this) (λi hi l=>by have:=fg h l hi;rw[e] at this;exact this);rw[r];exact⟨m,e⟩
 .rintro⟨m,e⟩;exact UL.2 ⟨T[dv T a],Uc _,by simpa using e⟩
variable {v:Nat}
theorem iw(h:dj T)(y:dD T a=Wg): dj (gJ T a v):=by
 have z:=kZ h a;unfold gJ dj;rw[Vt];refine⟨h.sublist (List.take_sublist _ _),Um.2 ⟨?_,h.sublist (List.drop_sublist _ _)⟩,?_⟩
 .intro q l;obtain⟨j,r,rfl⟩:=T5.1 l;simp at r ⊢;have u:=not_congr (z (dv T a+j) (by omega));have A:¬(T[dv T a+j]).1=a:=by
   intro e;have:dD T a=We:=UL.2 ⟨T[dv T a+j],Uc _,by simpa using e⟩;rw[this] at y;cases y
  have B:=u.1 (by omega);rcases qz (T[dv T a+j]).1 a with g|g|g
  .exact absurd g B
  .exact absurd g A
  .exact g
 .intro p C q l;obtain⟨i,hi,rfl⟩:=T5.1 C;have m:i<dv T a/\i<Wn T:=by rw[Uz] at hi;omega
  have u:=(z i m.2).1 m.1;rcases TO.1 l with rfl|l
  .simpa using u
  .obtain⟨j,r,rfl⟩:=T5.1 l;simp at r ⊢;exact eA h (by omega) (by omega)
theorem iN(T:Tb)(a:V8)(v:Nat):(gJ T a v).length=Wn T+1:=by
 have:=lW T a;simp[gJ];omega
variable {p:V8 × Nat}
theorem kT: p∈gJ T a v↔p=(a,v)\/p∈T:=by
 have e:=Un (dv T a) T;constructor
 .intro h;rcases TB.1 h with h|h
  .exact Wi (Vx h)
  .rcases TO.1 h with h|h
   .exact Wh h
   .exact Wi (UR h)
 .intro h;rcases h with h|h
  .exact TB.2 (Wi (TO.2 (Wh h)))
  .rw[<-e] at h;rcases TB.1 h with h|h
   .exact TB.2 (Wh h)
   .exact TB.2 (Wi (TO.2 (Wi h)))
def jy(T:Tb)(a:V8):Option Nat:=if dD T a=We then (T[dv T a]?).map (·.2) else U
theorem ma(h:dD T a=Wg): jy T a=U:=by unfold jy;rw[h];rfl
theorem gu(j:dj T)(h:dD T a=We): ∃e:dv T a<Wn T,(T[dv T a]).1=a/\jy T a=S (T[dv T a]).2:=by
 obtain⟨e,l⟩:=(iV j a).1 h;refine⟨e,l,?_⟩;unfold jy;rw[Tg h,Tw e];rfl
theorem fR(m:dj T): jy T a=S v↔(a,v)∈T:=by
 constructor
 .intro h;cases r:dD T a with
  |false=>rw[ma r] at h;cases h
  |true =>
   obtain⟨A,z,l⟩:=gu m r;rw[h] at l;have l:v=(T[dv T a]).2:=TG l;have:(a,v)=T[dv T a]:=by rw[l];exact Prod.ext z.symm O
   rw[this];exact Uc _
 .intro h;have r:dD T a=We:=iP.2 ⟨v,h⟩;obtain⟨A,z,l⟩:=gu m r;rw[l];obtain⟨j,u,y⟩:=T5.1 h;have B:dv T a=j:=jM (by omega) (λi hi e=>by have:=eA m e u;rw[y] at this;exact this) (λi hi e=>by have:=fg m e hi;rw[y] at this;exact this);have:T[dv T a]=T[j]:=by congr 1
  rw[this,y]
def jZ(T:Tb)(a:V8)(v:Nat):Tb:=if dD T a=We then T.set (dv T a) (a,v) else gJ T a v
def gN(T:Tb)(a:V8):Tb:=if dD T a=We then T.eraseIdx (dv T a) else T
theorem im(h:dj T)(a:V8): dj (gN T a):=by
 unfold gN;split
 .exact h.sublist (List.eraseIdx_sublist _ _)
 .exact h
theorem BH(h:p∈gN T a): p∈T:=by
 unfold gN at h;split at h
 .exact List.mem_of_mem_eraseIdx h
 .exact h
theorem vG(h:p∈jZ T a v): p=(a,v)\/p∈T:=by
 unfold jZ at h;split at h
 .rcases List.mem_or_eq_of_mem_set h with h|h
  .exact Wi h
  .exact Wh h
 .exact kT.1 h
theorem Am(T:Tb)(a:V8)(v:Nat):(jZ T a v).length<=Wn T+1:=by
 unfold jZ;split
 .rw[U0];omega
 .rw[iN];omega
theorem vS(T:Tb)(a:V8):(gN T a).length<=Wn T:=by
 unfold gN;split
 .rw[List.length_eraseIdx];split <;> omega
 .omega
theorem jg(h:dj T)(a:V8)(v:Nat): dj (jZ T a v):=by
 unfold jZ;cases hh:dD T a with
 |false=>exact iw h hh
 |true =>
  rw[Tg rfl];obtain⟨y,u,_⟩:=gu h hh;apply VY.2;intro i j hi l r;rw[U0] at hi l;have m:=eA h r l;rw[List.getElem_set,List.getElem_set];split
  .rename_i e;subst e;split
   .omega
   .rw[u] at m;exact m
  .split
   .rename_i e;subst e;rw[u] at m;exact m
   .exact m
end Sd
namespace Rd
open Go Sd
structure Fl where
 bytes:V8
 safe:Nat
structure Ch where
 goes:V8
 comes:V8
 file:Nat
structure Rk where
 files:List Fl
 safe:Tb
 dX:List Ch
 cZ:Int
 left:Int
 down:Bool
def e0:V8:=⟨#[]⟩
def wo(L:Tb)(a:V8):Tb:=L.filter λp=>!decide (p.1=a)
def ap(L:Tb)(c:Ch):Tb:=if c.comes=e0 then wo (wo L c.goes) c.comes else wo (wo L c.goes) c.comes++[(c.comes,c.file)]
def Rk.dir(R:Rk)(n:Nat):Tb:=(R.dX.take n).foldl ap (wo R.safe e0)
def Rk.now(R:Rk):Tb:=R.dir (Wn R.dX)
def dx(L:Tb)(a:V8):Option Nat:=(L.find? λp=>decide (p.1=a)).map (·.2)
def keyed(L:Tb):Prop:=L.Pairwise λp q=>¬p.1=q.1
def tab:Tb->Tb
 |[]=>[]
 |p::L=>jZ (tab L) p.1 p.2
theorem ek:∀L,dj (tab L)
 |[]=>List.Pairwise.nil
 |p::L=>jg (ek L) p.1 p.2
variable {T:Tb}{a:V8}{u v:Nat}
theorem KO(b:dj T)(h1:(a,u)∈T)(h2:(a,v)∈T): u=v:=TG (((fR b).2 h1).symm.trans ((fR b).2 h2))
theorem zC(j:dj T){y:V8}: (y,u)∈jZ T a v↔(y=a/\u=v)\/(¬y=a/\(y,u)∈T):=by
 have b:(a,v)∈jZ T a v:=by
  unfold jZ;cases hh:dD T a with
  |false=>exact kT.2 (Wh rfl)
  |true =>
   rw[Tg rfl];obtain⟨l,_⟩:=gu j hh;exact T5.2 ⟨dv T a,by simpa using l,by simp⟩
 constructor
 .intro h;by_cases e:y=a
  .subst e;exact Wh ⟨O,KO (jg j _ _) h b⟩
  .rcases vG h with h|h
   .injection h with z B;exact absurd z e
   .exact Wi ⟨e,h⟩
 .rintro(⟨rfl,rfl⟩|⟨e,h⟩)
  .exact b
  .unfold jZ;cases hh:dD T a with
   |false=>exact kT.2 (Wi h)
   |true =>
    rw[Tg rfl];obtain⟨l,m,_⟩:=gu j hh;obtain⟨i,hi,r⟩:=T5.1 h;refine T5.2 ⟨i,by simpa using hi,?_⟩;rw[List.getElem_set,Tf,r];intro A;subst A;rw[r] at m;exact e m
theorem yC(l:dj T){y:V8}: (y,u)∈gN T a↔¬y=a/\(y,u)∈T:=by
 unfold gN;cases hh:dD T a with
 |false =>
  rw[Tf (by decide)];refine⟨λh=>⟨λe=>?_,h⟩,λh=>h.2⟩;subst e;have:=iP.2 ⟨u,h⟩;rw[this] at hh;cases hh
 |true =>
  rw[Tg rfl];obtain⟨r,j,_⟩:=gu l hh;rw[List.mem_eraseIdx_iff_getElem];constructor
  .rintro⟨i,hi,m,b⟩;refine⟨λe=>?_,b ▸ Uc _⟩;subst e;rcases Nat.lt_or_gt_of_ne m with hl|hl
   .have:=eA l hl r;rw[j,b,lt_irrefl] at this;cases this
   .have:=eA l hl hi;rw[j,b,lt_irrefl] at this;cases this
  .rintro⟨e,h⟩;obtain⟨i,hi,b⟩:=T5.1 h;refine⟨i,hi,λz=>?_,b⟩;subst z;rw[b] at j;exact e j
theorem yu{a b:Option Nat}(h:∀v,a=S v↔b=S v):a=b:=by
 cases a with
 |none =>
  cases b with
  |none=>rfl
  |some x=>have:=(h x).2 rfl;cases this
 |some x=>exact((h x).1 rfl).symm
theorem xN(b:dj T)(a y:V8)(v:Nat): jy (jZ T a v) y=if y=a then S v else jy T y:=by
 apply yu;intro u;rw[fR (jg b _ _),zC b];by_cases e:y=a
 .subst e;rw[Tg rfl];simp;exact eq_comm
 .rw[Tf e,fR b];simp[e]
theorem xJ(b:dj T)(a y:V8): jy (gN T a) y=if y=a then U else jy T y:=by
 apply yu;intro u;rw[fR (im b _),yC b];by_cases e:y=a
 .subst e;simp
 .rw[Tf e,fR b];simp[e]
theorem gR(p:V8 × Nat)(L:Tb)(y:V8):dx (p::L) y=if y=p.1 then S p.2 else dx L y:=by
 unfold dx;rw[List.find?_cons];by_cases e:p.1=y
 .rw[show decide (p.1=y)=We from TU e,Tg e.symm];rfl
 .rw[show decide (p.1=y)=Wg from TE e,Tf (λh=>e h.symm)]
theorem ld:∀(L:Tb) (y:V8),jy (tab L) y=dx L y
 |[],y=>rfl
 |p::L,y=>by rw[tab,xN (ek L),gR,ld L y]
theorem yA:∀(T j:Tb),dj T->dj j->(∀p,p∈T↔p∈j)->T=j
 |[],[],_,_,_=>rfl
 |[],q::u,_,_,h=>by have:=(h q).2 (TV ..);cases this
 |p::t,[],_,_,h=>by have:=(h p).1 (TV ..);cases this
 |p::t,q::u,y,z,h=>by
  obtain⟨m,A⟩:=Um.1 y;obtain⟨r,B⟩:=Um.1 z;have e:p=q:=by
   rcases TO.1 ((h p).1 (TV ..)) with e|C
   .exact e
   .rcases TO.1 ((h q).2 (TV ..)) with e|F
    .exact e.symm
    .have a:=r p C;have b:=m q F;rw[lt_asymm a] at b;cases b
  subst e
  congr 1
  refine yA t u A B λx=>⟨λl=>?_,λl=>?_⟩
  .rcases TO.1 ((h x).1 (Ug _ l)) with e|k
   .subst e;have:=m x l;rw[lt_irrefl] at this;cases this
   .exact k
  .rcases TO.1 ((h x).2 (Ug _ l)) with e|k
   .subst e;have:=r x l;rw[lt_irrefl] at this;cases this
   .exact k
theorem Nu{b:Tb}(e:dj T)(j:dj b)(h:∀y,jy T y=jy b y): T=b:=by
 refine yA T b e j λp=>?_
 obtain⟨a,v⟩:=p;rw[<-fR e,<-fR j,h]
theorem jL(a y:V8):∀L:Tb,dx (wo L a) y=if y=a then U else dx L y:=by
 intro L
 induction L with
 |nil=>simp[wo,dx]
 |cons p L j =>
  unfold wo at j ⊢;rw[U7];by_cases e:p.1=a
  .rw[Tf (by simp[e]),j,gR,e];by_cases b:y=a
   .rw[Tg b,Tg b]
   .rw[Tf b,Tf b,Tf b]
  .rw[Tg (by simp[e]),gR,gR,j];by_cases b:y=p.1
   .rw[Tg b,Tf (by rw[b];exact e),Tg b]
   .rw[Tf b,Tf b]
theorem xF(b y:V8)(i:Nat):∀L:Tb,dx L b=U->dx (L++[(b,i)]) y=if y=b then S i else dx L y:=by
 intro L
 induction L with
 |nil=>intro _;rw[Ul,gR]
 |cons p L l =>
  intro h;rw[gR] at h;by_cases e:b=p.1
  .rw[Tg e] at h;cases h
  .rw[Tf e] at h;rw[TZ,gR,gR,l h];by_cases j:y=p.1
   .rw[Tg j,Tg j,Tf (λm=>e (m.symm.trans j))]
   .rw[Tf j,Tf j]
def Qy(T:Tb)(c:Ch):Tb:=if c.comes=e0 then gN T c.goes else jZ (gN T c.goes) c.comes c.file
theorem Dm(h:dj T)(c:Ch): dj (Qy T c):=by
 unfold Qy;split
 .exact im h _
 .exact jg (im h _) _ _
variable {L:Tb}
theorem Jh(h:dx L e0=U)(c:Ch): tab (ap L c)=Qy (tab L) c:=by
 refine Nu (ek _) (Dm (ek _) c) λy=>?_
 rw[ld];unfold ap Qy;by_cases b:c.comes=e0
 .rw[Tg b,Tg b,jL,jL,xJ (ek L),ld,b];by_cases e:y=e0
  .rw[Tg e,e,h];split <;> rfl
  .rw[Tf e]
 .rw[Tf b,Tf b,xF _ _ _ _ (by rw[jL,Tg rfl]),xN (im (ek L) _),xJ (ek L),ld,jL,jL];by_cases e:y=c.comes
  .rw[Tg e,Tg e]
  .rw[Tf e,Tf e,Tf e]
theorem kX(h:keyed L)(a:V8): keyed (wo L a):=h.sublist List.filter_sublist
variable {p:V8 × Nat}
theorem iA: p∈wo L a↔p∈L/\¬p.1=a:=by unfold wo;rw[UU];simp
theorem KQ(h:keyed L)(c:Ch): keyed (ap L c):=by
 unfold ap;split
 .exact kX (kX h _) _
 .refine Vt.2 ⟨kX (kX h _) _,List.pairwise_singleton ..,λp b q e=>?_⟩;rw[TL.1 e];exact(iA.1 b).2
theorem Eb(h:∀p∈L,¬p.1=e0)(c:Ch): ∀p∈ap L c,¬p.1=e0:=by
 intro p b;unfold ap at b;split at b
 .exact(iA.1 b).2 |> λj=>by rename_i e;rw[e] at j;exact j
 .rename_i e;rcases TB.1 b with b|b
  .exact h p (iA.1 (iA.1 b).1).1
  .rw[TL.1 b];exact e
theorem kh: dx L a=U↔∀p∈L,¬p.1=a:=by
 unfold dx;rw[Option.map_eq_none_iff,List.find?_eq_none];simp
theorem yI{c:Ch}(h:p∈ap L c): p∈L\/(¬c.comes=e0/\p=(c.comes,c.file)):=by
 unfold ap at h;split at h
 .exact Wh (iA.1 (iA.1 h).1).1
 .rename_i e;rcases TB.1 h with h|h
  .exact Wh (iA.1 (iA.1 h).1).1
  .exact Wi ⟨e,TL.1 h⟩
theorem qv:∀(C:List Ch) (L:Tb),keyed L->keyed (C.foldl ap L)
 |[],_,h=>h
 |c::C,L,h=>qv C (ap L c) (KQ h c)
theorem sr:∀(C:List Ch) (L:Tb),(∀p∈L,¬p.1=e0)->∀p∈C.foldl ap L,¬p.1=e0
 |[],_,h=>h
 |c::C,L,h=>sr C (ap L c) (Eb h c)
theorem vT:∀(C:List Ch) (L:Tb) (p:V8 × Nat),p∈C.foldl ap L->p∈L\/∃c∈C,¬c.comes=e0/\p=(c.comes,c.file)
 |[],_,_,h=>Wh h
 |c::C,L,p,h=>by
  rcases vT C (ap L c) p h with h|⟨d,hd,e⟩
  .rcases yI h with h|e
   .exact Wh h
   .exact Wi ⟨c,TV ..,e⟩
  .exact Wi ⟨d,Ug _ hd,e⟩
theorem lk(h:keyed L): dx L a=S v↔(a,v)∈L:=by
 induction L with
 |nil=>simp[dx]
 |cons p L b =>
  obtain⟨j,l⟩:=Um.1 h;rw[gR,TO];by_cases e:a=p.1
  .rw[Tg e];constructor
   .intro hh;left;rw[e,<-TG hh]
   .rintro(hh|hh)
    .rw[<-hh]
    .exact absurd e.symm (j _ hh)
  .rw[Tf e,b l];constructor
   .exact Wi
   .rintro(hh|hh)
    .exact absurd (by rw[<-hh]) e
    .exact hh
theorem fy(h:keyed L): p∈tab L↔p∈L:=by
 obtain⟨a,v⟩:=p;rw[<-fR (ek L),ld,lk h]
theorem rC:∀L:Tb,keyed L->(tab L).Perm L
 |[],_=>List.Perm.nil
 |p::L,h=>by
  obtain⟨e,b⟩:=Um.1 h;have j:=rC L b;have l:dD (tab L) p.1=Wg:=by
   cases hh:dD (tab L) p.1 with
   |false=>rfl
   |true =>
    obtain⟨v,m⟩:=iP.1 hh;exact absurd O (e (p.1,v) ((fy b).1 m))
  rw[tab];unfold jZ;rw[Tf (by rw[l];decide)];unfold gJ;refine List.perm_middle.trans (List.Perm.cons _ ?_);rw[Un];exact j
theorem uj(h:keyed L): (tab L).length=Wn L:=(rC L h).length_eq
theorem lZ(h:dj T): keyed T:=h.imp λb e=>by rw[e,lt_irrefl] at b;cases b
theorem Ip(h:dj T): tab T=T:=yA _ _ (ek T) h λp=>fy (lZ h)
structure Rk.Ok (R:Rk):Prop where
 key:keyed R.safe
 some:∀p∈R.safe,¬p.1=e0
 sf:∀p∈R.safe,p.2<Wn R.files
 cf:∀c∈R.dX,c.file<Wn R.files\/c.comes=e0
 cut:∀f∈R.files,f.safe<=f.bytes.size
theorem lN(h:∀p∈L,¬p.1=e0): wo L e0=L:=VL.2 λp b=>by simp[h p b]
variable {R:Rk}
theorem Rk.Ok.eE(h:R.Ok)(n:Nat): keyed (R.dir n):=by unfold Rk.dir;exact qv _ _ (kX h.key _)
theorem Rk.Ok.kY(h:R.Ok)(n:Nat): ∀p∈R.dir n,¬p.1=e0:=by unfold Rk.dir;exact sr _ _ λp b=>(iA.1 b).2
theorem Rk.Ok.lj(h:R.Ok)(n:Nat): ∀p∈R.dir n,p.2<Wn R.files:=λp b=>by
 unfold Rk.dir at b;rcases vT _ _ p b with b|⟨c,m,j,e⟩
 .exact h.sf p (iA.1 b).1
 .rcases h.cf c (Vx m) with l|l
  .rw[e];exact l
  .exact absurd l j
theorem Rk.rP(R:Rk)(c:Ch):({ R with dX:=R.dX++[c] }:Rk).now=ap R.now c:=by
 unfold Rk.now Rk.dir;rw[Ut,Ut]
 show (R.dX++[c]).foldl ap _=_
 rw[VA];rfl
def zP(b:Nat):Bool:=(decide (97<=b)&&decide (b<=122)) || (decide (48<=b)&&decide (b<=57)) || decide (b=46)
def nj(s:V8):Bool:=decide (1<=s.size)&&decide (s.size<=12)&&s.data.toList.all λb=>zP b.toNat
theorem oG{s:V8}(h:nj s=We):¬s=e0:=λe=>by subst e;revert h;decide
def Rk.fl(R:Rk)(i:Nat):Fl:=R.files.getD i ⟨e0,0⟩
def Rk.use(R:Rk)(L:Tb):Nat:=(L.map λp=>(R.fl p.2).bytes.size).sum
theorem Jg(R:Rk){M:Tb}(h:L.Perm M): R.use L=R.use M:=(h.map _).sum_nat
def Rk.up(R:Rk):Bool := !R.down && !decide (R.left=0)
def Rk.eg(R:Rk):Rk:=if R.down=We then R else if R.left=0 then { R with down:=true } else if 0<R.left then { R with left:=R.left-1 } else R
def Rk.pV(R:Rk)(a:V8):Rk:={ R with files:=R.files++[⟨e0,0⟩],dX:=R.dX++[⟨e0,a,Wn R.files⟩] }
def Rk.oa(R:Rk)(i:Nat)(f:Fl):Rk:={ R with files:=R.files.set i f }
def Rk.create(R:Rk)(a:V8):Int × Rk:=if R.up=Wg then (9,R.eg) else if nj a=We then (0,R.eg.pV a) else (10,R.eg)
def Rk.on(R:Rk)(a:V8)(k:Rk->Nat->Int × Rk):Int × Rk:=if R.up=Wg then (9,R.eg) else match dx R.now a with
  |none=>(11,R.eg)
  |some i=>k R.eg i
def Rk.append(R:Rk)(a t:V8):Int × Rk:=R.on a λQ i=>if Q.cZ<(Q.use Q.now:Int)+t.size then (12,Q) else (0,Q.oa i ⟨(Q.fl i).bytes++t,(Q.fl i).safe⟩)
def Rk.sync(R:Rk)(a:V8):Int × Rk:=R.on a λQ i=>(0,Q.oa i ⟨(Q.fl i).bytes,(Q.fl i).bytes.size⟩)
def Rk.remove(R:Rk)(a:V8):Int × Rk:=R.on a λQ i=>(0,{ Q with dX:=Q.dX++[⟨a,e0,0⟩] })
def Rk.rename(R:Rk)(a b:V8):Int × Rk:=if R.up=We/\nj b=Wg then (10,R.eg) else R.on a λQ i=>(0,if a=b then Q else { Q with dX:=Q.dX++[⟨a,b,i⟩] })
def Rk.fc(R:Rk):Int × Rk:=if R.up=Wg then (9,R.eg) else (0,{ R.eg with safe:=R.now,dX:=[] })
theorem uu(R:Rk):R.eg.now=R.now:=by
 unfold Rk.eg;split
 .rfl
 .split
  .rfl
  .split <;> rfl
def Hs(k:Int)(m:Nat):Nat:=(min (max k 0) (m:Int)).toNat
def Ly(F:Fl)(k:Int):Fl:=⟨F.bytes.extract 0 (F.safe+Hs k (F.bytes.size-F.safe)),F.safe+Hs k (F.bytes.size-F.safe)⟩
def oZ(K:Nat->Int):Nat->List Fl->Tb->List Fl
 |_,F,[]=>F
 |i,F,p::L=>oZ K (i+1) (F.set p.2 (Ly (F.getD p.2 ⟨e0,0⟩) (K i))) L
def Rk.dW(R:Rk)(n:Int)(K:Nat->Int):Rk:={ files:=oZ K 0 R.files (tab (R.dir n.toNat)),safe:=tab (R.dir n.toNat),dX:=[],cZ:=R.cZ,left := -1,down:=false }
def Rk.arm(R:Rk)(n:Int):Rk:={ R with left:=if n<0 then -1 else n }
end Rd
theorem du{P:Program}{m:Array Oper}{o:Oper}{a:Act}{w:V5}{K:Act->V5->Prop}{Q:Exit->Act->V5->Prop}{E:Prop}(B:o.guard=U)(c:Operand)(y:Array Operand)(C:Array TypeId)(z:o.op=Op.call { callee := .value c,args:=y,argTypes:=C })(F:Nat)(G:a.eval c=.func (.func F) #[] #[])(args:Array V6)(b:y.toList.map a.eval=args.toList)(A:∀(args:Array V6) (w:V5),(callFunc F args).run P w=.ok (.enter F args) w){R:Ending->V5->Prop}(j:V7 P F args w R)(h:∀e r,R e r->match e with |.returned v=>K (a.put o.dst v) r |.panicked chain=>Q (.panic chain) a r |.outgrown=>LetsOut Q):if Region.wanted o (yielded m a.tmps)=We then Oper.wp P o a w K Q else E:=by
 have I:Region.wanted o (yielded m a.tmps)=We:=by simp[Region.wanted,B]
 have l:y.map a.eval=args:=by apply Array.ext';simpa using b
 rw[Tg I];unfold Oper.wp;have u:(execOp a.eval o).run P w=.ok (.enter F args) w:=by
  have L:=A args w;simp[execOp,z,resolve,invoke,Deferred.ofValue,G,l,L,Result.andThen]
 rw[u,Oper.upon_enter];refine j.mono ?_;intro e r M;have:=h e r M;cases e <;> exact this
namespace Dk
structure Kept (w w':V5) (ok:Nat->Prop):Prop where
 os:w'.os=w.os
 tape:w'.tape=w.tape
 output:w'.output=w.output
 size:w.heap.size<=w'.heap.size
 block:∀k,k<w.heap.size->ok k->w'.heap[k]?=w.heap[k]?
theorem Kept.refl(w:V5)(ok:Nat->Prop):Kept w w ok:=⟨O,O,O,Te _,λ_ _ _=>O⟩
variable {a:V5}{ok:Nat->Prop}
theorem Kept.trans{b c:V5}(h:Kept a b ok)(k:Kept b c ok): Kept a c ok:=⟨k.os.trans h.os,k.tape.trans h.tape,k.output.trans h.output,To h.size k.size,λi hi e=>(k.block i (TI hi h.size) e).trans (h.block i hi e)⟩
variable {w w':V5}
theorem Kept.mono{b:Nat->Prop}(h:Kept w w' ok)(e:∀k,k<w.heap.size->b k->ok k): Kept w w' b:=⟨h.os,h.tape,h.output,h.size,λi hi j=>h.block i hi (e i hi j)⟩
theorem Kept.below(h:V4 w w')(ok:Nat->Prop): Kept w w' ok:=⟨h.os,h.tape,h.output,h.size,λk b _=>h.block k b⟩
variable {B:Nat}
theorem Kept.toBelow(h:Kept w w' ok)(j:B<=w.heap.size)(e:∀k,k<B->ok k): Below B w w':=⟨h.os,h.tape,h.output,h.size,λk b=>h.block k (by omega) (e k b)⟩
theorem Kept.grown{b:Option Nat}(h:w.grownBy w' b)(j:∀k,ok k->b≠S k): Kept w w' ok:=⟨h.os,h.tape,h.output,h.size,λk l m=>h.block k l (λe=>j k m e.symm)⟩
theorem Kept.setCell(h:Kept a w ok){p:Addr}(j:¬ok p.block)(u:V6): Kept a (w.setCell p u) ok:=⟨h.os,h.tape,h.output,by simpa using h.size,λk l b=>(Tv w p u k (λe=>j (e ▸ b))).trans (h.block k l b)⟩
theorem Kept.Jv(h:Kept a w ok){p:Addr}(j:∀k,k<a.heap.size->ok k->k≠p.block)(u:V6): Kept a (w.setCell p u) ok:=⟨h.os,h.tape,h.output,by simpa using h.size,λk b e=>(Tv w p u k (j k b e)).trans (h.block k b e)⟩
theorem Kept.alloc(h:Kept a w ok)(o:Obj): Kept a (w.alloc o) ok:=⟨h.os,h.tape,h.output,by have:=h.size;simp;omega,λk b e=>(TD w o k (TI b h.size)).trans (h.block k b e)⟩
theorem Kept.drew(h:Kept a w ok): Kept a w.drew ok:=⟨h.os,h.tape,h.output,h.size,h.block⟩
theorem dy{e size n:Nat}{v:V6}{m:List V6}(h:w.ownsRow B e size v n m)(z:Kept w w' ok)(A:∀g,v.ownBlock=S g->ok g): w'.ownsRow B e size v n m:=by
 obtain⟨C,b⟩:=h;refine⟨C,?_⟩;rcases b with b|⟨g,j,l,u,F,y,r⟩
 .exact .inl b
 .refine .inr ⟨g,j,l,u,F,?_,r⟩;rw[z.block g (Ts.1 y).1 (A g (by rw[u];rfl)),y]
theorem qQ{e size n:Nat}{v:V6}{m:List V6}(h:w.ownsRow B e size v n m): w.ownsRow 0 e size v n m:=by
 obtain⟨u,b⟩:=h;refine⟨u,?_⟩;rcases b with b|⟨g,j,l,y,A,z,r⟩
 .exact .inl b
 .exact .inr ⟨g,j,l,y,Tp _,z,r⟩
end Dk
namespace Rd
open Sd (Tb)
theorem P8{a b:V8}(h:a=b):(a.toList == b.toList)=We:=by subst h;exact beq_self_eq_true _
theorem Oo{a b:V8}(h:¬a=b):(a.toList == b.toList)=Wg:=Tt.2 λe=>h (Sd.toList_inj e)
theorem qx(L:Tb)(a:V8):(wo L a).length<=Wn L:=VV _ _
end Rd
namespace Rd
open Sd (Tb)
theorem mj{w:V5}{B y e size n:Nat}{v:V6}{z:List V6}(h:w.ownsRow B e size v n z)(A:y<=B):w.ownsRow y e size v n z:=by
 obtain⟨C,b⟩:=h;refine⟨C,?_⟩;rcases b with b|⟨g,j,l,F,m,u,r⟩
 .exact .inl b
 .exact .inr ⟨g,j,l,F,To A m,u,r⟩
theorem te(L:Tb)(c:Ch):(ap L c).length<=Wn L+1:=by
 have b:=qx L c.goes;have e:=qx (wo L c.goes) c.comes;unfold ap;split
 .omega
 .simp;omega
theorem Cp:∀(C:List Ch) (L:Tb),(C.foldl ap L).length<=Wn L+Wn C
 |[],L=>Te _
 |c::C,L=>by
  have b:=Cp C (ap L c);have e:=te L c;simp only[VD,Tr];omega
theorem uv(R:Rk)(n:Nat):(R.dir n).length<=Wn R.safe+Wn R.dX:=by
 have b:=Cp (R.dX.take n) (wo R.safe e0);have e:=qx R.safe e0;have j:(R.dX.take n).length<=Wn R.dX:=by rw[Uz];omega
 unfold Rk.dir;omega
theorem BQ(R:Rk){k:Nat}(h:k<Wn R.dX):R.dir (k+1)=ap (R.dir k) R.dX[k]:=by
 unfold Rk.dir;rw[List.take_add_one,Tw h,VA]
 rfl
theorem Er(R:Rk){n:Nat}(h:Wn R.dX<=n):R.dir n=R.now:=by
 unfold Rk.now Rk.dir;rw[Ur h,Ut]
theorem QG{a:V8}(h:a=e0):a.toList.isEmpty=We:=by subst h;rw[UK];rfl
theorem RJ{a:V8}(h:¬a=e0):a.toList.isEmpty=Wg:=by
 rw[UK];cases b:a.data.toList with
 |nil=>exact absurd (Uy (Vn.1 (b.trans rfl))) h
 |cons _ _=>rfl
end Rd
namespace Rd
open Sd (Tb)
open Dk (Kept dy)
theorem Rj(R:Rk){i:Nat}(h:i<Wn R.files):R.fl i=R.files[i]:=by unfold Rk.fl;rw[Ty,Tw h];rfl
end Rd
namespace Rd
open Sd (Tb)
open Dk (Kept dy)
theorem info_rstr:(prog.info? 9).map (λi=>(i.zero,i.size,i.bytes))=S (S (.string ⟨#[]⟩),1,16):=by kernel_rfl
def Rk.fE(R:Rk):List V8:=if R.down=We then [] else (tab R.now).map (·.1)
def Rk.nB(R:Rk):Int:=if R.down=We then 9 else 0
def strs(L:List V8):List V6:=L.map Value.string
def Rk.rd(R:Rk)(a:V8):V8:=if R.down=We then e0 else match dx R.now a with
 |none=>e0
 |some i=>(R.fl i).bytes
def Rk.FP(R:Rk)(a:V8):Int:=if R.down=We then 9 else match dx R.now a with
 |none=>11
 |some i=>0
theorem M7(n:Int):(Rk.mk [] [] [] n (-1) Wg).Ok:=⟨List.Pairwise.nil,λp h=>(by cases h),λp h=>(by cases h),λp h=>(by cases h),λp h=>(by cases h)⟩
end Rd
namespace Rd
open Sd (Tb)
open Dk (Kept dy)
theorem Mn{R:Rk}(h:R.Ok)(i:Nat)(f:Fl)(r:f.safe<=f.bytes.size):(R.oa i f).Ok:=by
 obtain⟨a,b,c,d,e⟩:=h;have m:(R.oa i f).files.length=Wn R.files:=U0;refine⟨a,b,λp u=>by rw[m];exact c p u,λx j=>by rw[m];exact d x j,λx j=>?_⟩;rcases List.mem_or_eq_of_mem_set j with l|l
 .exact e x l
 .rw[l];exact r
theorem Px{R:Rk}(h:R.Ok)(c:Ch)(l:c.file<Wn R.files\/c.comes=e0):({ R with dX:=R.dX++[c] }:Rk).Ok:=by
 obtain⟨a,b,s,d,e⟩:=h;refine⟨a,b,s,λx m=>?_,e⟩;rcases TB.1 m with j|j
 .exact d x j
 .rw[TL.1 j];exact l
end Rd
namespace Rd
open Sd (Tb)
open Dk (Kept dy)
theorem jv(R:Rk):R.eg.files=R.files/\R.eg.safe=R.safe/\R.eg.dX=R.dX/\R.eg.cZ=R.cZ:=by
 unfold Rk.eg;split
 .exact⟨O,O,O,O⟩
 .split
  .exact⟨O,O,O,O⟩
  .split <;> exact⟨O,O,O,O⟩
theorem yw(R:Rk)(i:Nat):R.eg.fl i=R.fl i:=by unfold Rk.fl;rw[(jv R).1]
theorem Np(R:Rk)(L:Tb):R.eg.use L=R.use L:=by unfold Rk.use;simp only[yw]
end Rd
namespace Rd
open Sd (Tb)
open Dk (Kept dy)
theorem K7{R:Rk}(h:R.Ok):({ R with files:=R.files++[⟨e0,0⟩] }:Rk).Ok:=by
 obtain⟨a,b,s,d,e⟩:=h;have l:∀n,n<Wn R.files->n<(R.files++[Fl.mk e0 0]).length:=λn y=>by simp;omega
 refine⟨a,b,λp m=>l _ (s p m),λc r=>(d c r).imp (l _) id,λx u=>?_⟩;rcases TB.1 u with j|j
 .exact e x j
 .rw[TL.1 j];exact Tp _
theorem F1(R:Rk)(x:Fl)(i:Nat)(h:i<Wn R.files):({ R with files:=R.files++[x] }:Rk).fl i=R.fl i:=by
 unfold Rk.fl;rw[Ty,Ty,Uf h]
end Rd
namespace Rd
open Sd (Tb)
open Dk (Kept dy)
def kp(n:Nat)(K:Nat->Int)(i:Nat):Int:=if i<n then K i else 0
theorem iO(K:Nat->Int):∀(L:Tb) (i:Nat) (F:List Fl),(oZ K i F L).length=Wn F
 |[],_,_=>rfl
 |p::L,i,F=>by rw[oZ,iO K L,U0]
theorem Ih(k:Int)(m:Nat):Hs k m<=m:=by unfold Hs;omega
theorem Ls{F:Fl}(h:F.safe<=F.bytes.size)(k:Int):(Ly F k).bytes.size=(Ly F k).safe:=by
 have:=Ih k (F.bytes.size-F.safe);unfold Ly;rw[Tz]
 show min (F.safe+Hs k (F.bytes.size-F.safe)) F.bytes.size-0=F.safe+Hs k (F.bytes.size-F.safe)
 omega
theorem vo(K:Nat->Int)(m:Nat):∀(L:Tb) (i:Nat) (F:List Fl),(∀f∈F,f.bytes.size<=m/\f.safe<=f.bytes.size)->∀f∈oZ K i F L,f.bytes.size<=m
 |[],_,_,h=>λf j=>(h f j).1
 |p::L,i,F,h=>by
  refine vo K m L (i+1) _ λf j=>?_
  rcases List.mem_or_eq_of_mem_set j with l|l
  .exact h f l
  .have u:∀g:Fl,g=F.getD p.2 ⟨e0,0⟩->g.bytes.size<=m/\g.safe<=g.bytes.size:=λg r=>by
    by_cases y:p.2<Wn F
    .rw[r,Ty,Tw y];exact h _ (Uc _)
    .rw[r,Ty,VI (by omega)];exact⟨Tp _,Tp _⟩
   obtain⟨a,b⟩:=u _ rfl;have c:=Ls b (K i);have d:=Ih (K i) ((F.getD p.2 ⟨e0,0⟩).bytes.size-(F.getD p.2 ⟨e0,0⟩).safe);have e:(Ly (F.getD p.2 ⟨e0,0⟩) (K i)).safe=(F.getD p.2 ⟨e0,0⟩).safe+Hs (K i) ((F.getD p.2 ⟨e0,0⟩).bytes.size-(F.getD p.2 ⟨e0,0⟩).safe):=rfl;rw[l,c,e];omega
end Rd
namespace Sn
open Go
def lt(a b:Nat):Bool:=decide (a<b)
theorem lt_irrefl(a:Nat):lt a a=Wg:=by simp[lt]
variable {a b:Nat}
theorem lt_trans{c:Nat}(h1:lt a b=We)(h2:lt b c=We): lt a c=We:=by simp[lt] at *;omega
theorem qz(a b:Nat):lt a b=We\/a=b\/lt b a=We:=by simp[lt];omega
theorem lt_asymm(h:lt a b=We): lt b a=Wg:=by simp[lt] at *;omega
theorem sd(h:lt a b=We): ¬a=b:=by simp[lt] at *;omega
theorem oW{c:Nat}(h1:lt b a=Wg)(h2:lt b c=We): lt a c=We:=by simp[lt] at *;omega
structure Ce where
 p:Option Addr
 n:Nat
 c:Nat
 al:Int
abbrev Tb:=List (Nat × Ce)
def dv(T:Tb)(a:Nat):Nat:=(T.filter λp=>lt p.1 a).length
def dD(T:Tb)(a:Nat):Bool:=T.any λp=>decide (p.1=a)
def dj(T:Tb):Prop:=T.Pairwise λp q=>lt p.1 q.1=We
def gJ(T:Tb)(a:Nat)(v:Ce):Tb:=T.take (dv T a)++(a,v)::T.drop (dv T a)
theorem lW(T:Tb)(a:Nat):dv T a<=Wn T:=VV _ _
theorem iq(A B:Tb)(a:Nat)(j:∀p∈A,lt p.1 a=We)(l:∀p∈B,lt p.1 a=Wg):dv (A++B) a=Wn A:=by
 unfold dv;rw[UQ,VL.2 (λp e=>j p e),VM.2 (λp e=>by rw[l p e];decide)];simp
variable {T:Tb}{i:Nat}
theorem jM(hi:i<=Wn T)(h1:∀j (h:j<Wn T),j<i->lt (T[j]).1 a=We)(h2:∀j (h:j<Wn T),i<=j->lt (T[j]).1 a=Wg): dv T a=i:=by
 have e:=Un i T;rw[<-e,iq]
 .simp;omega
 .intro p l;obtain⟨j,m,rfl⟩:=T5.1 l;simp at m ⊢;exact h1 j (by omega) (by omega)
 .intro p l;obtain⟨j,m,rfl⟩:=T5.1 l;simp at m ⊢;exact h2 (i+j) (by omega) (by omega)
theorem eA(h:dj T){j:Nat}(e:i<j)(l:j<Wn T): lt (T[i]'(by omega)).1 (T[j]).1=We:=VY.1 h i j (by omega) l e
theorem fg(h:dj T){j:Nat}(e:i<=j)(l:j<Wn T): lt (T[j]).1 (T[i]'(by omega)).1=Wg:=by
 rcases VG e with m|rfl
 .exact lt_asymm (eA h m l)
 .exact lt_irrefl _
theorem kZ(h:dj T)(a:Nat): (∀j (m:j<Wn T),j<dv T a↔lt (T[j]).1 a=We):=by
 induction T with
 |nil=>intro j m;simp at m
 |cons p t A =>
  have B:dj t:=(Um.1 h).2;have z:=(Um.1 h).1;intro j m;cases l:lt p.1 a with
  |true =>
   have e:dv (p::t) a=dv t a+1:=by unfold dv;rw[U7,Tg l];rfl
   rw[e];cases j with
   |zero=>simp[l]
   |succ j=>simpa using A B j (by simpa using m)
  |false =>
   have e:dv (p::t) a=0:=by
    have:=iq [] (p::t) a (by simp) (by
     intro q u;rcases TO.1 u with rfl|u
     .exact l
     .cases y:lt q.1 a with
      |false=>rfl
      |true=>have:=lt_trans (z q u) y;rw[this] at l;cases l)
    simpa using this
   rw[e];constructor
   .intro r;omega
   .intro r;exfalso;cases j with
    |zero=>simp at r;rw[r] at l;cases l
    |succ j=>have C:=z (t[j]'(by simpa using m)) (Uc _);simp at r;have:=lt_trans C r;rw[this] at l;cases l
theorem iP: dD T a=We↔∃v,(a,v)∈T:=by
 unfold dD;rw[UL];constructor
 .rintro⟨p,e,j⟩;have:p.1=a:=by simpa using j
  exact⟨p.2,by rw[<-this];exact e⟩
 .rintro⟨v,l⟩;exact⟨(a,v),l,by simp⟩
theorem iV(h:dj T)(a:Nat): dD T a=We↔∃m:dv T a<Wn T,(T[dv T a]).1=a:=by
 constructor
 .intro u;obtain⟨p,y,e⟩:=UL.1 u;obtain⟨j,m,rfl⟩:=T5.1 y;have e:(T[j]).1=a:=by simpa using e
  have r:dv T a=j:=jM (by omega) (λi hi l=>by have:=eA h l m;rw[e] at this;exact this) (λi hi l=>by have:=fg h l hi;rw[e] at this;exact this);rw[r];exact⟨m,e⟩
 .rintro⟨m,e⟩;exact UL.2 ⟨T[dv T a],Uc _,by simpa using e⟩
theorem iw(h:dj T){v:Ce}(y:dD T a=Wg): dj (gJ T a v):=by
 have z:=kZ h a;unfold gJ dj;rw[Vt];refine⟨h.sublist (List.take_sublist _ _),Um.2 ⟨?_,h.sublist (List.drop_sublist _ _)⟩,?_⟩
 .intro q l;obtain⟨j,r,rfl⟩:=T5.1 l;simp at r ⊢;have u:=not_congr (z (dv T a+j) (by omega));have A:¬(T[dv T a+j]).1=a:=by
   intro e;have:dD T a=We:=UL.2 ⟨T[dv T a+j],Uc _,by simpa using e⟩;rw[this] at y;cases y
  have B:=u.1 (by omega);rcases qz (T[dv T a+j]).1 a with g|g|g
  .exact absurd g B
  .exact absurd g A
  .exact g
 .intro p C q l;obtain⟨i,hi,rfl⟩:=T5.1 C;have m:i<dv T a/\i<Wn T:=by rw[Uz] at hi;omega
  have u:=(z i m.2).1 m.1;rcases TO.1 l with rfl|l
  .simpa using u
  .obtain⟨j,r,rfl⟩:=T5.1 l;simp at r ⊢;exact eA h (by omega) (by omega)
theorem iN(T:Tb)(a:Nat)(v:Ce):(gJ T a v).length=Wn T+1:=by
 have:=lW T a;simp[gJ];omega
theorem kT{v:Ce}{p:Nat × Ce}: p∈gJ T a v↔p=(a,v)\/p∈T:=by
 have e:=Un (dv T a) T;constructor
 .intro h;rcases TB.1 h with h|h
  .exact Wi (Vx h)
  .rcases TO.1 h with h|h
   .exact Wh h
   .exact Wi (UR h)
 .intro h;rcases h with h|h
  .exact TB.2 (Wi (TO.2 (Wh h)))
  .rw[<-e] at h;rcases TB.1 h with h|h
   .exact TB.2 (Wh h)
   .exact TB.2 (Wi (TO.2 (Wi h)))
def jy(T:Tb)(a:Nat):Option Ce:=if dD T a=We then (T[dv T a]?).map (·.2) else U
theorem gu(j:dj T)(h:dD T a=We): ∃e:dv T a<Wn T,(T[dv T a]).1=a/\jy T a=S (T[dv T a]).2:=by
 obtain⟨e,l⟩:=(iV j a).1 h;refine⟨e,l,?_⟩;unfold jy;rw[Tg h,Tw e];rfl
def gN(T:Tb)(a:Nat):Tb:=if dD T a=We then T.eraseIdx (dv T a) else T
end Sn
end Go.Proofs.YtgkkdpegcieakaaGreatDoor
