import Derived.Test.YtgkkdpegcieakaaGreatDoorCw01
set_option linter.all false
set_option maxRecDepth 100000
set_option maxHeartbeats 16000000
namespace Go.Proofs.YtgkkdpegcieakaaGreatDoor
open Go.Proofs.Tryz
open Value renaming int→Z
open Option renaming none→U,some→S
open Bool renaming true→W8,false→W9
open Or renaming inl→Xa,inr→Xb
open List renaming length→Xg
open IntKind renaming i64→Y
open Go renaming World→WR,Value→WS,Calls→WT
open Go.RowKit
namespace Sd
open Go
theorem xW:∀l:List UInt8,Op.bytesLess l l=W9
 |[]=>rfl
 |a::l=>by simp[Op.bytesLess,xW l]
theorem Cj:∀a b c:List UInt8,Op.bytesLess a b=W8->Op.bytesLess b c=W8->Op.bytesLess a c=W8
 |_,[],_,h,_=>by cases ‹List UInt8› <;> simp[Op.bytesLess] at h
 |_,_::_,[],_,h=>by simp[Op.bytesLess] at h
 |[],_::_,_::_,_,_=>rfl
 |a::x,b::y,c::z,j,e=>by
  simp only[Op.bytesLess,Bool.or_eq_true,V6,decide_eq_true_iff,Vi] at j e ⊢;rcases j with j|⟨rfl,j⟩
  .rcases e with e|⟨rfl,e⟩
   .exact Xa (UInt8.lt_trans j e)
   .exact Xa j
  .rcases e with e|⟨rfl,e⟩
   .exact Xa e
   .exact Xb ⟨O,Cj x y z j e⟩
theorem IW:∀a b:List UInt8,Op.bytesLess a b=W8\/a=b\/Op.bytesLess b a=W8
 |[],[]=>Xb (Xa rfl)
 |[],_::_=>Xa rfl
 |_::_,[]=>Xb (Xb rfl)
 |a::x,b::y=>by
  simp only[Op.bytesLess,Bool.or_eq_true,V6,decide_eq_true_iff,Vi,Wb];rcases Nat.lt_trichotomy a.toNat b.toNat with h|h|h
  .exact Xa (Xa h)
  .have e:a=b:=UInt8.toNat_inj.1 h;subst e;rcases IW x y with g|g|g
   .exact Xa (Xb ⟨O,g⟩)
   .exact Xb (Xa ⟨O,g⟩)
   .exact Xb (Xb (Xb ⟨O,g⟩))
  .exact Xb (Xb (Xa h))
def lt(a b:WU):Bool:=Op.bytesLess a.toList b.toList
theorem lt_irrefl(a:WU):lt a a=W9:=xW _
variable {b a:WU}
theorem lt_trans{c:WU}(h1:lt a b=W8)(h2:lt b c=W8): lt a c=W8:=Cj _ _ _ h1 h2
theorem toList_inj(h:a.toList=b.toList): a=b:=by
 rw[Vt,Vt] at h;exact Vh (VV.1 h)
theorem qt(a b:WU):lt a b=W8\/a=b\/lt b a=W8:=by
 rcases IW a.toList b.toList with h|h|h
 .exact Xa h
 .exact Xb (Xa (toList_inj h))
 .exact Xb (Xb h)
theorem lt_asymm(h:lt a b=W8): lt b a=W9:=by
 cases hb:lt b a with
 |false=>rfl
 |true=>have:=lt_trans h hb;rw[lt_irrefl] at this;cases this
theorem qW(h:lt a b=W8): ¬a=b:=λe=>by subst e;rw[lt_irrefl] at h;cases h
theorem Ry(h:lt a b=W9): b=a\/lt b a=W8:=by
 rcases qt a b with g|g|g
 .rw[g] at h;cases h
 .exact Xa g.symm
 .exact Xb g
theorem oY{c:WU}(h1:lt b a=W9)(h2:lt b c=W8): lt a c=W8:=by
 rcases Ry h1 with e|g
 .subst e;exact h2
 .exact lt_trans g h2
abbrev Tb:=List (WU × Nat)
def dw(T:Tb)(a:WU):Nat:=(T.filter λp=>lt p.1 a).length
def dF(T:Tb)(a:WU):Bool:=T.any λp=>decide (p.1=a)
def di(T:Tb):Prop:=T.Pairwise λp q=>lt p.1 q.1=W8
def gJ(T:Tb)(a:WU)(v:Nat):Tb:=T.take (dw T a)++(a,v)::T.drop (dw T a)
theorem lT(T:Tb)(a:WU):dw T a<=Xg T:=WH _ _
theorem iw(A B:Tb)(a:WU)(j:∀p∈A,lt p.1 a=W8)(l:∀p∈B,lt p.1 a=W9):dw (A++B) a=Xg A:=by
 unfold dw;rw[VB,Wv.2 (λp e=>j p e),Ww.2 (λp e=>by rw[l p e];decide)];simp
variable {T:Tb}{i:Nat}
theorem jO(hi:i<=Xg T)(h1:∀j (h:j<Xg T),j<i->lt (T[j]).1 a=W8)(h2:∀j (h:j<Xg T),i<=j->lt (T[j]).1 a=W9): dw T a=i:=by
 have e:=U7 i T;rw[<-e,iw]
 .simp;omega
 .intro p l;obtain⟨j,m,rfl⟩:=UP.1 l;simp at m ⊢;exact h1 j (by omega) (by omega)
 .intro p l;obtain⟨j,m,rfl⟩:=UP.1 l;simp at m ⊢;exact h2 (i+j) (by omega) (by omega)
theorem eu(h:di T){j:Nat}(e:i<j)(l:j<Xg T): lt (T[i]'(by omega)).1 (T[j]).1=W8:=WK.1 h i j (by omega) l e
theorem fe(h:di T){j:Nat}(e:i<=j)(l:j<Xg T): lt (T[j]).1 (T[i]'(by omega)).1=W9:=by
 rcases Wp e with m|rfl
 .exact lt_asymm (eu h m l)
 .exact lt_irrefl _
theorem lq(h:di T)(a:WU): (∀j (m:j<Xg T),j<dw T a↔lt (T[j]).1 a=W8):=by
 induction T with
 |nil=>intro j m;simp at m
 |cons p t A =>
  have B:di t:=(U6.1 h).2;have z:=(U6.1 h).1;intro j m;cases l:lt p.1 a with
  |true =>
   have e:dw (p::t) a=dw t a+1:=by unfold dw;rw[VO,T0 l];rfl
   rw[e];cases j with
   |zero=>simp[l]
   |succ j=>simpa using A B j (by simpa using m)
  |false =>
   have e:dw (p::t) a=0:=by
    have:=iw [] (p::t) a (by simp) (by
     intro q u;rcases UC.1 u with rfl|u
     .exact l
     .cases y:lt q.1 a with
      |false=>rfl
      |true=>have:=lt_trans (z q u) y;rw[this] at l;cases l)
    simpa using this
   rw[e];constructor
   .intro r;omega
   .intro r;exfalso;cases j with
    |zero=>simp at r;rw[r] at l;cases l
    |succ j=>have C:=z (t[j]'(by simpa using m)) (UU _);simp at r;have:=lt_trans C r;rw[this] at l;cases l
theorem iM: dF T a=W8↔∃v,(a,v)∈T:=by
 unfold dF;rw[Vu];constructor
 .rintro⟨p,e,j⟩;have:p.1=a:=by simpa using j
  exact⟨p.2,by rw[<-this];exact e⟩
 .rintro⟨v,l⟩;exact⟨(a,v),l,by simp⟩
theorem iR(h:di T)(a:WU): dF T a=W8↔∃m:dw T a<Xg T,(T[dw T a]).1=a:=by
 constructor
 .intro u;obtain⟨p,y,e⟩:=Vu.1 u;obtain⟨j,m,rfl⟩:=UP.1 y;have e:(T[j]).1=a:=by simpa using e
  have r:dw T a=j:=jO (by omega) (λi hi l=>by have:=eu h l m;rw[e] at this;exact this) (λi hi l=>by have:=fe h l hi;rw[e] at this;exact this);rw[r];exact⟨m,e⟩
 .rintro⟨m,e⟩;exact Vu.2 ⟨T[dw T a],UU _,by simpa using e⟩
variable {v:Nat}
theorem iq(h:di T)(y:dF T a=W9): di (gJ T a v):=by
 have z:=lq h a;unfold gJ di;rw[Wc];refine⟨h.sublist (List.take_sublist _ _),U6.2 ⟨?_,h.sublist (List.drop_sublist _ _)⟩,?_⟩
 .intro q l;obtain⟨j,r,rfl⟩:=UP.1 l;simp at r ⊢;have u:=not_congr (z (dw T a+j) (by omega));have A:¬(T[dw T a+j]).1=a:=by
   intro e;have:dF T a=W8:=Vu.2 ⟨T[dw T a+j],UU _,by simpa using e⟩;rw[this] at y;cases y
  have B:=u.1 (by omega);rcases qt (T[dw T a+j]).1 a with g|g|g
  .exact absurd g B
  .exact absurd g A
  .exact g
 .intro p C q l;obtain⟨i,hi,rfl⟩:=UP.1 C;have m:i<dw T a/\i<Xg T:=by rw[Vj] at hi;omega
  have u:=(z i m.2).1 m.1;rcases UC.1 l with rfl|l
  .simpa using u
  .obtain⟨j,r,rfl⟩:=UP.1 l;simp at r ⊢;exact eu h (by omega) (by omega)
theorem iP(T:Tb)(a:WU)(v:Nat):(gJ T a v).length=Xg T+1:=by
 have:=lT T a;simp[gJ];omega
variable {p:WU × Nat}
theorem kT: p∈gJ T a v↔p=(a,v)\/p∈T:=by
 have e:=U7 (dw T a) T;constructor
 .intro h;rcases Uq.1 h with h|h
  .exact Xb (Wg h)
  .rcases UC.1 h with h|h
   .exact Xa h
   .exact Xb (VC h)
 .intro h;rcases h with h|h
  .exact Uq.2 (Xb (UC.2 (Xa h)))
  .rw[<-e] at h;rcases Uq.1 h with h|h
   .exact Uq.2 (Xa h)
   .exact Uq.2 (Xb (UC.2 (Xb h)))
def jy(T:Tb)(a:WU):Option Nat:=if dF T a=W8 then (T[dw T a]?).map (·.2) else U
theorem mf(h:dF T a=W9): jy T a=U:=by unfold jy;rw[h];rfl
theorem gn(j:di T)(h:dF T a=W8): ∃e:dw T a<Xg T,(T[dw T a]).1=a/\jy T a=S (T[dw T a]).2:=by
 obtain⟨e,l⟩:=(iR j a).1 h;refine⟨e,l,?_⟩;unfold jy;rw[T0 h,Uk e];rfl
theorem fO(m:di T): jy T a=S v↔(a,v)∈T:=by
 constructor
 .intro h;cases r:dF T a with
  |false=>rw[mf r] at h;cases h
  |true =>
   obtain⟨A,z,l⟩:=gn m r;rw[h] at l;have l:v=(T[dw T a]).2:=Ut l;have:(a,v)=T[dw T a]:=by rw[l];exact Prod.ext z.symm O
   rw[this];exact UU _
 .intro h;have r:dF T a=W8:=iM.2 ⟨v,h⟩;obtain⟨A,z,l⟩:=gn m r;rw[l];obtain⟨j,u,y⟩:=UP.1 h;have B:dw T a=j:=jO (by omega) (λi hi e=>by have:=eu m e u;rw[y] at this;exact this) (λi hi e=>by have:=fe m e hi;rw[y] at this;exact this);have:T[dw T a]=T[j]:=by congr 1
  rw[this,y]
def jZ(T:Tb)(a:WU)(v:Nat):Tb:=if dF T a=W8 then T.set (dw T a) (a,v) else gJ T a v
def gM(T:Tb)(a:WU):Tb:=if dF T a=W8 then T.eraseIdx (dw T a) else T
theorem iy(h:di T)(a:WU): di (gM T a):=by
 unfold gM;split
 .exact h.sublist (List.eraseIdx_sublist _ _)
 .exact h
theorem Cv(h:p∈gM T a): p∈T:=by
 unfold gM at h;split at h
 .exact List.mem_of_mem_eraseIdx h
 .exact h
theorem vk(h:p∈jZ T a v): p=(a,v)\/p∈T:=by
 unfold jZ at h;split at h
 .rcases List.mem_or_eq_of_mem_set h with h|h
  .exact Xb h
  .exact Xa h
 .exact kT.1 h
theorem AQ(T:Tb)(a:WU)(v:Nat):(jZ T a v).length<=Xg T+1:=by
 unfold jZ;split
 .rw[VR];omega
 .rw[iP];omega
theorem wh(T:Tb)(a:WU):(gM T a).length<=Xg T:=by
 unfold gM;split
 .rw[List.length_eraseIdx];split <;> omega
 .omega
theorem jv(h:di T)(a:WU)(v:Nat): di (jZ T a v):=by
 unfold jZ;cases hh:dF T a with
 |false=>exact iq h hh
 |true =>
  rw[T0 rfl];obtain⟨y,u,_⟩:=gn h hh;apply WK.2;intro i j hi l r;rw[VR] at hi l;have m:=eu h r l;rw[List.getElem_set,List.getElem_set];split
  .rename_i e;subst e;split
   .omega
   .rw[u] at m;exact m
  .split
   .rename_i e;subst e;rw[u] at m;exact m
   .exact m
end Sd
namespace Rd
open Go Sd
structure Fl where
 bytes:WU
 safe:Nat
structure Ch where
 goes:WU
 comes:WU
 file:Nat
structure Rk where
 files:List Fl
 safe:Tb
 dW:List Ch
 cY:Int
 left:Int
 down:Bool
def e0:WU:=⟨#[]⟩
def wo(L:Tb)(a:WU):Tb:=L.filter λp=>!decide (p.1=a)
def ap(L:Tb)(c:Ch):Tb:=if c.comes=e0 then wo (wo L c.goes) c.comes else wo (wo L c.goes) c.comes++[(c.comes,c.file)]
def Rk.dir(R:Rk)(n:Nat):Tb:=(R.dW.take n).foldl ap (wo R.safe e0)
def Rk.now(R:Rk):Tb:=R.dir (Xg R.dW)
def dy(L:Tb)(a:WU):Option Nat:=(L.find? λp=>decide (p.1=a)).map (·.2)
def keyed(L:Tb):Prop:=L.Pairwise λp q=>¬p.1=q.1
def tab:Tb->Tb
 |[]=>[]
 |p::L=>jZ (tab L) p.1 p.2
theorem eG:∀L,di (tab L)
 |[]=>List.Pairwise.nil
 |p::L=>jv (eG L) p.1 p.2
variable {T:Tb}{u v:Nat}{a:WU}
theorem KV(b:di T)(h1:(a,u)∈T)(h2:(a,v)∈T): u=v:=Ut (((fO b).2 h1).symm.trans ((fO b).2 h2))
theorem yO(j:di T){y:WU}: (y,u)∈jZ T a v↔(y=a/\u=v)\/(¬y=a/\(y,u)∈T):=by
 have b:(a,v)∈jZ T a v:=by
  unfold jZ;cases hh:dF T a with
  |false=>exact kT.2 (Xa rfl)
  |true =>
   rw[T0 rfl];obtain⟨l,_⟩:=gn j hh;exact UP.2 ⟨dw T a,by simpa using l,by simp⟩
 constructor
 .intro h;by_cases e:y=a
  .subst e;exact Xa ⟨O,KV (jv j _ _) h b⟩
  .rcases vk h with h|h
   .injection h with z B;exact absurd z e
   .exact Xb ⟨e,h⟩
 .rintro(⟨rfl,rfl⟩|⟨e,h⟩)
  .exact b
  .unfold jZ;cases hh:dF T a with
   |false=>exact kT.2 (Xb h)
   |true =>
    rw[T0 rfl];obtain⟨l,m,_⟩:=gn j hh;obtain⟨i,hi,r⟩:=UP.1 h;refine UP.2 ⟨i,by simpa using hi,?_⟩;rw[List.getElem_set,TZ,r];intro A;subst A;rw[r] at m;exact e m
theorem zQ(l:di T){y:WU}: (y,u)∈gM T a↔¬y=a/\(y,u)∈T:=by
 unfold gM;cases hh:dF T a with
 |false =>
  rw[TZ (by decide)];refine⟨λh=>⟨λe=>?_,h⟩,λh=>h.2⟩;subst e;have:=iM.2 ⟨u,h⟩;rw[this] at hh;cases hh
 |true =>
  rw[T0 rfl];obtain⟨r,j,_⟩:=gn l hh;rw[List.mem_eraseIdx_iff_getElem];constructor
  .rintro⟨i,hi,m,b⟩;refine⟨λe=>?_,b ▸ UU _⟩;subst e;rcases Nat.lt_or_gt_of_ne m with hl|hl
   .have:=eu l hl r;rw[j,b,lt_irrefl] at this;cases this
   .have:=eu l hl hi;rw[j,b,lt_irrefl] at this;cases this
  .rintro⟨e,h⟩;obtain⟨i,hi,b⟩:=UP.1 h;refine⟨i,hi,λz=>?_,b⟩;subst z;rw[b] at j;exact e j
theorem Ff{a b:Option Nat}(h:∀v,a=S v↔b=S v):a=b:=by
 cases a with
 |none =>
  cases b with
  |none=>rfl
  |some x=>have:=(h x).2 rfl;cases this
 |some x=>exact((h x).1 rfl).symm
theorem xo(b:di T)(a y:WU)(v:Nat): jy (jZ T a v) y=if y=a then S v else jy T y:=by
 apply Ff;intro u;rw[fO (jv b _ _),yO b];by_cases e:y=a
 .subst e;rw[T0 rfl];simp;exact eq_comm
 .rw[TZ e,fO b];simp[e]
theorem xw(b:di T)(a y:WU): jy (gM T a) y=if y=a then U else jy T y:=by
 apply Ff;intro u;rw[fO (iy b _),zQ b];by_cases e:y=a
 .subst e;simp
 .rw[TZ e,fO b];simp[e]
theorem gS(p:WU × Nat)(L:Tb)(y:WU):dy (p::L) y=if y=p.1 then S p.2 else dy L y:=by
 unfold dy;rw[List.find?_cons];by_cases e:p.1=y
 .rw[show decide (p.1=y)=W8 from UH e,T0 e.symm];rfl
 .rw[show decide (p.1=y)=W9 from Uu e,TZ (λh=>e h.symm)]
theorem kQ:∀(L:Tb) (y:WU),jy (tab L) y=dy L y
 |[],y=>rfl
 |p::L,y=>by rw[tab,xo (eG L),gS,kQ L y]
theorem zc:∀(T j:Tb),di T->di j->(∀p,p∈T↔p∈j)->T=j
 |[],[],_,_,_=>rfl
 |[],q::u,_,_,h=>by have:=(h q).2 (UI ..);cases this
 |p::t,[],_,_,h=>by have:=(h p).1 (UI ..);cases this
 |p::t,q::u,y,z,h=>by
  obtain⟨m,A⟩:=U6.1 y;obtain⟨r,B⟩:=U6.1 z;have e:p=q:=by
   rcases UC.1 ((h p).1 (UI ..)) with e|C
   .exact e
   .rcases UC.1 ((h q).2 (UI ..)) with e|F
    .exact e.symm
    .have a:=r p C;have b:=m q F;rw[lt_asymm a] at b;cases b
  subst e
  congr 1
  refine zc t u A B λx=>⟨λl=>?_,λl=>?_⟩
  .rcases UC.1 ((h x).1 (UZ _ l)) with e|k
   .subst e;have:=m x l;rw[lt_irrefl] at this;cases this
   .exact k
  .rcases UC.1 ((h x).2 (UZ _ l)) with e|k
   .subst e;have:=r x l;rw[lt_irrefl] at this;cases this
   .exact k
theorem MH{b:Tb}(e:di T)(j:di b)(h:∀y,jy T y=jy b y): T=b:=by
 refine zc T b e j λp=>?_
 obtain⟨a,v⟩:=p;rw[<-fO e,<-fO j,h]
theorem jE(a y:WU):∀L:Tb,dy (wo L a) y=if y=a then U else dy L y:=by
 intro L
 induction L with
 |nil=>simp[wo,dy]
 |cons p L j =>
  unfold wo at j ⊢;rw[VO];by_cases e:p.1=a
  .rw[TZ (by simp[e]),j,gS,e];by_cases b:y=a
   .rw[T0 b,T0 b]
   .rw[TZ b,TZ b,TZ b]
  .rw[T0 (by simp[e]),gS,gS,j];by_cases b:y=p.1
   .rw[T0 b,TZ (by rw[b];exact e),T0 b]
   .rw[TZ b,TZ b]
theorem xS(b y:WU)(i:Nat):∀L:Tb,dy L b=U->dy (L++[(b,i)]) y=if y=b then S i else dy L y:=by
 intro L
 induction L with
 |nil=>intro _;rw[U2,gS]
 |cons p L l =>
  intro h;rw[gS] at h;by_cases e:b=p.1
  .rw[T0 e] at h;cases h
  .rw[TZ e] at h;rw[UM,gS,gS,l h];by_cases j:y=p.1
   .rw[T0 j,T0 j,TZ (λm=>e (m.symm.trans j))]
   .rw[TZ j,TZ j]
def Rl(T:Tb)(c:Ch):Tb:=if c.comes=e0 then gM T c.goes else jZ (gM T c.goes) c.comes c.file
theorem C8(h:di T)(c:Ch): di (Rl T c):=by
 unfold Rl;split
 .exact iy h _
 .exact jv (iy h _) _ _
variable {L:Tb}
theorem Jz(h:dy L e0=U)(c:Ch): tab (ap L c)=Rl (tab L) c:=by
 refine MH (eG _) (C8 (eG _) c) λy=>?_
 rw[kQ];unfold ap Rl;by_cases b:c.comes=e0
 .rw[T0 b,T0 b,jE,jE,xw (eG L),kQ,b];by_cases e:y=e0
  .rw[T0 e,e,h];split <;> rfl
  .rw[TZ e]
 .rw[TZ b,TZ b,xS _ _ _ _ (by rw[jE,T0 rfl]),xo (iy (eG L) _),xw (eG L),kQ,jE,jE];by_cases e:y=c.comes
  .rw[T0 e,T0 e]
  .rw[TZ e,TZ e,TZ e]
theorem kW(h:keyed L)(a:WU): keyed (wo L a):=h.sublist List.filter_sublist
variable {p:WU × Nat}
theorem iA: p∈wo L a↔p∈L/\¬p.1=a:=by unfold wo;rw[VE];simp
theorem Lq(h:keyed L)(c:Ch): keyed (ap L c):=by
 unfold ap;split
 .exact kW (kW h _) _
 .refine Wc.2 ⟨kW (kW h _) _,List.pairwise_singleton ..,λp b q e=>?_⟩;rw[Uz.1 e];exact(iA.1 b).2
theorem Fq(h:∀p∈L,¬p.1=e0)(c:Ch): ∀p∈ap L c,¬p.1=e0:=by
 intro p b;unfold ap at b;split at b
 .exact(iA.1 b).2 |> λj=>by rename_i e;rw[e] at j;exact j
 .rename_i e;rcases Uq.1 b with b|b
  .exact h p (iA.1 (iA.1 b).1).1
  .rw[Uz.1 b];exact e
theorem kH: dy L a=U↔∀p∈L,¬p.1=a:=by
 unfold dy;rw[Option.map_eq_none_iff,List.find?_eq_none];simp
theorem zy{c:Ch}(h:p∈ap L c): p∈L\/(¬c.comes=e0/\p=(c.comes,c.file)):=by
 unfold ap at h;split at h
 .exact Xa (iA.1 (iA.1 h).1).1
 .rename_i e;rcases Uq.1 h with h|h
  .exact Xa (iA.1 (iA.1 h).1).1
  .exact Xb ⟨e,Uz.1 h⟩
theorem qx:∀(C:List Ch) (L:Tb),keyed L->keyed (C.foldl ap L)
 |[],_,h=>h
 |c::C,L,h=>qx C (ap L c) (Lq h c)
theorem sA:∀(C:List Ch) (L:Tb),(∀p∈L,¬p.1=e0)->∀p∈C.foldl ap L,¬p.1=e0
 |[],_,h=>h
 |c::C,L,h=>sA C (ap L c) (Fq h c)
theorem vW:∀(C:List Ch) (L:Tb) (p:WU × Nat),p∈C.foldl ap L->p∈L\/∃c∈C,¬c.comes=e0/\p=(c.comes,c.file)
 |[],_,_,h=>Xa h
 |c::C,L,p,h=>by
  rcases vW C (ap L c) p h with h|⟨d,hd,e⟩
  .rcases zy h with h|e
   .exact Xa h
   .exact Xb ⟨c,UI ..,e⟩
  .exact Xb ⟨d,UZ _ hd,e⟩
theorem nj(h:keyed L): dy L a=S v↔(a,v)∈L:=by
 induction L with
 |nil=>simp[dy]
 |cons p L b =>
  obtain⟨j,l⟩:=U6.1 h;rw[gS,UC];by_cases e:a=p.1
  .rw[T0 e];constructor
   .intro hh;left;rw[e,<-Ut hh]
   .rintro(hh|hh)
    .rw[<-hh]
    .exact absurd e.symm (j _ hh)
  .rw[TZ e,b l];constructor
   .exact Xb
   .rintro(hh|hh)
    .exact absurd (by rw[<-hh]) e
    .exact hh
theorem gq(h:keyed L): p∈tab L↔p∈L:=by
 obtain⟨a,v⟩:=p;rw[<-fO (eG L),kQ,nj h]
theorem uM:∀L:Tb,keyed L->(tab L).Perm L
 |[],_=>List.Perm.nil
 |p::L,h=>by
  obtain⟨e,b⟩:=U6.1 h;have j:=uM L b;have l:dF (tab L) p.1=W9:=by
   cases hh:dF (tab L) p.1 with
   |false=>rfl
   |true =>
    obtain⟨v,m⟩:=iM.1 hh;exact absurd O (e (p.1,v) ((gq b).1 m))
  rw[tab];unfold jZ;rw[TZ (by rw[l];decide)];unfold gJ;refine List.perm_middle.trans (List.Perm.cons _ ?_);rw[U7];exact j
theorem uq(h:keyed L): (tab L).length=Xg L:=(uM L h).length_eq
theorem qP(h:di T): keyed T:=h.imp λb e=>by rw[e,lt_irrefl] at b;cases b
theorem L1(h:di T): tab T=T:=zc _ _ (eG T) h λp=>gq (qP h)
structure Rk.Ok (R:Rk):Prop where
 key:keyed R.safe
 some:∀p∈R.safe,¬p.1=e0
 sf:∀p∈R.safe,p.2<Xg R.files
 cf:∀c∈R.dW,c.file<Xg R.files\/c.comes=e0
 cut:∀f∈R.files,f.safe<=f.bytes.size
theorem lU(h:∀p∈L,¬p.1=e0): wo L e0=L:=Wv.2 λp b=>by simp[h p b]
variable {R:Rk}
theorem Rk.Ok.eC(h:R.Ok)(n:Nat): keyed (R.dir n):=by unfold Rk.dir;exact qx _ _ (kW h.key _)
theorem Rk.Ok.ld(h:R.Ok)(n:Nat): ∀p∈R.dir n,¬p.1=e0:=by unfold Rk.dir;exact sA _ _ λp b=>(iA.1 b).2
theorem Rk.Ok.kS(h:R.Ok)(n:Nat): ∀p∈R.dir n,p.2<Xg R.files:=λp b=>by
 unfold Rk.dir at b;rcases vW _ _ p b with b|⟨c,m,j,e⟩
 .exact h.sf p (iA.1 b).1
 .rcases h.cf c (Wg m) with l|l
  .rw[e];exact l
  .exact absurd l j
theorem Rk.rA(R:Rk)(c:Ch):({ R with dW:=R.dW++[c] }:Rk).now=ap R.now c:=by
 unfold Rk.now Rk.dir;rw[Vd,Vd]
 show (R.dW++[c]).foldl ap _=_
 rw[Wj];rfl
def yD(b:Nat):Bool:=(decide (97<=b)&&decide (b<=122)) || (decide (48<=b)&&decide (b<=57)) || decide (b=46)
def nk(s:WU):Bool:=decide (1<=s.size)&&decide (s.size<=12)&&s.data.toList.all λb=>yD b.toNat
theorem oR{s:WU}(h:nk s=W8):¬s=e0:=λe=>by subst e;revert h;decide
def Rk.fl(R:Rk)(i:Nat):Fl:=R.files.getD i ⟨e0,0⟩
def Rk.use(R:Rk)(L:Tb):Nat:=(L.map λp=>(R.fl p.2).bytes.size).sum
theorem Me(R:Rk){M:Tb}(h:L.Perm M): R.use L=R.use M:=(h.map _).sum_nat
def Rk.up(R:Rk):Bool := !R.down && !decide (R.left=0)
def Rk.dY(R:Rk):Rk:=if R.down=W8 then R else if R.left=0 then { R with down:=true } else if 0<R.left then { R with left:=R.left-1 } else R
def Rk.pN(R:Rk)(a:WU):Rk:={ R with files:=R.files++[⟨e0,0⟩],dW:=R.dW++[⟨e0,a,Xg R.files⟩] }
def Rk.n9(R:Rk)(i:Nat)(f:Fl):Rk:={ R with files:=R.files.set i f }
def Rk.create(R:Rk)(a:WU):Int × Rk:=if R.up=W9 then (9,R.dY) else if nk a=W8 then (0,R.dY.pN a) else (10,R.dY)
def Rk.on(R:Rk)(a:WU)(k:Rk->Nat->Int × Rk):Int × Rk:=if R.up=W9 then (9,R.dY) else match dy R.now a with
  |none=>(11,R.dY)
  |some i=>k R.dY i
def Rk.append(R:Rk)(a t:WU):Int × Rk:=R.on a λQ i=>if Q.cY<(Q.use Q.now:Int)+t.size then (12,Q) else (0,Q.n9 i ⟨(Q.fl i).bytes++t,(Q.fl i).safe⟩)
def Rk.sync(R:Rk)(a:WU):Int × Rk:=R.on a λQ i=>(0,Q.n9 i ⟨(Q.fl i).bytes,(Q.fl i).bytes.size⟩)
def Rk.remove(R:Rk)(a:WU):Int × Rk:=R.on a λQ i=>(0,{ Q with dW:=Q.dW++[⟨a,e0,0⟩] })
def Rk.rename(R:Rk)(a b:WU):Int × Rk:=if R.up=W8/\nk b=W9 then (10,R.dY) else R.on a λQ i=>(0,if a=b then Q else { Q with dW:=Q.dW++[⟨a,b,i⟩] })
def Rk.fa(R:Rk):Int × Rk:=if R.up=W9 then (9,R.dY) else (0,{ R.dY with safe:=R.now,dW:=[] })
theorem ux(R:Rk):R.dY.now=R.now:=by
 unfold Rk.dY;split
 .rfl
 .split
  .rfl
  .split <;> rfl
def Ow(k:Int)(m:Nat):Nat:=(min (max k 0) (m:Int)).toNat
def Rm(F:Fl)(k:Int):Fl:=⟨F.bytes.extract 0 (F.safe+Ow k (F.bytes.size-F.safe)),F.safe+Ow k (F.bytes.size-F.safe)⟩
def zF(K:Nat->Int):Nat->List Fl->Tb->List Fl
 |_,F,[]=>F
 |i,F,p::L=>zF K (i+1) (F.set p.2 (Rm (F.getD p.2 ⟨e0,0⟩) (K i))) L
def Rk.eA(R:Rk)(n:Int)(K:Nat->Int):Rk:={ files:=zF K 0 R.files (tab (R.dir n.toNat)),safe:=tab (R.dir n.toNat),dW:=[],cY:=R.cY,left := -1,down:=false }
def Rk.arm(R:Rk)(n:Int):Rk:={ R with left:=if n<0 then -1 else n }
end Rd
section
theorem du{P:Program}{m:Array Oper}{o:Oper}{a:Act}{w:WR}{K:Act->WR->Prop}{Q:Exit->Act->WR->Prop}{E:Prop}(B:o.guard=U)(c:Operand)(y:Array Operand)(C:Array TypeId)(z:o.op=Op.call { callee := .value c,args:=y,argTypes:=C })(F:Nat)(G:a.eval c=.func (.func F) #[] #[])(args:Array WS)(b:y.toList.map a.eval=args.toList)(A:∀(args:Array WS) (w:WR),(callFunc F args).run P w=.ok (.enter F args) w){R:Ending->WR->Prop}(j:WT P F args w R)(h:∀e r,R e r->match e with |.returned v=>K (a.put o.dst v) r |.panicked chain=>Q (.panic chain) a r |.outgrown=>LetsOut Q):if Region.wanted o (yielded m a.tmps)=W8 then Oper.wp P o a w K Q else E:=by
 have I:Region.wanted o (yielded m a.tmps)=W8:=by simp[Region.wanted,B]
 have l:y.map a.eval=args:=by apply Array.ext';simpa using b
 rw[T0 I];unfold Oper.wp;have u:(execOp a.eval o).run P w=.ok (.enter F args) w:=by
  have L:=A args w;simp[execOp,z,resolve,invoke,Deferred.ofValue,G,l,L,Result.andThen]
 rw[u,Oper.upon_enter];refine j.mono ?_;intro e r M;have:=h e r M;cases e <;> exact this
end
namespace Dk
structure Kept (w w':WR) (ok:Nat->Prop):Prop where
 os:w'.os=w.os
 tape:w'.tape=w.tape
 output:w'.output=w.output
 size:w.heap.size<=w'.heap.size
 block:∀k,k<w.heap.size->ok k->w'.heap[k]?=w.heap[k]?
theorem Kept.refl(w:WR)(ok:Nat->Prop):Kept w w ok:=⟨O,O,O,TY _,λ_ _ _=>O⟩
variable {a:WR}{ok:Nat->Prop}
theorem Kept.trans{b c:WR}(h:Kept a b ok)(k:Kept b c ok): Kept a c ok:=⟨k.os.trans h.os,k.tape.trans h.tape,k.output.trans h.output,Uc h.size k.size,λi hi e=>(k.block i (Ux hi h.size) e).trans (h.block i hi e)⟩
variable {w' w:WR}
theorem Kept.mono{b:Nat->Prop}(h:Kept w w' ok)(e:∀k,k<w.heap.size->b k->ok k): Kept w w' b:=⟨h.os,h.tape,h.output,h.size,λi hi j=>h.block i hi (e i hi j)⟩
theorem Kept.below(h:WQ w w')(ok:Nat->Prop): Kept w w' ok:=⟨h.os,h.tape,h.output,h.size,λk b _=>h.block k b⟩
variable {B:Nat}
theorem Kept.toBelow(h:Kept w w' ok)(j:B<=w.heap.size)(e:∀k,k<B->ok k): Below B w w':=⟨h.os,h.tape,h.output,h.size,λk b=>h.block k (by omega) (e k b)⟩
theorem Kept.grown{b:Option Nat}(h:w.grownBy w' b)(j:∀k,ok k->b≠S k): Kept w w' ok:=⟨h.os,h.tape,h.output,h.size,λk l m=>h.block k l (λe=>j k m e.symm)⟩
theorem Kept.setCell(h:Kept a w ok){p:Addr}(j:¬ok p.block)(u:WS): Kept a (w.setCell p u) ok:=⟨h.os,h.tape,h.output,by simpa using h.size,λk l b=>(Uj w p u k (λe=>j (e ▸ b))).trans (h.block k l b)⟩
theorem Kept.JB(h:Kept a w ok){p:Addr}(j:∀k,k<a.heap.size->ok k->k≠p.block)(u:WS): Kept a (w.setCell p u) ok:=⟨h.os,h.tape,h.output,by simpa using h.size,λk b e=>(Uj w p u k (j k b e)).trans (h.block k b e)⟩
theorem Kept.alloc(h:Kept a w ok)(o:Obj): Kept a (w.alloc o) ok:=⟨h.os,h.tape,h.output,by have:=h.size;simp;omega,λk b e=>(Ur w o k (Ux b h.size)).trans (h.block k b e)⟩
theorem Kept.drew(h:Kept a w ok): Kept a w.drew ok:=⟨h.os,h.tape,h.output,h.size,h.block⟩
theorem dv{e size n:Nat}{v:WS}{m:List WS}(h:w.ownsRow B e size v n m)(z:Kept w w' ok)(A:∀g,v.ownBlock=S g->ok g): w'.ownsRow B e size v n m:=by
 obtain⟨C,b⟩:=h;refine⟨C,?_⟩;rcases b with b|⟨g,j,l,u,F,y,r⟩
 .exact .inl b
 .refine .inr ⟨g,j,l,u,F,?_,r⟩;rw[z.block g (Ug.1 y).1 (A g (by rw[u];rfl)),y]
theorem rJ{e size n:Nat}{v:WS}{m:List WS}(h:w.ownsRow B e size v n m): w.ownsRow 0 e size v n m:=by
 obtain⟨u,b⟩:=h;refine⟨u,?_⟩;rcases b with b|⟨g,j,l,y,A,z,r⟩
 .exact .inl b
 .exact .inr ⟨g,j,l,y,Ud _,z,r⟩
end Dk
namespace Rd
open Sd (Tb)
theorem P7{a b:WU}(h:a=b):(a.toList == b.toList)=W8:=by subst h;exact beq_self_eq_true _
theorem QR{a b:WU}(h:¬a=b):(a.toList == b.toList)=W9:=Uh.2 λe=>h (Sd.toList_inj e)
theorem ql(L:Tb)(a:WU):(wo L a).length<=Xg L:=WH _ _
end Rd
namespace Rd
open Sd (Tb)
theorem lA{w:WR}{B y e size n:Nat}{v:WS}{z:List WS}(h:w.ownsRow B e size v n z)(A:y<=B):w.ownsRow y e size v n z:=by
 obtain⟨C,b⟩:=h;refine⟨C,?_⟩;rcases b with b|⟨g,j,l,F,m,u,r⟩
 .exact .inl b
 .exact .inr ⟨g,j,l,F,Uc A m,u,r⟩
theorem sH(L:Tb)(c:Ch):(ap L c).length<=Xg L+1:=by
 have b:=ql L c.goes;have e:=ql (wo L c.goes) c.comes;unfold ap;split
 .omega
 .simp;omega
theorem BR:∀(C:List Ch) (L:Tb),(C.foldl ap L).length<=Xg L+Xg C
 |[],L=>TY _
 |c::C,L=>by
  have b:=BR C (ap L c);have e:=sH L c;simp only[Wm,Uf];omega
theorem uk(R:Rk)(n:Nat):(R.dir n).length<=Xg R.safe+Xg R.dW:=by
 have b:=BR (R.dW.take n) (wo R.safe e0);have e:=ql R.safe e0;have j:(R.dW.take n).length<=Xg R.dW:=by rw[Vj];omega
 unfold Rk.dir;omega
theorem BO(R:Rk){k:Nat}(h:k<Xg R.dW):R.dir (k+1)=ap (R.dir k) R.dW[k]:=by
 unfold Rk.dir;rw[List.take_add_one,Uk h,Wj]
 rfl
theorem FW(R:Rk){n:Nat}(h:Xg R.dW<=n):R.dir n=R.now:=by
 unfold Rk.now Rk.dir;rw[Vc h,Vd]
theorem Sv{a:WU}(h:a=e0):a.toList.isEmpty=W8:=by subst h;rw[Vt];rfl
theorem Ss{a:WU}(h:¬a=e0):a.toList.isEmpty=W9:=by
 rw[Vt];cases b:a.data.toList with
 |nil=>exact absurd (Vh (VV.1 (b.trans rfl))) h
 |cons _ _=>rfl
end Rd
namespace Rd
open Sd (Tb)
open Dk (Kept dv)
theorem RS(R:Rk){i:Nat}(h:i<Xg R.files):R.fl i=R.files[i]:=by unfold Rk.fl;rw[Uo,Uk h];rfl
end Rd
namespace Rd
open Sd (Tb)
open Dk (Kept dv)
theorem info_rstr:(prog.info? 9).map (λi=>(i.zero,i.size,i.bytes))=S (S (.string ⟨#[]⟩),1,16):=by kernel_rfl
def Rk.fD(R:Rk):List WU:=if R.down=W8 then [] else (tab R.now).map (·.1)
def Rk.nD(R:Rk):Int:=if R.down=W8 then 9 else 0
def strs(L:List WU):List WS:=L.map Value.string
def Rk.rd(R:Rk)(a:WU):WU:=if R.down=W8 then e0 else match dy R.now a with
 |none=>e0
 |some i=>(R.fl i).bytes
def Rk.GF(R:Rk)(a:WU):Int:=if R.down=W8 then 9 else match dy R.now a with
 |none=>11
 |some i=>0
theorem Nb(n:Int):(Rk.mk [] [] [] n (-1) W9).Ok:=⟨List.Pairwise.nil,λp h=>(by cases h),λp h=>(by cases h),λp h=>(by cases h),λp h=>(by cases h)⟩
end Rd
namespace Rd
open Sd (Tb)
open Dk (Kept dv)
theorem MD{R:Rk}(h:R.Ok)(i:Nat)(f:Fl)(r:f.safe<=f.bytes.size):(R.n9 i f).Ok:=by
 obtain⟨a,b,c,d,e⟩:=h;have m:(R.n9 i f).files.length=Xg R.files:=VR;refine⟨a,b,λp u=>by rw[m];exact c p u,λx j=>by rw[m];exact d x j,λx j=>?_⟩;rcases List.mem_or_eq_of_mem_set j with l|l
 .exact e x l
 .rw[l];exact r
theorem Pw{R:Rk}(h:R.Ok)(c:Ch)(l:c.file<Xg R.files\/c.comes=e0):({ R with dW:=R.dW++[c] }:Rk).Ok:=by
 obtain⟨a,b,s,d,e⟩:=h;refine⟨a,b,s,λx m=>?_,e⟩;rcases Uq.1 m with j|j
 .exact d x j
 .rw[Uz.1 j];exact l
end Rd
namespace Rd
open Sd (Tb)
open Dk (Kept dv)
theorem jk(R:Rk):R.dY.files=R.files/\R.dY.safe=R.safe/\R.dY.dW=R.dW/\R.dY.cY=R.cY:=by
 unfold Rk.dY;split
 .exact⟨O,O,O,O⟩
 .split
  .exact⟨O,O,O,O⟩
  .split <;> exact⟨O,O,O,O⟩
theorem zp(R:Rk)(i:Nat):R.dY.fl i=R.fl i:=by unfold Rk.fl;rw[(jk R).1]
theorem MK(R:Rk)(L:Tb):R.dY.use L=R.use L:=by unfold Rk.use;simp only[zp]
end Rd
namespace Rd
open Sd (Tb)
open Dk (Kept dv)
theorem Jm{R:Rk}(h:R.Ok):({ R with files:=R.files++[⟨e0,0⟩] }:Rk).Ok:=by
 obtain⟨a,b,s,d,e⟩:=h;have l:∀n,n<Xg R.files->n<(R.files++[Fl.mk e0 0]).length:=λn y=>by simp;omega
 refine⟨a,b,λp m=>l _ (s p m),λc r=>(d c r).imp (l _) id,λx u=>?_⟩;rcases Uq.1 u with j|j
 .exact e x j
 .rw[Uz.1 j];exact Ud _
theorem GZ(R:Rk)(x:Fl)(i:Nat)(h:i<Xg R.files):({ R with files:=R.files++[x] }:Rk).fl i=R.fl i:=by
 unfold Rk.fl;rw[Uo,Uo,UY h]
end Rd
namespace Rd
open Sd (Tb)
open Dk (Kept dv)
def kp(n:Nat)(K:Nat->Int)(i:Nat):Int:=if i<n then K i else 0
theorem qV(K:Nat->Int):∀(L:Tb) (i:Nat) (F:List Fl),(zF K i F L).length=Xg F
 |[],_,_=>rfl
 |p::L,i,F=>by rw[zF,qV K L,VR]
theorem Mf(k:Int)(m:Nat):Ow k m<=m:=by unfold Ow;omega
theorem Md{F:Fl}(h:F.safe<=F.bytes.size)(k:Int):(Rm F k).bytes.size=(Rm F k).safe:=by
 have:=Mf k (F.bytes.size-F.safe);unfold Rm;rw[Un]
 show min (F.safe+Ow k (F.bytes.size-F.safe)) F.bytes.size-0=F.safe+Ow k (F.bytes.size-F.safe)
 omega
theorem wk(K:Nat->Int)(m:Nat):∀(L:Tb) (i:Nat) (F:List Fl),(∀f∈F,f.bytes.size<=m/\f.safe<=f.bytes.size)->∀f∈zF K i F L,f.bytes.size<=m
 |[],_,_,h=>λf j=>(h f j).1
 |p::L,i,F,h=>by
  refine wk K m L (i+1) _ λf j=>?_
  rcases List.mem_or_eq_of_mem_set j with l|l
  .exact h f l
  .have u:∀g:Fl,g=F.getD p.2 ⟨e0,0⟩->g.bytes.size<=m/\g.safe<=g.bytes.size:=λg r=>by
    by_cases y:p.2<Xg F
    .rw[r,Uo,Uk y];exact h _ (UU _)
    .rw[r,Uo,Wr (by omega)];exact⟨Ud _,Ud _⟩
   obtain⟨a,b⟩:=u _ rfl;have c:=Md b (K i);have d:=Mf (K i) ((F.getD p.2 ⟨e0,0⟩).bytes.size-(F.getD p.2 ⟨e0,0⟩).safe);have e:(Rm (F.getD p.2 ⟨e0,0⟩) (K i)).safe=(F.getD p.2 ⟨e0,0⟩).safe+Ow (K i) ((F.getD p.2 ⟨e0,0⟩).bytes.size-(F.getD p.2 ⟨e0,0⟩).safe):=rfl;rw[l,c,e];omega
end Rd
namespace Sn
open Go
def lt(a b:Nat):Bool:=decide (a<b)
theorem lt_irrefl(a:Nat):lt a a=W9:=by simp[lt]
variable {b a:Nat}
theorem lt_trans{c:Nat}(h1:lt a b=W8)(h2:lt b c=W8): lt a c=W8:=by simp[lt] at *;omega
theorem qt(a b:Nat):lt a b=W8\/a=b\/lt b a=W8:=by simp[lt];omega
theorem lt_asymm(h:lt a b=W8): lt b a=W9:=by simp[lt] at *;omega
theorem qW(h:lt a b=W8): ¬a=b:=by simp[lt] at *;omega
theorem oY{c:Nat}(h1:lt b a=W9)(h2:lt b c=W8): lt a c=W8:=by simp[lt] at *;omega
structure Ce where
 p:Option Addr
 n:Nat
 c:Nat
 al:Int
abbrev Tb:=List (Nat × Ce)
def dw(T:Tb)(a:Nat):Nat:=(T.filter λp=>lt p.1 a).length
def dF(T:Tb)(a:Nat):Bool:=T.any λp=>decide (p.1=a)
def di(T:Tb):Prop:=T.Pairwise λp q=>lt p.1 q.1=W8
def gJ(T:Tb)(a:Nat)(v:Ce):Tb:=T.take (dw T a)++(a,v)::T.drop (dw T a)
theorem lT(T:Tb)(a:Nat):dw T a<=Xg T:=WH _ _
theorem iw(A B:Tb)(a:Nat)(j:∀p∈A,lt p.1 a=W8)(l:∀p∈B,lt p.1 a=W9):dw (A++B) a=Xg A:=by
 unfold dw;rw[VB,Wv.2 (λp e=>j p e),Ww.2 (λp e=>by rw[l p e];decide)];simp
variable {T:Tb}{i:Nat}
theorem jO(hi:i<=Xg T)(h1:∀j (h:j<Xg T),j<i->lt (T[j]).1 a=W8)(h2:∀j (h:j<Xg T),i<=j->lt (T[j]).1 a=W9): dw T a=i:=by
 have e:=U7 i T;rw[<-e,iw]
 .simp;omega
 .intro p l;obtain⟨j,m,rfl⟩:=UP.1 l;simp at m ⊢;exact h1 j (by omega) (by omega)
 .intro p l;obtain⟨j,m,rfl⟩:=UP.1 l;simp at m ⊢;exact h2 (i+j) (by omega) (by omega)
theorem eu(h:di T){j:Nat}(e:i<j)(l:j<Xg T): lt (T[i]'(by omega)).1 (T[j]).1=W8:=WK.1 h i j (by omega) l e
theorem fe(h:di T){j:Nat}(e:i<=j)(l:j<Xg T): lt (T[j]).1 (T[i]'(by omega)).1=W9:=by
 rcases Wp e with m|rfl
 .exact lt_asymm (eu h m l)
 .exact lt_irrefl _
theorem lq(h:di T)(a:Nat): (∀j (m:j<Xg T),j<dw T a↔lt (T[j]).1 a=W8):=by
 induction T with
 |nil=>intro j m;simp at m
 |cons p t A =>
  have B:di t:=(U6.1 h).2;have z:=(U6.1 h).1;intro j m;cases l:lt p.1 a with
  |true =>
   have e:dw (p::t) a=dw t a+1:=by unfold dw;rw[VO,T0 l];rfl
   rw[e];cases j with
   |zero=>simp[l]
   |succ j=>simpa using A B j (by simpa using m)
  |false =>
   have e:dw (p::t) a=0:=by
    have:=iw [] (p::t) a (by simp) (by
     intro q u;rcases UC.1 u with rfl|u
     .exact l
     .cases y:lt q.1 a with
      |false=>rfl
      |true=>have:=lt_trans (z q u) y;rw[this] at l;cases l)
    simpa using this
   rw[e];constructor
   .intro r;omega
   .intro r;exfalso;cases j with
    |zero=>simp at r;rw[r] at l;cases l
    |succ j=>have C:=z (t[j]'(by simpa using m)) (UU _);simp at r;have:=lt_trans C r;rw[this] at l;cases l
theorem iM: dF T a=W8↔∃v,(a,v)∈T:=by
 unfold dF;rw[Vu];constructor
 .rintro⟨p,e,j⟩;have:p.1=a:=by simpa using j
  exact⟨p.2,by rw[<-this];exact e⟩
 .rintro⟨v,l⟩;exact⟨(a,v),l,by simp⟩
theorem iR(h:di T)(a:Nat): dF T a=W8↔∃m:dw T a<Xg T,(T[dw T a]).1=a:=by
 constructor
 .intro u;obtain⟨p,y,e⟩:=Vu.1 u;obtain⟨j,m,rfl⟩:=UP.1 y;have e:(T[j]).1=a:=by simpa using e
  have r:dw T a=j:=jO (by omega) (λi hi l=>by have:=eu h l m;rw[e] at this;exact this) (λi hi l=>by have:=fe h l hi;rw[e] at this;exact this);rw[r];exact⟨m,e⟩
 .rintro⟨m,e⟩;exact Vu.2 ⟨T[dw T a],UU _,by simpa using e⟩
theorem iq(h:di T){v:Ce}(y:dF T a=W9): di (gJ T a v):=by
 have z:=lq h a;unfold gJ di;rw[Wc];refine⟨h.sublist (List.take_sublist _ _),U6.2 ⟨?_,h.sublist (List.drop_sublist _ _)⟩,?_⟩
 .intro q l;obtain⟨j,r,rfl⟩:=UP.1 l;simp at r ⊢;have u:=not_congr (z (dw T a+j) (by omega));have A:¬(T[dw T a+j]).1=a:=by
   intro e;have:dF T a=W8:=Vu.2 ⟨T[dw T a+j],UU _,by simpa using e⟩;rw[this] at y;cases y
  have B:=u.1 (by omega);rcases qt (T[dw T a+j]).1 a with g|g|g
  .exact absurd g B
  .exact absurd g A
  .exact g
 .intro p C q l;obtain⟨i,hi,rfl⟩:=UP.1 C;have m:i<dw T a/\i<Xg T:=by rw[Vj] at hi;omega
  have u:=(z i m.2).1 m.1;rcases UC.1 l with rfl|l
  .simpa using u
  .obtain⟨j,r,rfl⟩:=UP.1 l;simp at r ⊢;exact eu h (by omega) (by omega)
theorem iP(T:Tb)(a:Nat)(v:Ce):(gJ T a v).length=Xg T+1:=by
 have:=lT T a;simp[gJ];omega
theorem kT{v:Ce}{p:Nat × Ce}: p∈gJ T a v↔p=(a,v)\/p∈T:=by
 have e:=U7 (dw T a) T;constructor
 .intro h;rcases Uq.1 h with h|h
  .exact Xb (Wg h)
  .rcases UC.1 h with h|h
   .exact Xa h
   .exact Xb (VC h)
 .intro h;rcases h with h|h
  .exact Uq.2 (Xb (UC.2 (Xa h)))
  .rw[<-e] at h;rcases Uq.1 h with h|h
   .exact Uq.2 (Xa h)
   .exact Uq.2 (Xb (UC.2 (Xb h)))
def jy(T:Tb)(a:Nat):Option Ce:=if dF T a=W8 then (T[dw T a]?).map (·.2) else U
theorem gn(j:di T)(h:dF T a=W8): ∃e:dw T a<Xg T,(T[dw T a]).1=a/\jy T a=S (T[dw T a]).2:=by
 obtain⟨e,l⟩:=(iR j a).1 h;refine⟨e,l,?_⟩;unfold jy;rw[T0 h,Uk e];rfl
def gM(T:Tb)(a:Nat):Tb:=if dF T a=W8 then T.eraseIdx (dw T a) else T
end Sn
end Go.Proofs.YtgkkdpegcieakaaGreatDoor
