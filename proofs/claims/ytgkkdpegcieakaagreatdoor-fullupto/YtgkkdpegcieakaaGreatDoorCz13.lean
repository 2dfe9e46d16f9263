import Derived.Test.YtgkkdpegcieakaaGreatDoorCz01
set_option linter.unusedVariables false
set_option linter.unusedSimpArgs false
set_option maxRecDepth 100000
set_option maxHeartbeats 16000000
namespace Go.Proofs.YtgkkdpegcieakaaGreatDoor
open Go.Proofs.Tryz
open Value renaming int→Z
open IntKind renaming i64→Y
open Go renaming World→TJ,Value→TK,Calls→TL
namespace Sd
open Go
theorem xg:∀l:List UInt8,Op.bytesLess l l=false
 |[]=>rfl
 |a::l=>by simp[Op.bytesLess,xg l]
theorem Ae:∀a b c:List UInt8,Op.bytesLess a b=true->Op.bytesLess b c=true->Op.bytesLess a c=true
 |_,[],_,h,_=>by cases ‹List UInt8› <;> simp[Op.bytesLess] at h
 |_,_::_,[],_,h=>by simp[Op.bytesLess] at h
 |[],_::_,_::_,_,_=>rfl
 |a::x,b::y,c::z,j,e=>by
  simp only[Op.bytesLess,Bool.or_eq_true,Ns,decide_eq_true_iff,Bs] at j e ⊢;rcases j with j|⟨rfl,j⟩
  .rcases e with e|⟨rfl,e⟩
   .exact Or.inl (UInt8.lt_trans j e)
   .exact Or.inl j
  .rcases e with e|⟨rfl,e⟩
   .exact Or.inl e
   .exact Or.inr ⟨rfl,Ae x y z j e⟩
theorem Hh:∀a b:List UInt8,Op.bytesLess a b=true\/a=b\/Op.bytesLess b a=true
 |[],[]=>Or.inr (Or.inl rfl)
 |[],_::_=>Or.inl rfl
 |_::_,[]=>Or.inr (Or.inr rfl)
 |a::x,b::y=>by
  simp only[Op.bytesLess,Bool.or_eq_true,Ns,decide_eq_true_iff,Bs,Qv];rcases Nat.lt_trichotomy a.toNat b.toNat with h|h|h
  .exact Or.inl (Or.inl h)
  .have e:a=b:=UInt8.toNat_inj.1 h;subst e;rcases Hh x y with g|g|g
   .exact Or.inl (Or.inr ⟨rfl,g⟩)
   .exact Or.inr (Or.inl ⟨rfl,g⟩)
   .exact Or.inr (Or.inr (Or.inr ⟨rfl,g⟩))
  .exact Or.inr (Or.inr (Or.inl h))
def lt(a b:TM):Bool:=Op.bytesLess a.toList b.toList
theorem lt_irrefl(a:TM):lt a a=false:=xg _
variable {a b:TM}
theorem lt_trans{c:TM}(h1:lt a b=true)(h2:lt b c=true): lt a c=true:=Ae _ _ _ h1 h2
theorem toList_inj(h:a.toList=b.toList): a=b:=by
 rw[B3,B3] at h;exact Bk (OV.1 h)
theorem qv(a b:TM):lt a b=true\/a=b\/lt b a=true:=by
 rcases Hh a.toList b.toList with h|h|h
 .exact Or.inl h
 .exact Or.inr (Or.inl (toList_inj h))
 .exact Or.inr (Or.inr h)
theorem lt_asymm(h:lt a b=true): lt b a=false:=by
 cases hb:lt b a with
 |false=>rfl
 |true=>have:=lt_trans h hb;rw[lt_irrefl] at this;cases this
theorem qL(h:lt a b=true): ¬a=b:=λe=>by subst e;rw[lt_irrefl] at h;cases h
theorem Qu(h:lt a b=false): b=a\/lt b a=true:=by
 rcases qv a b with g|g|g
 .rw[g] at h;cases h
 .exact Or.inl g.symm
 .exact Or.inr g
theorem oV{c:TM}(h1:lt b a=false)(h2:lt b c=true): lt a c=true:=by
 rcases Qu h1 with e|g
 .subst e;exact h2
 .exact lt_trans g h2
abbrev Tb:=List (TM × Nat)
def dm(T:Tb)(a:TM):Nat:=(T.filter λp=>lt p.1 a).length
def dw(T:Tb)(a:TM):Bool:=T.any λp=>decide (p.1=a)
def da(T:Tb):Prop:=T.Pairwise λp q=>lt p.1 q.1=true
def gI(T:Tb)(a:TM)(v:Nat):Tb:=T.take (dm T a)++(a,v)::T.drop (dm T a)
theorem lY(T:Tb)(a:TM):dm T a<=T.length:=Tz _ _
theorem iA(A B:Tb)(a:TM)(j:∀p∈A,lt p.1 a=true)(l:∀p∈B,lt p.1 a=false):dm (A++B) a=A.length:=by
 unfold dm;rw[Dr,List.filter_eq_self.2 (λp e=>j p e),Tp.2 (λp e=>by rw[l p e];decide)];simp
variable {i:Nat}{T:Tb}
theorem jN(hi:i<=T.length)(h1:∀j (h:j<T.length),j<i->lt (T[j]).1 a=true)(h2:∀j (h:j<T.length),i<=j->lt (T[j]).1 a=false): dm T a=i:=by
 have e:=r4 i T;rw[<-e,iA]
 .simp;omega
 .intro p l;obtain⟨j,m,rfl⟩:=oM.1 l;simp at m ⊢;exact h1 j (by omega) (by omega)
 .intro p l;obtain⟨j,m,rfl⟩:=oM.1 l;simp at m ⊢;exact h2 (i+j) (by omega) (by omega)
theorem et(h:da T){j:Nat}(e:i<j)(l:j<T.length): lt (T[i]'(by omega)).1 (T[j]).1=true:=TD.1 h i j (by omega) l e
theorem fg(h:da T){j:Nat}(e:i<=j)(l:j<T.length): lt (T[j]).1 (T[i]'(by omega)).1=false:=by
 rcases Tg e with m|rfl
 .exact lt_asymm (et h m l)
 .exact lt_irrefl _
theorem kY(h:da T)(a:TM): (∀j (m:j<T.length),j<dm T a↔lt (T[j]).1 a=true):=by
 induction T with
 |nil=>intro j m;simp at m
 |cons p t A =>
  have B:da t:=(sQ.1 h).2;have z:=(sQ.1 h).1;intro j m;cases l:lt p.1 a with
  |true =>
   have e:dm (p::t) a=dm t a+1:=by unfold dm;rw[He,cg l];rfl
   rw[e];cases j with
   |zero=>simp[l]
   |succ j=>simpa using A B j (by simpa using m)
  |false =>
   have e:dm (p::t) a=0:=by
    have:=iA [] (p::t) a (by simp) (by
     intro q u;rcases ic.1 u with rfl|u
     .exact l
     .cases y:lt q.1 a with
      |false=>rfl
      |true=>have:=lt_trans (z q u) y;rw[this] at l;cases l)
    simpa using this
   rw[e];constructor
   .intro r;omega
   .intro r;exfalso;cases j with
    |zero=>simp at r;rw[r] at l;cases l
    |succ j=>have C:=z (t[j]'(by simpa using m)) (pY _);simp at r;have:=lt_trans C r;rw[this] at l;cases l
theorem iQ: dw T a=true↔∃v,(a,v)∈T:=by
 unfold dw;rw[Ci];constructor
 .rintro⟨p,e,j⟩;have:p.1=a:=by simpa using j
  exact⟨p.2,by rw[<-this];exact e⟩
 .rintro⟨v,l⟩;exact⟨(a,v),l,by simp⟩
theorem iU(h:da T)(a:TM): dw T a=true↔∃m:dm T a<T.length,(T[dm T a]).1=a:=by
 constructor
 .intro u;obtain⟨p,y,e⟩:=Ci.1 u;obtain⟨j,m,rfl⟩:=oM.1 y;have e:(T[j]).1=a:=by simpa using e
  have r:dm T a=j:=jN (by omega) (λi hi l=>by have:=et h l m;rw[e] at this;exact this) (λi hi l=>by have:=fg h l hi;rw[e] at this;exact this);rw[r];exact⟨m,e⟩
 .rintro⟨m,e⟩;exact Ci.2 ⟨T[dm T a],pY _,by simpa using e⟩
variable {v:Nat}
theorem iq(h:da T)(y:dw T a=false): da (gI T a v):=by
 have z:=kY h a;unfold gI da;rw[QB];refine⟨h.sublist (List.take_sublist _ _),sQ.2 ⟨?_,h.sublist (List.drop_sublist _ _)⟩,?_⟩
 .intro q l;obtain⟨j,r,rfl⟩:=oM.1 l;simp at r ⊢;have u:=not_congr (z (dm T a+j) (by omega));have A:¬(T[dm T a+j]).1=a:=by
   intro e;have:dw T a=true:=Ci.2 ⟨T[dm T a+j],pY _,by simpa using e⟩;rw[this] at y;cases y
  have B:=u.1 (by omega);rcases qv (T[dm T a+j]).1 a with g|g|g
  .exact absurd g B
  .exact absurd g A
  .exact g
 .intro p C q l;obtain⟨i,hi,rfl⟩:=oM.1 C;have m:i<dm T a/\i<T.length:=by rw[A3] at hi;omega
  have u:=(z i m.2).1 m.1;rcases ic.1 l with rfl|l
  .simpa using u
  .obtain⟨j,r,rfl⟩:=oM.1 l;simp at r ⊢;exact et h (by omega) (by omega)
theorem iS(T:Tb)(a:TM)(v:Nat):(gI T a v).length=T.length+1:=by
 have:=lY T a;simp[gI];omega
variable {p:TM × Nat}
theorem kT: p∈gI T a v↔p=(a,v)\/p∈T:=by
 have e:=r4 (dm T a) T;constructor
 .intro h;rcases cJ.1 h with h|h
  .exact Or.inr (Tk h)
  .rcases ic.1 h with h|h
   .exact Or.inl h
   .exact Or.inr (Ep h)
 .intro h;rcases h with h|h
  .exact cJ.2 (Or.inr (ic.2 (Or.inl h)))
  .rw[<-e] at h;rcases cJ.1 h with h|h
   .exact cJ.2 (Or.inl h)
   .exact cJ.2 (Or.inr (ic.2 (Or.inr h)))
def jB(T:Tb)(a:TM):Option Nat:=if dw T a=true then (T[dm T a]?).map (·.2) else none
theorem me(h:dw T a=false): jB T a=none:=by unfold jB;rw[h];rfl
theorem gn(j:da T)(h:dw T a=true): ∃e:dm T a<T.length,(T[dm T a]).1=a/\jB T a=some (T[dm T a]).2:=by
 obtain⟨e,l⟩:=(iU j a).1 h;refine⟨e,l,?_⟩;unfold jB;rw[cg h,cH e];rfl
theorem fO(m:da T): jB T a=some v↔(a,v)∈T:=by
 constructor
 .intro h;cases r:dw T a with
  |false=>rw[me r] at h;cases h
  |true =>
   obtain⟨A,z,l⟩:=gn m r;rw[h] at l;have l:v=(T[dm T a]).2:=iP l;have:(a,v)=T[dm T a]:=by rw[l];exact Prod.ext z.symm rfl
   rw[this];exact pY _
 .intro h;have r:dw T a=true:=iQ.2 ⟨v,h⟩;obtain⟨A,z,l⟩:=gn m r;rw[l];obtain⟨j,u,y⟩:=oM.1 h;have B:dm T a=j:=jN (by omega) (λi hi e=>by have:=et m e u;rw[y] at this;exact this) (λi hi e=>by have:=fg m e hi;rw[y] at this;exact this);have:T[dm T a]=T[j]:=by congr 1
  rw[this,y]
def jZ(T:Tb)(a:TM)(v:Nat):Tb:=if dw T a=true then T.set (dm T a) (a,v) else gI T a v
def gM(T:Tb)(a:TM):Tb:=if dw T a=true then T.eraseIdx (dm T a) else T
theorem iy(h:da T)(a:TM): da (gM T a):=by
 unfold gM;split
 .exact h.sublist (List.eraseIdx_sublist _ _)
 .exact h
theorem At(h:p∈gM T a): p∈T:=by
 unfold gM at h;split at h
 .exact List.mem_of_mem_eraseIdx h
 .exact h
theorem uL(h:p∈jZ T a v): p=(a,v)\/p∈T:=by
 unfold jZ at h;split at h
 .rcases List.mem_or_eq_of_mem_set h with h|h
  .exact Or.inr h
  .exact Or.inl h
 .exact kT.1 h
theorem uW(T:Tb)(a:TM):(gM T a).length<=T.length:=by
 unfold gM;split
 .rw[List.length_eraseIdx];split <;> omega
 .omega
theorem jw(h:da T)(a:TM)(v:Nat): da (jZ T a v):=by
 unfold jZ;cases hh:dw T a with
 |false=>exact iq h hh
 |true =>
  rw[cg rfl];obtain⟨y,u,_⟩:=gn h hh;apply TD.2;intro i j hi l r;rw[QX] at hi l;have m:=et h r l;rw[List.getElem_set,List.getElem_set];split
  .rename_i e;subst e;split
   .omega
   .rw[u] at m;exact m
  .split
   .rename_i e;subst e;rw[u] at m;exact m
   .exact m
end Sd
namespace Rd
open Go Sd
structure Fl where
 bytes:TM
 safe:Nat
structure Ch where
 goes:TM
 comes:TM
 file:Nat
structure Rk where
 files:List Fl
 safe:Tb
 dS:List Ch
 cT:Int
 left:Int
 down:Bool
def e0:TM:=⟨#[]⟩
def wo(L:Tb)(a:TM):Tb:=L.filter λp=>!decide (p.1=a)
def ap(L:Tb)(c:Ch):Tb:=if c.comes=e0 then wo (wo L c.goes) c.comes else wo (wo L c.goes) c.comes++[(c.comes,c.file)]
def Rk.dir(R:Rk)(n:Nat):Tb:=(R.dS.take n).foldl ap (wo R.safe e0)
def Rk.now(R:Rk):Tb:=R.dir R.dS.length
def dp(L:Tb)(a:TM):Option Nat:=(L.find? λp=>decide (p.1=a)).map (·.2)
def keyed(L:Tb):Prop:=L.Pairwise λp q=>¬p.1=q.1
def tab:Tb->Tb
 |[]=>[]
 |p::L=>jZ (tab L) p.1 p.2
theorem dY:∀L,da (tab L)
 |[]=>List.Pairwise.nil
 |p::L=>jw (dY L) p.1 p.2
variable {a:TM}{v u:Nat}{T:Tb}
theorem Jo(b:da T)(h1:(a,u)∈T)(h2:(a,v)∈T): u=v:=iP (((fO b).2 h1).symm.trans ((fO b).2 h2))
theorem zu(j:da T){y:TM}: (y,u)∈jZ T a v↔(y=a/\u=v)\/(¬y=a/\(y,u)∈T):=by
 have b:(a,v)∈jZ T a v:=by
  unfold jZ;cases hh:dw T a with
  |false=>exact kT.2 (Or.inl rfl)
  |true =>
   rw[cg rfl];obtain⟨l,_⟩:=gn j hh;exact oM.2 ⟨dm T a,by simpa using l,by simp⟩
 constructor
 .intro h;by_cases e:y=a
  .subst e;exact Or.inl ⟨rfl,Jo (jw j _ _) h b⟩
  .rcases uL h with h|h
   .injection h with z B;exact absurd z e
   .exact Or.inr ⟨e,h⟩
 .rintro(⟨rfl,rfl⟩|⟨e,h⟩)
  .exact b
  .unfold jZ;cases hh:dw T a with
   |false=>exact kT.2 (Or.inr h)
   |true =>
    rw[cg rfl];obtain⟨l,m,_⟩:=gn j hh;obtain⟨i,hi,r⟩:=oM.1 h;refine oM.2 ⟨i,by simpa using hi,?_⟩;rw[List.getElem_set,cd,r];intro A;subst A;rw[r] at m;exact e m
theorem zd(l:da T){y:TM}: (y,u)∈gM T a↔¬y=a/\(y,u)∈T:=by
 unfold gM;cases hh:dw T a with
 |false =>
  rw[cd (by decide)];refine⟨λh=>⟨λe=>?_,h⟩,λh=>h.2⟩;subst e;have:=iQ.2 ⟨u,h⟩;rw[this] at hh;cases hh
 |true =>
  rw[cg rfl];obtain⟨r,j,_⟩:=gn l hh;rw[List.mem_eraseIdx_iff_getElem];constructor
  .rintro⟨i,hi,m,b⟩;refine⟨λe=>?_,b ▸ pY _⟩;subst e;rcases Nat.lt_or_gt_of_ne m with hl|hl
   .have:=et l hl r;rw[j,b,lt_irrefl] at this;cases this
   .have:=et l hl hi;rw[j,b,lt_irrefl] at this;cases this
  .rintro⟨e,h⟩;obtain⟨i,hi,b⟩:=oM.1 h;refine⟨i,hi,λz=>?_,b⟩;subst z;rw[b] at j;exact e j
theorem yJ{a b:Option Nat}(h:∀v,a=some v↔b=some v):a=b:=by
 cases a with
 |none =>
  cases b with
  |none=>rfl
  |some x=>have:=(h x).2 rfl;cases this
 |some x=>exact((h x).1 rfl).symm
theorem xy(b:da T)(a y:TM)(v:Nat): jB (jZ T a v) y=if y=a then some v else jB T y:=by
 apply yJ;intro u;rw[fO (jw b _ _),zu b];by_cases e:y=a
 .subst e;rw[cg rfl];simp;exact eq_comm
 .rw[cd e,fO b];simp[e]
theorem wT(b:da T)(a y:TM): jB (gM T a) y=if y=a then none else jB T y:=by
 apply yJ;intro u;rw[fO (iy b _),zd b];by_cases e:y=a
 .subst e;simp
 .rw[cd e,fO b];simp[e]
theorem gT(p:TM × Nat)(L:Tb)(y:TM):dp (p::L) y=if y=p.1 then some p.2 else dp L y:=by
 unfold dp;rw[List.find?_cons];by_cases e:p.1=y
 .rw[show decide (p.1=y)=true from kH e,cg e.symm];rfl
 .rw[show decide (p.1=y)=false from df e,cd (λh=>e h.symm)]
theorem lx:∀(L:Tb) (y:TM),jB (tab L) y=dp L y
 |[],y=>rfl
 |p::L,y=>by rw[tab,xy (dY L),gT,lx L y]
theorem yS:∀(T U:Tb),da T->da U->(∀p,p∈T↔p∈U)->T=U
 |[],[],_,_,_=>rfl
 |[],q::u,_,_,h=>by have:=(h q).2 (mz ..);cases this
 |p::t,[],_,_,h=>by have:=(h p).1 (mz ..);cases this
 |p::t,q::u,r,y,h=>by
  obtain⟨l,z⟩:=sQ.1 r;obtain⟨m,A⟩:=sQ.1 y;have e:p=q:=by
   rcases ic.1 ((h p).1 (mz ..)) with e|B
   .exact e
   .rcases ic.1 ((h q).2 (mz ..)) with e|C
    .exact e.symm
    .have a:=m p B;have b:=l q C;rw[lt_asymm a] at b;cases b
  subst e
  congr 1
  refine yS t u z A λx=>⟨λj=>?_,λj=>?_⟩
  .rcases ic.1 ((h x).1 (ts _ j)) with e|k
   .subst e;have:=l x j;rw[lt_irrefl] at this;cases this
   .exact k
  .rcases ic.1 ((h x).2 (ts _ j)) with e|k
   .subst e;have:=m x j;rw[lt_irrefl] at this;cases this
   .exact k
theorem K4{U:Tb}(b:da T)(e:da U)(h:∀y,jB T y=jB U y): T=U:=by
 refine yS T U b e λp=>?_
 obtain⟨a,v⟩:=p;rw[<-fO b,<-fO e,h]
theorem jC(a y:TM):∀L:Tb,dp (wo L a) y=if y=a then none else dp L y:=by
 intro L
 induction L with
 |nil=>simp[wo,dp]
 |cons p L j =>
  unfold wo at j ⊢;rw[He];by_cases e:p.1=a
  .rw[cd (by simp[e]),j,gT,e];by_cases b:y=a
   .rw[cg b,cg b]
   .rw[cd b,cd b,cd b]
  .rw[cg (by simp[e]),gT,gT,j];by_cases b:y=p.1
   .rw[cg b,cd (by rw[b];exact e),cg b]
   .rw[cd b,cd b]
theorem wV(b y:TM)(i:Nat):∀L:Tb,dp L b=none->dp (L++[(b,i)]) y=if y=b then some i else dp L y:=by
 intro L
 induction L with
 |nil=>intro _;rw[sj,gT]
 |cons p L l =>
  intro h;rw[gT] at h;by_cases e:b=p.1
  .rw[cg e] at h;cases h
  .rw[cd e] at h;rw[mf,gT,gT,l h];by_cases j:y=p.1
   .rw[cg j,cg j,cd (λm=>e (m.symm.trans j))]
   .rw[cd j,cd j]
def OZ(T:Tb)(c:Ch):Tb:=if c.comes=e0 then gM T c.goes else jZ (gM T c.goes) c.comes c.file
theorem CR(h:da T)(c:Ch): da (OZ T c):=by
 unfold OZ;split
 .exact iy h _
 .exact jw (iy h _) _ _
variable {L:Tb}
theorem Hb(h:dp L e0=none)(c:Ch): tab (ap L c)=OZ (tab L) c:=by
 refine K4 (dY _) (CR (dY _) c) λy=>?_
 rw[lx];unfold ap OZ;by_cases b:c.comes=e0
 .rw[cg b,cg b,jC,jC,wT (dY L),lx,b];by_cases e:y=e0
  .rw[cg e,e,h];split <;> rfl
  .rw[cd e]
 .rw[cd b,cd b,wV _ _ _ _ (by rw[jC,cg rfl]),xy (iy (dY L) _),wT (dY L),lx,jC,jC];by_cases e:y=c.comes
  .rw[cg e,cg e]
  .rw[cd e,cd e,cd e]
theorem lq(h:keyed L)(a:TM): keyed (wo L a):=h.sublist List.filter_sublist
variable {p:TM × Nat}
theorem im: p∈wo L a↔p∈L/\¬p.1=a:=by unfold wo;rw[FT];simp
theorem J1(h:keyed L)(c:Ch): keyed (ap L c):=by
 unfold ap;split
 .exact lq (lq h _) _
 .refine QB.2 ⟨lq (lq h _) _,List.pairwise_singleton ..,λp b q e=>?_⟩;rw[eh.1 e];exact(im.1 b).2
theorem Ew(h:∀p∈L,¬p.1=e0)(c:Ch): ∀p∈ap L c,¬p.1=e0:=by
 intro p b;unfold ap at b;split at b
 .exact(im.1 b).2 |> λj=>by rename_i e;rw[e] at j;exact j
 .rename_i e;rcases cJ.1 b with b|b
  .exact h p (im.1 (im.1 b).1).1
  .rw[eh.1 b];exact e
theorem kA: dp L a=none↔∀p∈L,¬p.1=a:=by
 unfold dp;rw[Option.map_eq_none_iff,List.find?_eq_none];simp
theorem ze{c:Ch}(h:p∈ap L c): p∈L\/(¬c.comes=e0/\p=(c.comes,c.file)):=by
 unfold ap at h;split at h
 .exact Or.inl (im.1 (im.1 h).1).1
 .rename_i e;rcases cJ.1 h with h|h
  .exact Or.inl (im.1 (im.1 h).1).1
  .exact Or.inr ⟨e,eh.1 h⟩
theorem qC:∀(C:List Ch) (L:Tb),keyed L->keyed (C.foldl ap L)
 |[],_,h=>h
 |c::C,L,h=>qC C (ap L c) (J1 h c)
theorem sk:∀(C:List Ch) (L:Tb),(∀p∈L,¬p.1=e0)->∀p∈C.foldl ap L,¬p.1=e0
 |[],_,h=>h
 |c::C,L,h=>sk C (ap L c) (Ew h c)
theorem vk:∀(C:List Ch) (L:Tb) (p:TM × Nat),p∈C.foldl ap L->p∈L\/∃c∈C,¬c.comes=e0/\p=(c.comes,c.file)
 |[],_,_,h=>Or.inl h
 |c::C,L,p,h=>by
  rcases vk C (ap L c) p h with h|⟨d,hd,e⟩
  .rcases ze h with h|e
   .exact Or.inl h
   .exact Or.inr ⟨c,mz ..,e⟩
  .exact Or.inr ⟨d,ts _ hd,e⟩
theorem lh(h:keyed L): dp L a=some v↔(a,v)∈L:=by
 induction L with
 |nil=>simp[dp]
 |cons p L b =>
  obtain⟨j,l⟩:=sQ.1 h;rw[gT,ic];by_cases e:a=p.1
  .rw[cg e];constructor
   .intro hh;left;rw[e,<-iP hh]
   .rintro(hh|hh)
    .rw[<-hh]
    .exact absurd e.symm (j _ hh)
  .rw[cd e,b l];constructor
   .exact Or.inr
   .rintro(hh|hh)
    .exact absurd (by rw[<-hh]) e
    .exact hh
theorem fx(h:keyed L): p∈tab L↔p∈L:=by
 obtain⟨a,v⟩:=p;rw[<-fO (dY L),lx,lh h]
theorem rv:∀L:Tb,keyed L->(tab L).Perm L
 |[],_=>List.Perm.nil
 |p::L,h=>by
  obtain⟨e,b⟩:=sQ.1 h;have j:=rv L b;have l:dw (tab L) p.1=false:=by
   cases hh:dw (tab L) p.1 with
   |false=>rfl
   |true =>
    obtain⟨v,m⟩:=iQ.1 hh;exact absurd rfl (e (p.1,v) ((fx b).1 m))
  rw[tab];unfold jZ;rw[cd (by rw[l];decide)];unfold gI;refine List.perm_middle.trans (List.Perm.cons _ ?_);rw[r4];exact j
theorem ur(h:keyed L): (tab L).length=L.length:=(rv L h).length_eq
structure Rk.Ok (R:Rk):Prop where
 key:keyed R.safe
 some:∀p∈R.safe,¬p.1=e0
 sf:∀p∈R.safe,p.2<R.files.length
 cf:∀c∈R.dS,c.file<R.files.length\/c.comes=e0
 cut:∀f∈R.files,f.safe<=f.bytes.size
theorem lQ(h:∀p∈L,¬p.1=e0): wo L e0=L:=List.filter_eq_self.2 λp b=>by simp[h p b]
variable {R:Rk}
theorem Rk.Ok.ez(h:R.Ok)(n:Nat): keyed (R.dir n):=by unfold Rk.dir;exact qC _ _ (lq h.key _)
theorem Rk.Ok.kR(h:R.Ok)(n:Nat): ∀p∈R.dir n,¬p.1=e0:=by unfold Rk.dir;exact sk _ _ λp b=>(im.1 b).2
theorem Rk.Ok.ly(h:R.Ok)(n:Nat): ∀p∈R.dir n,p.2<R.files.length:=λp b=>by
 unfold Rk.dir at b;rcases vk _ _ p b with b|⟨c,m,j,e⟩
 .exact h.sf p (im.1 b).1
 .rcases h.cf c (Tk m) with l|l
  .rw[e];exact l
  .exact absurd l j
theorem Rk.qQ(R:Rk)(c:Ch):({ R with dS:=R.dS++[c] }:Rk).now=ap R.now c:=by
 unfold Rk.now Rk.dir;rw[wI,wI]
 show (R.dS++[c]).foldl ap _=_
 rw[List.foldl_append];rfl
def yV(b:Nat):Bool:=(decide (97<=b)&&decide (b<=122)) || (decide (48<=b)&&decide (b<=57)) || decide (b=46)
def nH(s:TM):Bool:=decide (1<=s.size)&&decide (s.size<=12)&&s.data.toList.all λb=>yV b.toNat
theorem oD{s:TM}(h:nH s=true):¬s=e0:=λe=>by subst e;revert h;decide
def Rk.fl(R:Rk)(i:Nat):Fl:=R.files.getD i ⟨e0,0⟩
def Rk.use(R:Rk)(L:Tb):Nat:=(L.map λp=>(R.fl p.2).bytes.size).sum
theorem GS(R:Rk){M:Tb}(h:L.Perm M): R.use L=R.use M:=(h.map _).sum_nat
def Rk.up(R:Rk):Bool := !R.down && !decide (R.left=0)
def Rk.dU(R:Rk):Rk:=if R.down=true then R else if R.left=0 then { R with down:=true } else if 0<R.left then { R with left:=R.left-1 } else R
def Rk.pS(R:Rk)(a:TM):Rk:={ R with files:=R.files++[⟨e0,0⟩],dS:=R.dS++[⟨e0,a,R.files.length⟩] }
def Rk.nD(R:Rk)(i:Nat)(f:Fl):Rk:={ R with files:=R.files.set i f }
def Rk.create(R:Rk)(a:TM):Int × Rk:=if R.up=false then (9,R.dU) else if nH a=true then (0,R.dU.pS a) else (10,R.dU)
def Rk.on(R:Rk)(a:TM)(k:Rk->Nat->Int × Rk):Int × Rk:=if R.up=false then (9,R.dU) else match dp R.now a with
  |none=>(11,R.dU)
  |some i=>k R.dU i
def Rk.append(R:Rk)(a t:TM):Int × Rk:=R.on a λQ i=>if Q.cT<(Q.use Q.now:Int)+t.size then (12,Q) else (0,Q.nD i ⟨(Q.fl i).bytes++t,(Q.fl i).safe⟩)
def Rk.sync(R:Rk)(a:TM):Int × Rk:=R.on a λQ i=>(0,Q.nD i ⟨(Q.fl i).bytes,(Q.fl i).bytes.size⟩)
def Rk.remove(R:Rk)(a:TM):Int × Rk:=R.on a λQ i=>(0,{ Q with dS:=Q.dS++[⟨a,e0,0⟩] })
def Rk.rename(R:Rk)(a b:TM):Int × Rk:=if R.up=true/\nH b=false then (10,R.dU) else R.on a λQ i=>(0,if a=b then Q else { Q with dS:=Q.dS++[⟨a,b,i⟩] })
def Rk.eY(R:Rk):Int × Rk:=if R.up=false then (9,R.dU) else (0,{ R.dU with safe:=R.now,dS:=[] })
theorem tY(R:Rk):R.dU.now=R.now:=by
 unfold Rk.dU;split
 .rfl
 .split
  .rfl
  .split <;> rfl
end Rd
section
open Go.RowKit
theorem di{P:Program}{m:Array Oper}{o:Oper}{a:Act}{w:TJ}{K:Act->TJ->Prop}{Q:Exit->Act->TJ->Prop}{E:Prop}(B:o.guard=none)(c:Operand)(y:Array Operand)(C:Array TypeId)(z:o.op=Op.call { callee := .value c,args:=y,argTypes:=C })(F:Nat)(D:a.eval c=.func (.func F) #[] #[])(args:Array TK)(b:y.toList.map a.eval=args.toList)(A:∀(args:Array TK) (w:TJ),(callFunc F args).run P w=.ok (.enter F args) w){R:Ending->TJ->Prop}(j:TL P F args w R)(h:∀e r,R e r->match e with |.returned v=>K (a.put o.dst v) r |.panicked chain=>Q (.panic chain) a r |.outgrown=>LetsOut Q):if Region.wanted o (yielded m a.tmps)=true then Oper.wp P o a w K Q else E:=by
 have G:Region.wanted o (yielded m a.tmps)=true:=by simp[Region.wanted,B]
 have l:y.map a.eval=args:=by apply Array.ext';simpa using b
 rw[cg G];unfold Oper.wp;have u:(execOp a.eval o).run P w=.ok (.enter F args) w:=by
  have H:=A args w;simp[execOp,z,resolve,invoke,Deferred.ofValue,D,l,H,Result.andThen]
 rw[u,Oper.upon_enter];refine j.mono ?_;intro e r I;have:=h e r I;cases e <;> exact this
end
namespace Dk
open Go.RowKit
structure Kept (w w':TJ) (ok:Nat->Prop):Prop where
 os:w'.os=w.os
 tape:w'.tape=w.tape
 output:w'.output=w.output
 size:w.heap.size<=w'.heap.size
 block:∀k,k<w.heap.size->ok k->w'.heap[k]?=w.heap[k]?
theorem Kept.refl(w:TJ)(ok:Nat->Prop):Kept w w ok:=⟨rfl,rfl,rfl,b7 _,λ_ _ _=>rfl⟩
variable {a:TJ}{ok:Nat->Prop}
theorem Kept.trans{b c:TJ}(h:Kept a b ok)(k:Kept b c ok): Kept a c ok:=⟨k.os.trans h.os,k.tape.trans h.tape,k.output.trans h.output,cx h.size k.size,λi hi e=>(k.block i (dT hi h.size) e).trans (h.block i hi e)⟩
variable {w' w:TJ}
theorem Kept.mono{b:Nat->Prop}(h:Kept w w' ok)(e:∀k,k<w.heap.size->b k->ok k): Kept w w' b:=⟨h.os,h.tape,h.output,h.size,λi hi j=>h.block i hi (e i hi j)⟩
theorem Kept.below(h:TI w w')(ok:Nat->Prop): Kept w w' ok:=⟨h.os,h.tape,h.output,h.size,λk b _=>h.block k b⟩
variable {B:Nat}
theorem Kept.toBelow(h:Kept w w' ok)(j:B<=w.heap.size)(e:∀k,k<B->ok k): Below B w w':=⟨h.os,h.tape,h.output,h.size,λk b=>h.block k (by omega) (e k b)⟩
theorem Kept.grown{b:Option Nat}(h:w.grownBy w' b)(j:∀k,ok k->b≠some k): Kept w w' ok:=⟨h.os,h.tape,h.output,h.size,λk l m=>h.block k l (λe=>j k m e.symm)⟩
theorem Kept.setCell(h:Kept a w ok){p:Addr}(j:¬ok p.block)(u:TK): Kept a (w.setCell p u) ok:=⟨h.os,h.tape,h.output,by simpa using h.size,λk l b=>(cG w p u k (λe=>j (e ▸ b))).trans (h.block k l b)⟩
theorem Kept.Jf(h:Kept a w ok){p:Addr}(j:∀k,k<a.heap.size->ok k->k≠p.block)(u:TK): Kept a (w.setCell p u) ok:=⟨h.os,h.tape,h.output,by simpa using h.size,λk b e=>(cG w p u k (j k b e)).trans (h.block k b e)⟩
theorem Kept.alloc(h:Kept a w ok)(o:Obj): Kept a (w.alloc o) ok:=⟨h.os,h.tape,h.output,by have:=h.size;simp;omega,λk b e=>(cN w o k (dT b h.size)).trans (h.block k b e)⟩
theorem Kept.drew(h:Kept a w ok): Kept a w.drew ok:=⟨h.os,h.tape,h.output,h.size,h.block⟩
theorem du{e size n:Nat}{v:TK}{m:List TK}(h:w.ownsRow B e size v n m)(z:Kept w w' ok)(A:∀g,v.ownBlock=some g->ok g): w'.ownsRow B e size v n m:=by
 obtain⟨C,b⟩:=h;refine⟨C,?_⟩;rcases b with b|⟨g,j,l,u,D,y,r⟩
 .exact .inl b
 .refine .inr ⟨g,j,l,u,D,?_,r⟩;rw[z.block g (cB.1 y).1 (A g (by rw[u];rfl)),y]
theorem rL{e size n:Nat}{v:TK}{m:List TK}(h:w.ownsRow B e size v n m): w.ownsRow 0 e size v n m:=by
 obtain⟨u,b⟩:=h;refine⟨u,?_⟩;rcases b with b|⟨g,j,l,y,A,z,r⟩
 .exact .inl b
 .exact .inr ⟨g,j,l,y,cy _,z,r⟩
end Dk
namespace Rd
open Go.RowKit
open Sd (Tb)
theorem OL{a b:TM}(h:a=b):(a.toList == b.toList)=true:=by subst h;exact beq_self_eq_true _
theorem OH{a b:TM}(h:¬a=b):(a.toList == b.toList)=false:=cC.2 λe=>h (Sd.toList_inj e)
theorem qx(L:Tb)(a:TM):(wo L a).length<=L.length:=Tz _ _
end Rd
namespace Rd
open Go.RowKit
open Sd (Tb)
theorem mE{w:TJ}{B y e size n:Nat}{v:TK}{z:List TK}(h:w.ownsRow B e size v n z)(A:y<=B):w.ownsRow y e size v n z:=by
 obtain⟨C,b⟩:=h;refine⟨C,?_⟩;rcases b with b|⟨g,j,l,D,m,u,r⟩
 .exact .inl b
 .exact .inr ⟨g,j,l,D,cx A m,u,r⟩
theorem sI(L:Tb)(c:Ch):(ap L c).length<=L.length+1:=by
 have b:=qx L c.goes;have e:=qx (wo L c.goes) c.comes;unfold ap;split
 .omega
 .simp;omega
theorem Be:∀(C:List Ch) (L:Tb),(C.foldl ap L).length<=L.length+C.length
 |[],L=>b7 _
 |c::C,L=>by
  have b:=Be C (ap L c);have e:=sI L c;simp only[List.foldl_cons,cD];omega
theorem uw(R:Rk)(n:Nat):(R.dir n).length<=R.safe.length+R.dS.length:=by
 have b:=Be (R.dS.take n) (wo R.safe e0);have e:=qx R.safe e0;have j:(R.dS.take n).length<=R.dS.length:=by rw[A3];omega
 unfold Rk.dir;omega
theorem PE{a:TM}(h:a=e0):a.toList.isEmpty=true:=by subst h;rw[B3];rfl
theorem Pf{a:TM}(h:¬a=e0):a.toList.isEmpty=false:=by
 rw[B3];cases b:a.data.toList with
 |nil=>exact absurd (Bk (OV.1 (b.trans rfl))) h
 |cons _ _=>rfl
end Rd
namespace Rd
open Go.RowKit
open Sd (Tb)
open Dk (Kept du)
def Rk.fH(R:Rk):List TM:=if R.down=true then [] else (tab R.now).map (·.1)
def Rk.nh(R:Rk):Int:=if R.down=true then 9 else 0
def strs(L:List TM):List TK:=L.map Value.string
def Rk.rd(R:Rk)(a:TM):TM:=if R.down=true then e0 else match dp R.now a with
 |none=>e0
 |some i=>(R.fl i).bytes
def Rk.EV(R:Rk)(a:TM):Int:=if R.down=true then 9 else match dp R.now a with
 |none=>11
 |some i=>0
theorem L9(n:Int):(Rk.mk [] [] [] n (-1) false).Ok:=⟨List.Pairwise.nil,λp h=>(by cases h),λp h=>(by cases h),λp h=>(by cases h),λp h=>(by cases h)⟩
end Rd
namespace Rd
open Go.RowKit
open Sd (Tb)
open Dk (Kept du)
theorem KO{R:Rk}(h:R.Ok)(i:Nat)(f:Fl)(r:f.safe<=f.bytes.size):(R.nD i f).Ok:=by
 obtain⟨a,b,c,d,e⟩:=h;have m:(R.nD i f).files.length=R.files.length:=QX;refine⟨a,b,λp u=>by rw[m];exact c p u,λx j=>by rw[m];exact d x j,λx j=>?_⟩;rcases List.mem_or_eq_of_mem_set j with l|l
 .exact e x l
 .rw[l];exact r
theorem NB{R:Rk}(h:R.Ok)(c:Ch)(l:c.file<R.files.length\/c.comes=e0):({ R with dS:=R.dS++[c] }:Rk).Ok:=by
 obtain⟨a,b,s,d,e⟩:=h;refine⟨a,b,s,λx m=>?_,e⟩;rcases cJ.1 m with j|j
 .exact d x j
 .rw[eh.1 j];exact l
end Rd
namespace Rd
open Go.RowKit
open Sd (Tb)
open Dk (Kept du)
theorem jv(R:Rk):R.dU.files=R.files/\R.dU.safe=R.safe/\R.dU.dS=R.dS/\R.dU.cT=R.cT:=by
 unfold Rk.dU;split
 .exact⟨rfl,rfl,rfl,rfl⟩
 .split
  .exact⟨rfl,rfl,rfl,rfl⟩
  .split <;> exact⟨rfl,rfl,rfl,rfl⟩
theorem zo(R:Rk)(i:Nat):R.dU.fl i=R.fl i:=by unfold Rk.fl;rw[(jv R).1]
theorem Lo(R:Rk)(L:Tb):R.dU.use L=R.use L:=by unfold Rk.use;simp only[zo]
end Rd
namespace Rd
open Go.RowKit
open Sd (Tb)
open Dk (Kept du)
theorem Il{R:Rk}(h:R.Ok):({ R with files:=R.files++[⟨e0,0⟩] }:Rk).Ok:=by
 obtain⟨a,b,s,d,e⟩:=h;have l:∀n,n<R.files.length->n<(R.files++[Fl.mk e0 0]).length:=λn y=>by simp;omega
 refine⟨a,b,λp m=>l _ (s p m),λc r=>(d c r).imp (l _) id,λx u=>?_⟩;rcases cJ.1 u with j|j
 .exact e x j
 .rw[eh.1 j];exact cy _
theorem FX(R:Rk)(x:Fl)(i:Nat)(h:i<R.files.length):({ R with files:=R.files++[x] }:Rk).fl i=R.fl i:=by
 unfold Rk.fl;rw[cL,cL,qa h]
end Rd
namespace Sn
open Go
def lt(a b:Nat):Bool:=decide (a<b)
theorem lt_irrefl(a:Nat):lt a a=false:=by simp[lt]
variable {a b:Nat}
theorem lt_trans{c:Nat}(h1:lt a b=true)(h2:lt b c=true): lt a c=true:=by simp[lt] at *;omega
theorem qv(a b:Nat):lt a b=true\/a=b\/lt b a=true:=by simp[lt];omega
theorem lt_asymm(h:lt a b=true): lt b a=false:=by simp[lt] at *;omega
theorem qL(h:lt a b=true): ¬a=b:=by simp[lt] at *;omega
theorem oV{c:Nat}(h1:lt b a=false)(h2:lt b c=true): lt a c=true:=by simp[lt] at *;omega
structure Ce where
 p:Option Addr
 n:Nat
 c:Nat
 al:Int
abbrev Tb:=List (Nat × Ce)
def dm(T:Tb)(a:Nat):Nat:=(T.filter λp=>lt p.1 a).length
def dw(T:Tb)(a:Nat):Bool:=T.any λp=>decide (p.1=a)
def da(T:Tb):Prop:=T.Pairwise λp q=>lt p.1 q.1=true
def gI(T:Tb)(a:Nat)(v:Ce):Tb:=T.take (dm T a)++(a,v)::T.drop (dm T a)
theorem lY(T:Tb)(a:Nat):dm T a<=T.length:=Tz _ _
theorem iA(A B:Tb)(a:Nat)(j:∀p∈A,lt p.1 a=true)(l:∀p∈B,lt p.1 a=false):dm (A++B) a=A.length:=by
 unfold dm;rw[Dr,List.filter_eq_self.2 (λp e=>j p e),Tp.2 (λp e=>by rw[l p e];decide)];simp
variable {i:Nat}{T:Tb}
theorem jN(hi:i<=T.length)(h1:∀j (h:j<T.length),j<i->lt (T[j]).1 a=true)(h2:∀j (h:j<T.length),i<=j->lt (T[j]).1 a=false): dm T a=i:=by
 have e:=r4 i T;rw[<-e,iA]
 .simp;omega
 .intro p l;obtain⟨j,m,rfl⟩:=oM.1 l;simp at m ⊢;exact h1 j (by omega) (by omega)
 .intro p l;obtain⟨j,m,rfl⟩:=oM.1 l;simp at m ⊢;exact h2 (i+j) (by omega) (by omega)
theorem et(h:da T){j:Nat}(e:i<j)(l:j<T.length): lt (T[i]'(by omega)).1 (T[j]).1=true:=TD.1 h i j (by omega) l e
theorem fg(h:da T){j:Nat}(e:i<=j)(l:j<T.length): lt (T[j]).1 (T[i]'(by omega)).1=false:=by
 rcases Tg e with m|rfl
 .exact lt_asymm (et h m l)
 .exact lt_irrefl _
theorem kY(h:da T)(a:Nat): (∀j (m:j<T.length),j<dm T a↔lt (T[j]).1 a=true):=by
 induction T with
 |nil=>intro j m;simp at m
 |cons p t A =>
  have B:da t:=(sQ.1 h).2;have z:=(sQ.1 h).1;intro j m;cases l:lt p.1 a with
  |true =>
   have e:dm (p::t) a=dm t a+1:=by unfold dm;rw[He,cg l];rfl
   rw[e];cases j with
   |zero=>simp[l]
   |succ j=>simpa using A B j (by simpa using m)
  |false =>
   have e:dm (p::t) a=0:=by
    have:=iA [] (p::t) a (by simp) (by
     intro q u;rcases ic.1 u with rfl|u
     .exact l
     .cases y:lt q.1 a with
      |false=>rfl
      |true=>have:=lt_trans (z q u) y;rw[this] at l;cases l)
    simpa using this
   rw[e];constructor
   .intro r;omega
   .intro r;exfalso;cases j with
    |zero=>simp at r;rw[r] at l;cases l
    |succ j=>have C:=z (t[j]'(by simpa using m)) (pY _);simp at r;have:=lt_trans C r;rw[this] at l;cases l
theorem iQ: dw T a=true↔∃v,(a,v)∈T:=by
 unfold dw;rw[Ci];constructor
 .rintro⟨p,e,j⟩;have:p.1=a:=by simpa using j
  exact⟨p.2,by rw[<-this];exact e⟩
 .rintro⟨v,l⟩;exact⟨(a,v),l,by simp⟩
theorem iU(h:da T)(a:Nat): dw T a=true↔∃m:dm T a<T.length,(T[dm T a]).1=a:=by
 constructor
 .intro u;obtain⟨p,y,e⟩:=Ci.1 u;obtain⟨j,m,rfl⟩:=oM.1 y;have e:(T[j]).1=a:=by simpa using e
  have r:dm T a=j:=jN (by omega) (λi hi l=>by have:=et h l m;rw[e] at this;exact this) (λi hi l=>by have:=fg h l hi;rw[e] at this;exact this);rw[r];exact⟨m,e⟩
 .rintro⟨m,e⟩;exact Ci.2 ⟨T[dm T a],pY _,by simpa using e⟩
theorem iq(h:da T){v:Ce}(y:dw T a=false): da (gI T a v):=by
 have z:=kY h a;unfold gI da;rw[QB];refine⟨h.sublist (List.take_sublist _ _),sQ.2 ⟨?_,h.sublist (List.drop_sublist _ _)⟩,?_⟩
 .intro q l;obtain⟨j,r,rfl⟩:=oM.1 l;simp at r ⊢;have u:=not_congr (z (dm T a+j) (by omega));have A:¬(T[dm T a+j]).1=a:=by
   intro e;have:dw T a=true:=Ci.2 ⟨T[dm T a+j],pY _,by simpa using e⟩;rw[this] at y;cases y
  have B:=u.1 (by omega);rcases qv (T[dm T a+j]).1 a with g|g|g
  .exact absurd g B
  .exact absurd g A
  .exact g
 .intro p C q l;obtain⟨i,hi,rfl⟩:=oM.1 C;have m:i<dm T a/\i<T.length:=by rw[A3] at hi;omega
  have u:=(z i m.2).1 m.1;rcases ic.1 l with rfl|l
  .simpa using u
  .obtain⟨j,r,rfl⟩:=oM.1 l;simp at r ⊢;exact et h (by omega) (by omega)
theorem iS(T:Tb)(a:Nat)(v:Ce):(gI T a v).length=T.length+1:=by
 have:=lY T a;simp[gI];omega
theorem kT{v:Ce}{p:Nat × Ce}: p∈gI T a v↔p=(a,v)\/p∈T:=by
 have e:=r4 (dm T a) T;constructor
 .intro h;rcases cJ.1 h with h|h
  .exact Or.inr (Tk h)
  .rcases ic.1 h with h|h
   .exact Or.inl h
   .exact Or.inr (Ep h)
 .intro h;rcases h with h|h
  .exact cJ.2 (Or.inr (ic.2 (Or.inl h)))
  .rw[<-e] at h;rcases cJ.1 h with h|h
   .exact cJ.2 (Or.inl h)
   .exact cJ.2 (Or.inr (ic.2 (Or.inr h)))
def jB(T:Tb)(a:Nat):Option Ce:=if dw T a=true then (T[dm T a]?).map (·.2) else none
theorem gn(j:da T)(h:dw T a=true): ∃e:dm T a<T.length,(T[dm T a]).1=a/\jB T a=some (T[dm T a]).2:=by
 obtain⟨e,l⟩:=(iU j a).1 h;refine⟨e,l,?_⟩;unfold jB;rw[cg h,cH e];rfl
def gM(T:Tb)(a:Nat):Tb:=if dw T a=true then T.eraseIdx (dm T a) else T
end Sn
end Go.Proofs.YtgkkdpegcieakaaGreatDoor
