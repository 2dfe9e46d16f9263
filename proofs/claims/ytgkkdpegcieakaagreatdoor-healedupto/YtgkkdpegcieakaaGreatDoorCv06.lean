import Derived.Test.YtgkkdpegcieakaaGreatDoorCv05
set_option linter.all false
set_option maxRecDepth 100000
set_option maxHeartbeats 0
namespace Go.Proofs.YtgkkdpegcieakaaGreatDoor
open Go.Proofs.Tryz
open Value renaming int→Z,slice→J
open Option renaming none→U,some→S
open Bool renaming true→We,false→Wg
open List renaming length→Wn
open IntKind renaming i64→Y
open Go renaming World→V5,Value→V6,Calls→V7
namespace Sp
open Go
def dst(x:List UInt8)(h:Nat)(b:List Nat):Option (Nat × List Nat):=if x=[91] then (if h=0 then U else S (h-1,b++[h-1]))
 else if x=[93] then (match b.getLast? with | some m=>if h=m then S (h,b.dropLast) else U | none=>U)
 else match tk We x with
  |none=>U
  |some (n,m)=>if n<=h/\h-n+m<=16 then S (h-n+m,b) else U
def fe:List (List UInt8)->Nat->List Nat->Option (Nat × List Nat)
 |[],h,b=>S (h,b)
 |x::r,h,b=>match dst x h b with
  |none=>U
  |some (j,e)=>fe r j e
theorem lx:∀(A B:List (List UInt8)) (h:Nat) (b:List Nat),fe (A++B) h b=match fe A h b with
  |none=>U
  |some (j,e)=>fe B j e:=by
 intro A
 induction A with
 |nil=>intro B h b;rfl
 |cons x r l =>
  intro B h b;simp only[TZ,fe];cases dst x h b with
  |none=>rfl
  |some p=>exact l B p.1 p.2
theorem G4(r:List (List UInt8))(h:Nat)(b:List Nat):fe ([91]::r) h b=if h=0 then U else fe r (h-1) (b++[h-1]):=by
 have e:dst [91] h b=if h=0 then U else S (h-1,b++[h-1]):=by unfold dst;rw[Tg rfl]
 rw[fe,e];by_cases j:h=0
 .rw[Tg j,Tg j]
 .rw[Tf j,Tf j]
theorem Gs(r:List (List UInt8))(h m:Nat)(b:List Nat):fe ([93]::r) h (b++[m])=if h=m then fe r h b else U:=by
 have e:dst [93] h (b++[m])=if h=m then S (h,b) else U:=by
  unfold dst;rw[Tf (by decide),Tg rfl];simp only[VO,VP,Option.some_or,VQ]
 rw[fe,e];by_cases j:h=m
 .rw[Tg j,Tg j]
 .rw[Tf j,Tf j]
variable {x:List UInt8}
theorem nS(h1:x≠[91])(h2:x≠[93]): ds x=0:=by unfold ds;rw[Tf h1,Tf h2]
variable {wt:Bool}
theorem kR{r:List (List UInt8)}{d:Int}(h:kI wt (x::r) d=We): tk wt x≠U/\0<=d+ds x/\kI wt r (d+ds x)=We:=by
 simp only[kI] at h;split at h
 .cases h
 .rename_i b;exact⟨λe=>b (Or.inl e),by omega,h⟩
theorem CF{r:List (List UInt8)}{d:Int}(h1:tk wt x≠U)(h2:0<=d+ds x)(h:kI wt r (d+ds x)=We): kI wt (x::r) d=We:=by
 simp only[kI];rw[Tf (by intro b;rcases b with b|b;exact h1 b;omega)];exact h
theorem uL:∀(R:List (List UInt8)) (d:Int),kI Wg R d=We->kI We R d=We:=by
 intro R
 induction R with
 |nil=>intro d h;exact h
 |cons x r j =>
  intro d h;obtain⟨l,u,y⟩:=kR h;refine CF ?_ u (j _ y);cases b:tk Wg x with
  |none=>exact absurd b l
  |some p=>rw[Ge (n:=p.1) (m:=p.2) (by rw[b])];exact λe=>by cases e
theorem xQ:∀(R:List (List UInt8)) (d:Int),0<=d->kI We R (d+1)=We->
  ∃b l,R=b++[93]::l/\kI We b d=We/\kI We l 0=We/\∀k T,BK (R++T) k (d+1)=S (k+Wn b):=by
 intro R
 induction R with
 |nil =>
  intro d hd h;simp only[kI,decide_eq_true_eq] at h;omega
 |cons y r B =>
  intro d hd h;obtain⟨C,L,m⟩:=kR h;by_cases j:d+1+ds y=0
  .have F:y=[93]:=by
    have M:=Cn y;by_cases z:y=[91]
    .subst z;simp[ds] at j;omega
    .by_cases A:y=[93]
     .exact A
     .rw[nS z A] at j;omega
   have u:d=0:=by have:=Cn y;omega
   subst F u;refine⟨[],r,O,O,by rw[j] at m;exact m,λk T=>?_⟩;simp only[TZ,BK];rw[Tg j];rfl
  .obtain⟨b,l,e,G,I,K⟩:=B (d+ds y) (by omega) (by rw[show d+ds y+1=d+1+ds y by omega];exact m);refine⟨y::b,l,by rw[e];rfl,CF C (by omega) G,I,λk T=>?_⟩;simp only[TZ,BK];rw[Tf j,show d+1+ds y=d+ds y+1 by omega,K (k+1) T];simp only[Tr]
   congr 1;omega
theorem Em(L:List (List UInt8))(f a h:Nat):zW L f a a h=S h:=by
 cases f with
 |zero=>simp[zW]
 |succ f=>rw[zW,Tg V2]
theorem Bk(L:List (List UInt8)):∀(b:Nat) (j T:List (List UInt8)) (a h:Nat) (z:List Nat),Wn j<=b->L.drop a=j++T->a+Wn j<=Wn L->kI We j 0=We->h<=16->
  fe j h z=match zW L (Wn L-a) a (a+Wn j) h with
   |none=>U
   |some Q=>S (Q,z):=by
 intro b
 induction b with
 |zero =>
  intro j T a h z k I R q s;have:j=[]:=VF (by omega);subst this;rw[UB,Uo,Em];rfl
 |succ b V =>
  intro j T a h z k I R q s;cases j with
  |nil=>rw[UB,Uo,Em];rfl
  |cons x r =>
   obtain⟨o,h2,K⟩:=kR q;have A:a<Wn L:=by simp only[Tr] at R;omega
   have g:L.getD a []=x:=by
    rw[Ty,Tw A];have:=TW A;rw[I] at this;simp only[TZ,Vs] at this;simp[this.1]
   have B:L.drop (a+1)=r++T:=by
    have:=TW A;rw[I] at this;simp only[TZ,Vs] at this;exact this.2.symm
   have F:Wn L-a=(Wn L-(a+1))+1:=by omega
   simp only[Tr] at R k ⊢;rw[F,zW,Tf (by omega),g];by_cases M:x=[91]
   .subst M;have W:tk We [91]=S (1,0):=by decide
    rw[W];simp only;have y:ds [91]=1:=by decide
    rw[y] at K;obtain⟨l,u,P,f1,f2,f3⟩:=xQ r 0 (Int.le_refl _) (by simpa using K);have G:BK (L.drop a) a 0=S (a+1+Wn l):=by
     rw[I];simp only[TZ,BK,y];rw[Tf (by omega)];exact f3 (a+1) T
    rw[G4];by_cases i:h=0
    .rw[Tg i,Tg (by omega)]
    .rw[Tf i,Tf (by omega),Tg trivial,G];simp only;have aa:Wn r=Wn l+(Wn u+1):=by rw[P];simp
     have i1:=V l ([93]::u++T) (a+1) (h-1) (z++[h-1]) (by omega) (by rw[B,P];simp) (by omega) f1 (by omega);have X:L.drop (a+1+Wn l+1)=u++T:=by
      rw[Nat.add_assoc (a+1),<-List.drop_drop,B,P];rw[show l++[93]::u++T=(l++[[93]])++(u++T) by simp];exact List.drop_left' (by simp)
     have i2:=V u T (a+1+Wn l+1) (h-1) z (by omega) X (by omega) f2 (by omega);rw[P,lx,i1];have eb:a+(l++[93]::u).length+1=a+1+Wn l+1+Wn u:=by simp;omega
     have ef:Wn L-(a+1)-(a+1+Wn l-a)=Wn L-(a+1+Wn l+1):=by omega
     simp only[Uo];cases hg:zW L (Wn L-(a+1)) (a+1) (a+1+Wn l) (h-1) with
     |none=>simp only;rw[Tf (by intro e;cases e)]
     |some Q =>
      simp only;rw[Gs];by_cases C:Q=h-1
      .subst C;rw[Tg O,Tg O,i2,ef];have:a+((l++[93]::u).length+1)=a+1+Wn l+1+Wn u:=by simp;omega
       rw[this]
      .rw[Tf C,Tf (by intro e;injection e with e;exact C e)]
   .have f:x≠[93]:=by
     rintro rfl;have:ds [93] = -1:=by decide
     omega
    have y:=nS M f;rw[y] at K;cases t:tk We x with
    |none=>exact absurd t o
    |some p =>
     obtain⟨n,m⟩:=p;simp only[fe,dst];rw[Tf M,Tf f,t];simp only;by_cases C:n<=h/\h-n+m<=16
     .rw[Tg C,Tf (by omega),Tf M];simp only;have:=V r T (a+1) (h-n+m) z (by omega) B (by omega) (by simpa using K) (by omega);rw[this,show a+1+Wn r=a+(Wn r+1) by omega]
     .rw[Tf C,Tg (by omega)]
def keeps(C:List (List UInt8)):Bool:=decide (zW C (Wn C) 0 (Wn C) 0=S 1)
theorem vW{C:List (List UInt8)}(l:kI We C 0=We):(keeps C=We/\fe C 0 []=S (1,[]))\/(keeps C=Wg/\(fe C 0 []=U\/∃h,h≠1/\fe C 0 []=S (h,[]))):=by
 have h:=Bk C (Wn C) C [] 0 0 [] V2 (by simp) (by omega) l (by omega);rw[Nat.sub_zero,TM] at h;unfold keeps;cases b:zW C (Wn C) 0 (Wn C) 0 with
 |none=>rw[b] at h;exact Or.inr ⟨by decide,Or.inl h⟩
 |some j =>
  rw[b] at h;by_cases e:j=1
  .subst e;exact Or.inl ⟨by decide,h⟩
  .exact Or.inr ⟨TE (λm=>e (by injection m)),Or.inr ⟨j,e,h⟩⟩
def Sh:List (Nat × Nat):=[(0,1),(0,1),(0,1),(0,1),(0,1),(0,1),(0,1),(0,1),(0,1),(2,1),(2,1),(2,1),(2,1),(2,1),(2,1),(2,1),(2,1),(2,1),(1,2),(1,0),(2,2),(2,3),(3,1),(1,0),(0,0)]
theorem zS{n:Int}(h:number x=S n): tk wt x=S (0,1):=by
 unfold tk;rw[Tg (Or.inl (by rw[h];rfl))]
theorem Eo:∀k,k<25->tk We (yP[k]!)=S (Sh[k]!):=by decide
theorem zZ:∀k,k<25->tk Wg (yP[k]!)=if k=8 then U else S (Sh[k]!):=by decide
theorem Fc(h:number x=U)(l:∀k,k<25->yP[k]!≠x): tk wt x=U:=by
 have e:∀y∈yP,y≠x:=by
  intro y b;obtain⟨k,m,rfl⟩:=T5.1 b;have r:Wn yP=25:=rfl;have:=l k (by omega);rwa [getElem!_pos yP k m] at this
 have u:x∉jR:=λj=>e x ((by decide:∀y∈jR,y∈yP) x j) O
 have z:x∉oS:=λj=>e x ((by decide:∀y∈oS,y∈yP) x j) O
 have f:∀y,y∈yP->x≠y:=λy b A=>e y b A.symm
 unfold tk;rw[Tf (by rintro(hc|hc|hc);(rw[h] at hc;cases hc);exact u hc;exact f _ (by decide) hc.2),Tf z,Tf (f _ (by decide)),Tf (f _ (by decide)),Tf (f _ (by decide)),Tf (f _ (by decide)),Tf (f _ (by decide)),Tf (f _ (by decide)),Tf (f _ (by decide))]
end Sp
section
open Go.RowKit
section
variable {P : Program}
theorem tg(w:V5)(base:Nat)(t k e:TypeId)(i:TypeInfo)(z:V6)(size y:Nat)(ht:P.underlying t=S (.slice e))(hi:P.info? e=S i)(hz:i.zero=S z)(B:i.size=size)(x:i.bytes=y)(ab:z.cells.size=size)(ad:0<size)(v:V6)(n:Nat)(V:List V6)(r:w.ownsRow base e size v n V)(a:Addr)(m c:Nat)(hm:0<m)(news:List V6)(q:Wn news=m*size)(b:∀j u,news[j]?=S u->w.cell? (a.add j)=S u)(h1:∀u∈news,u.oneCell'=We)(G:n+m<=maxLen)(l:(n+m)*y<=140737488355328)(I:base<=w.heap.size):∃W X,(Builtin.append_ #[t,t] k #[v,J (S a) m c]).run P w=.ok W X/\X.ownsRow base e size W (n+m) (V++news)/\w.grownBy X v.ownBlock/\
   (W.ownBlock=v.ownBlock\/W.ownBlock=S w.heap.size)/\
   (∀(f:Nat) (u:V6) (K:Nat) (s:List V6),K<=n->u.ownBlock=v.ownBlock->w.ownsRow f e size u K s->X.ownsRow f e size u K s):=by
 obtain⟨W,X,L,ho,hg,_⟩:=run_append_own (P:=P) w base t k e i z size y ht hi hz B x ab ad v n V r a m c news q b h1 G l I;refine⟨W,X,L,ho,hg,?_⟩;subst B;subst x;rcases r.2 with ⟨rfl,rfl⟩|⟨g,M,Q,rfl,aj,R,ak,an,ae,af⟩
 .have hx:V=[]:=VF (by simpa using r.1);subst hx;have C:=run_append_nil (P:=P) w t k e i z ht hi hz a m c news q b (by omega) (by simp only[maxLen] at G;omega) (by have hb:=l;simp only[TM] at hb;omega);rw[C] at L;injection L with e1 e2;subst e1 e2;refine⟨.inr O,λf u K s T hu h=>de h ?_⟩;exact V3.drew.alloc V2 _
 .by_cases F:n+m<=M
  .have p:n*i.size+Wn news<=Q.size:=by rw[q,ae,<-Nat.add_mul];exact VH _ F
   have C:=run_append_room (P:=P) w t k e i ht hi g n M Q R a m c news q b h1 F p;rw[C] at L;injection L with e1 e2;subst e1 e2;refine⟨.inl O,λf u K s T hu h=>?_⟩;obtain⟨k1,k2⟩:=h;refine⟨k1,?_⟩;rcases k2 with k2|⟨g',o,ai,rfl,ag,A,q1,q2,q3,q4⟩
   .exact .inl k2
   .have aa:g'=g:=by simpa [Value.ownBlock] using hu
    subst aa;rw[R] at A;injection A with A;injection A with A;subst A;have ah:K*i.size<=n*i.size:=VH _ T;refine .inr ⟨g',o,_,O,ag,Uq w g' Q _ e _ R,q1,q2,?_,?_⟩
    .simp only[US,TT,Uz,Us,Uv];omega
    .rw[<-q4];simp only[T4];rw[UA (by simp;omega),UN,Vh ah]
  .have holds:∀j u,V[j]?=S u->w.cell? ((⟨g,0,U⟩:Addr).add j)=S u:=r.cells (g:=g) O;have C:=run_append_grow (P:=P) w t k e i z ht hi hz ⟨g,0,U⟩ n M V r.1 holds a m c news q b (by omega) (by simp only[maxLen] at G;omega) (growslice_fits (by omega) l);rw[C] at L;injection L with e1 e2;subst e1 e2;refine⟨.inr O,λf u K s T hu h=>de h ?_⟩;exact V3.drew.alloc V2 _
theorem eV(w:V5){F:Array Oper}{rest:List Oper}{o:Oper}{a:Act}{Q:Exit->Act->V5->Prop}(I:o.guard=U)(s x:Operand)(t:TypeId)(q:o.op=.call { callee := .builtin .append,args := #[s,x],argTypes := #[t,t] })(base:Nat)(e:TypeId)(i:TypeInfo)(z:V6)(size b:Nat)(ht:P.underlying t=S (.slice e))(hi:P.info? e=S i)(f:i.zero=S z)(r:i.size=size)(K:i.bytes=b)(L:z.cells.size=size)(M:0<size)(v:V6)(n:Nat)(R:List V6)(p:a.eval s=v)(G:w.ownsRow base e size v n R)(T:Addr)(m c:Nat)(g:0<m)(news:List V6)(hx:a.eval x=J (S T) m c)(hl:Wn news=m*size)(y:∀j u,news[j]?=S u->w.cell? (T.add j)=S u)(h1:∀u∈news,u.oneCell'=We)(V:n+m<=maxLen)(l:(n+m)*b<=140737488355328)(A:base<=w.heap.size)(h:∀B C,C.ownsRow base e size B (n+m) (R++news)->w.grownBy C v.ownBlock->(B.ownBlock=v.ownBlock\/B.ownBlock=S w.heap.size)-> (∀(X:Nat) (u:V6) (W:Nat) (k:List V6),W<=n->u.ownBlock=v.ownBlock->w.ownsRow X e size u W k->C.ownsRow X e size u W k)->wpList P F Q rest (a.put o.dst B) C):wpList P F Q (o::rest) a w:=wpList_plain I λ_ hK=>by
  obtain⟨B,C,hr,h2,h3,h4,h5⟩:=tg (P:=P) w base t o.type e i z size b ht hi f r K L M v n R G T m c g news hl y h1 V l A;unfold Oper.wp execOp;simp only[q,resolve,invoke,builtin,Sem.run_bind,Sem.run_pure,Result.andThen_ok,List.map_toArray,Uj,List.map_nil,p,hx,hr];exact hK _ _ (h B C h2 h3 h4 h5)
end
end
end Go.Proofs.YtgkkdpegcieakaaGreatDoor
