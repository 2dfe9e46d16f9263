import Derived.Test.YtgkkdpegcieakaaGreatDoorCw06
set_option linter.all false
set_option maxRecDepth 100000
set_option maxHeartbeats 16000000
namespace Go.Proofs.YtgkkdpegcieakaaGreatDoor
open Go.Proofs.Tryz
open Value renaming int→Z,slice→J
open Option renaming none→U,some→S
open Bool renaming true→W8,false→W9
open List renaming length→Xg
open IntKind renaming i64→Y
open Go renaming World→WR,Value→WS,Calls→WT
namespace Sp
open Go
def dst(x:List UInt8)(h:Nat)(b:List Nat):Option (Nat × List Nat):=if x=[91] then (if h=0 then U else S (h-1,b++[h-1]))
 else if x=[93] then (match b.getLast? with | some m=>if h=m then S (h,b.dropLast) else U | none=>U)
 else match tk W8 x with
  |none=>U
  |some (n,m)=>if n<=h/\h-n+m<=16 then S (h-n+m,b) else U
def fc:List (List UInt8)->Nat->List Nat->Option (Nat × List Nat)
 |[],h,b=>S (h,b)
 |x::r,h,b=>match dst x h b with
  |none=>U
  |some (j,e)=>fc r j e
theorem kR:∀(A B:List (List UInt8)) (h:Nat) (b:List Nat),fc (A++B) h b=match fc A h b with
  |none=>U
  |some (j,e)=>fc B j e:=by
 intro A
 induction A with
 |nil=>intro B h b;rfl
 |cons x r l =>
  intro B h b;simp only[UM,fc];cases dst x h b with
  |none=>rfl
  |some p=>exact l B p.1 p.2
theorem ID(r:List (List UInt8))(h:Nat)(b:List Nat):fc ([91]::r) h b=if h=0 then U else fc r (h-1) (b++[h-1]):=by
 have e:dst [91] h b=if h=0 then U else S (h-1,b++[h-1]):=by unfold dst;rw[T0 rfl]
 rw[fc,e];by_cases j:h=0
 .rw[T0 j,T0 j]
 .rw[TZ j,TZ j]
theorem GH(r:List (List UInt8))(h m:Nat)(b:List Nat):fc ([93]::r) h (b++[m])=if h=m then fc r h b else U:=by
 have e:dst [93] h (b++[m])=if h=m then S (h,b) else U:=by
  unfold dst;rw[TZ (by decide),T0 rfl];simp only[Wy,Wz,Option.some_or,WA]
 rw[fc,e];by_cases j:h=m
 .rw[T0 j,T0 j]
 .rw[TZ j,TZ j]
variable {x:List UInt8}
theorem nO(h1:x≠[91])(h2:x≠[93]): ds x=0:=by unfold ds;rw[TZ h1,TZ h2]
variable {wt:Bool}
theorem lx{r:List (List UInt8)}{d:Int}(h:kh wt (x::r) d=W8): tk wt x≠U/\0<=d+ds x/\kh wt r (d+ds x)=W8:=by
 simp only[kh] at h;split at h
 .cases h
 .rename_i b;exact⟨λe=>b (Or.inl e),by omega,h⟩
theorem D4{r:List (List UInt8)}{d:Int}(h1:tk wt x≠U)(h2:0<=d+ds x)(h:kh wt r (d+ds x)=W8): kh wt (x::r) d=W8:=by
 simp only[kh];rw[TZ (by intro b;rcases b with b|b;exact h1 b;omega)];exact h
theorem uQ:∀(R:List (List UInt8)) (d:Int),kh W9 R d=W8->kh W8 R d=W8:=by
 intro R
 induction R with
 |nil=>intro d h;exact h
 |cons x r j =>
  intro d h;obtain⟨l,u,y⟩:=lx h;refine D4 ?_ u (j _ y);cases b:tk W9 x with
  |none=>exact absurd b l
  |some p=>rw[Ic (n:=p.1) (m:=p.2) (by rw[b])];exact λe=>by cases e
theorem xt:∀(R:List (List UInt8)) (d:Int),0<=d->kh W8 R (d+1)=W8->
  ∃b l,R=b++[93]::l/\kh W8 b d=W8/\kh W8 l 0=W8/\∀k T,AF (R++T) k (d+1)=S (k+Xg b):=by
 intro R
 induction R with
 |nil =>
  intro d hd h;simp only[kh,decide_eq_true_eq] at h;omega
 |cons y r B =>
  intro d hd h;obtain⟨C,M,m⟩:=lx h;by_cases j:d+1+ds y=0
  .have F:y=[93]:=by
    have N:=AB y;by_cases z:y=[91]
    .subst z;simp[ds] at j;omega
    .by_cases A:y=[93]
     .exact A
     .rw[nO z A] at j;omega
   have u:d=0:=by have:=AB y;omega
   subst F u;refine⟨[],r,O,O,by rw[j] at m;exact m,λk T=>?_⟩;simp only[UM,AF];rw[T0 j];rfl
  .obtain⟨b,l,e,G,I,L⟩:=B (d+ds y) (by omega) (by rw[show d+ds y+1=d+1+ds y by omega];exact m);refine⟨y::b,l,by rw[e];rfl,D4 C (by omega) G,I,λk T=>?_⟩;simp only[UM,AF];rw[TZ j,show d+1+ds y=d+ds y+1 by omega,L (k+1) T];simp only[Uf]
   congr 1;omega
theorem FP(L:List (List UInt8))(f a h:Nat):zZ L f a a h=S h:=by
 cases f with
 |zero=>simp[zZ]
 |succ f=>rw[zZ,T0 WN]
theorem BW(L:List (List UInt8)):∀(N:Nat) (b T:List (List UInt8)) (a h:Nat) (y:List Nat),Xg b<=N->L.drop a=b++T->a+Xg b<=Xg L->kh W8 b 0=W8->h<=16->
  fc b h y=match zZ L (Xg L-a) a (a+Xg b) h with
   |none=>U
   |some Q=>S (Q,y):=by
 intro N
 induction N with
 |zero =>
  intro b T a h y k G R q s;have:b=[]:=Wo (by omega);subst this;rw[Vl,U9,FP];rfl
 |succ N V =>
  intro b T a h y k G R q s;cases b with
  |nil=>rw[Vl,U9,FP];rfl
  |cons x r =>
   obtain⟨o,h2,I⟩:=lx q;have z:a<Xg L:=by simp only[Uf] at R;omega
   have g:L.getD a []=x:=by
    rw[Uo,Uk z];have:=UJ z;rw[G] at this;simp only[UM,Wb] at this;simp[this.1]
   have A:L.drop (a+1)=r++T:=by
    have:=UJ z;rw[G] at this;simp only[UM,Wb] at this;exact this.2.symm
   have C:Xg L-a=(Xg L-(a+1))+1:=by omega
   simp only[Uf] at R k ⊢;rw[C,zZ,TZ (by omega),g];by_cases M:x=[91]
   .subst M;have W:tk W8 [91]=S (1,0):=by decide
    rw[W];simp only;have u:ds [91]=1:=by decide
    rw[u] at I;obtain⟨j,l,P,f1,f2,f3⟩:=xt r 0 (Int.le_refl _) (by simpa using I);have F:AF (L.drop a) a 0=S (a+1+Xg j):=by
     rw[G];simp only[UM,AF,u];rw[TZ (by omega)];exact f3 (a+1) T
    rw[ID];by_cases i:h=0
    .rw[T0 i,T0 (by omega)]
    .rw[TZ i,TZ (by omega),T0 trivial,F];simp only;have aa:Xg r=Xg j+(Xg l+1):=by rw[P];simp
     have i1:=V j ([93]::l++T) (a+1) (h-1) (y++[h-1]) (by omega) (by rw[A,P];simp) (by omega) f1 (by omega);have X:L.drop (a+1+Xg j+1)=l++T:=by
      rw[Nat.add_assoc (a+1),<-List.drop_drop,A,P];rw[show j++[93]::l++T=(j++[[93]])++(l++T) by simp];exact List.drop_left' (by simp)
     have i2:=V l T (a+1+Xg j+1) (h-1) y (by omega) X (by omega) f2 (by omega);rw[P,kR,i1];have eb:a+(j++[93]::l).length+1=a+1+Xg j+1+Xg l:=by simp;omega
     have ef:Xg L-(a+1)-(a+1+Xg j-a)=Xg L-(a+1+Xg j+1):=by omega
     simp only[U9];cases hg:zZ L (Xg L-(a+1)) (a+1) (a+1+Xg j) (h-1) with
     |none=>simp only;rw[TZ (by intro e;cases e)]
     |some Q =>
      simp only;rw[GH];by_cases B:Q=h-1
      .subst B;rw[T0 O,T0 O,i2,ef];have:a+((j++[93]::l).length+1)=a+1+Xg j+1+Xg l:=by simp;omega
       rw[this]
      .rw[TZ B,TZ (by intro e;injection e with e;exact B e)]
   .have f:x≠[93]:=by
     rintro rfl;have:ds [93] = -1:=by decide
     omega
    have u:=nO M f;rw[u] at I;cases t:tk W8 x with
    |none=>exact absurd t o
    |some p =>
     obtain⟨n,m⟩:=p;simp only[fc,dst];rw[TZ M,TZ f,t];simp only;by_cases B:n<=h/\h-n+m<=16
     .rw[T0 B,TZ (by omega),TZ M];simp only;have:=V r T (a+1) (h-n+m) y (by omega) A (by omega) (by simpa using I) (by omega);rw[this,show a+1+Xg r=a+(Xg r+1) by omega]
     .rw[TZ B,T0 (by omega)]
def keeps(C:List (List UInt8)):Bool:=decide (zZ C (Xg C) 0 (Xg C) 0=S 1)
theorem vY{C:List (List UInt8)}(l:kh W8 C 0=W8):(keeps C=W8/\fc C 0 []=S (1,[]))\/(keeps C=W9/\(fc C 0 []=U\/∃h,h≠1/\fc C 0 []=S (h,[]))):=by
 have h:=BW C (Xg C) C [] 0 0 [] WN (by simp) (by omega) l (by omega);rw[Nat.sub_zero,UA] at h;unfold keeps;cases b:zZ C (Xg C) 0 (Xg C) 0 with
 |none=>rw[b] at h;exact Or.inr ⟨by decide,Or.inl h⟩
 |some j =>
  rw[b] at h;by_cases e:j=1
  .subst e;exact Or.inl ⟨by decide,h⟩
  .exact Or.inr ⟨Uu (λm=>e (by injection m)),Or.inr ⟨j,e,h⟩⟩
def S6:List (Nat × Nat):=[(0,1),(0,1),(0,1),(0,1),(0,1),(0,1),(0,1),(0,1),(0,1),(2,1),(2,1),(2,1),(2,1),(2,1),(2,1),(2,1),(2,1),(2,1),(1,2),(1,0),(2,2),(2,3),(3,1),(1,0),(0,0)]
theorem zf{n:Int}(h:number x=S n): tk wt x=S (0,1):=by
 unfold tk;rw[T0 (Or.inl (by rw[h];rfl))]
theorem Fg:∀k,k<25->tk W8 (yC[k]!)=S (S6[k]!):=by decide
theorem Bf:∀k,k<25->tk W9 (yC[k]!)=if k=8 then U else S (S6[k]!):=by decide
theorem ET(h:number x=U)(l:∀k,k<25->yC[k]!≠x): tk wt x=U:=by
 have e:∀y∈yC,y≠x:=by
  intro y b;obtain⟨k,m,rfl⟩:=UP.1 b;have r:Xg yC=25:=rfl;have:=l k (by omega);rwa [getElem!_pos yC k m] at this
 have u:x∉jI:=λj=>e x ((by decide:∀y∈jI,y∈yC) x j) O
 have z:x∉oD:=λj=>e x ((by decide:∀y∈oD,y∈yC) x j) O
 have f:∀y,y∈yC->x≠y:=λy b A=>e y b A.symm
 unfold tk;rw[TZ (by rintro(hc|hc|hc);(rw[h] at hc;cases hc);exact u hc;exact f _ (by decide) hc.2),TZ z,TZ (f _ (by decide)),TZ (f _ (by decide)),TZ (f _ (by decide)),TZ (f _ (by decide)),TZ (f _ (by decide)),TZ (f _ (by decide)),TZ (f _ (by decide))]
end Sp
section
open Go.RowKit
section
variable {P : Program}
theorem sZ(w:WR)(base:Nat)(t k e:TypeId)(i:TypeInfo)(z:WS)(size y:Nat)(ht:P.underlying t=S (.slice e))(hi:P.info? e=S i)(hz:i.zero=S z)(B:i.size=size)(x:i.bytes=y)(ab:z.cells.size=size)(ad:0<size)(v:WS)(n:Nat)(V:List WS)(r:w.ownsRow base e size v n V)(a:Addr)(m c:Nat)(hm:0<m)(news:List WS)(q:Xg news=m*size)(b:∀j u,news[j]?=S u->w.cell? (a.add j)=S u)(h1:∀u∈news,u.oneCell'=W8)(G:n+m<=maxLen)(l:(n+m)*y<=140737488355328)(I:base<=w.heap.size):∃W X,(Builtin.append_ #[t,t] k #[v,J (S a) m c]).run P w=.ok W X/\X.ownsRow base e size W (n+m) (V++news)/\w.grownBy X v.ownBlock/\
   (W.ownBlock=v.ownBlock\/W.ownBlock=S w.heap.size)/\
   (∀(f:Nat) (u:WS) (L:Nat) (s:List WS),L<=n->u.ownBlock=v.ownBlock->w.ownsRow f e size u L s->X.ownsRow f e size u L s):=by
 obtain⟨W,X,M,ho,hg,_⟩:=run_append_own (P:=P) w base t k e i z size y ht hi hz B x ab ad v n V r a m c news q b h1 G l I;refine⟨W,X,M,ho,hg,?_⟩;subst B;subst x;rcases r.2 with ⟨rfl,rfl⟩|⟨g,N,Q,rfl,aj,R,ak,an,ae,af⟩
 .have hx:V=[]:=Wo (by simpa using r.1);subst hx;have C:=run_append_nil (P:=P) w t k e i z ht hi hz a m c news q b (by omega) (by simp only[maxLen] at G;omega) (by have hb:=l;simp only[UA] at hb;omega);rw[C] at M;injection M with e1 e2;subst e1 e2;refine⟨.inr O,λf u L s T hu h=>dd h ?_⟩;exact WO.drew.alloc WN _
 .by_cases F:n+m<=N
  .have p:n*i.size+Xg news<=Q.size:=by rw[q,ae,<-Nat.add_mul];exact Wq _ F
   have C:=run_append_room (P:=P) w t k e i ht hi g n N Q R a m c news q b h1 F p;rw[C] at M;injection M with e1 e2;subst e1 e2;refine⟨.inl O,λf u L s T hu h=>?_⟩;obtain⟨k1,k2⟩:=h;refine⟨k1,?_⟩;rcases k2 with k2|⟨g',o,ai,rfl,ag,A,q1,q2,q3,q4⟩
   .exact .inl k2
   .have aa:g'=g:=by simpa [Value.ownBlock] using hu
    subst aa;rw[R] at A;injection A with A;injection A with A;subst A;have ah:L*i.size<=n*i.size:=Wq _ T;refine .inr ⟨g',o,_,O,ag,U8 w g' Q _ e _ R,q1,q2,?_,?_⟩
    .simp only[VD,UG,Vj,Vb,Va];omega
    .rw[<-q4];simp only[UO];rw[Vk (by simp;omega),Vx,V2 ah]
  .have holds:∀j u,V[j]?=S u->w.cell? ((⟨g,0,U⟩:Addr).add j)=S u:=r.cells (g:=g) O;have C:=run_append_grow (P:=P) w t k e i z ht hi hz ⟨g,0,U⟩ n N V r.1 holds a m c news q b (by omega) (by simp only[maxLen] at G;omega) (growslice_fits (by omega) l);rw[C] at M;injection M with e1 e2;subst e1 e2;refine⟨.inr O,λf u L s T hu h=>dd h ?_⟩;exact WO.drew.alloc WN _
theorem eW(w:WR){F:Array Oper}{rest:List Oper}{o:Oper}{a:Act}{Q:Exit->Act->WR->Prop}(I:o.guard=U)(s x:Operand)(t:TypeId)(q:o.op=.call { callee := .builtin .append,args := #[s,x],argTypes := #[t,t] })(base:Nat)(e:TypeId)(i:TypeInfo)(z:WS)(size b:Nat)(ht:P.underlying t=S (.slice e))(hi:P.info? e=S i)(f:i.zero=S z)(r:i.size=size)(L:i.bytes=b)(M:z.cells.size=size)(N:0<size)(v:WS)(n:Nat)(R:List WS)(p:a.eval s=v)(G:w.ownsRow base e size v n R)(T:Addr)(m c:Nat)(g:0<m)(news:List WS)(hx:a.eval x=J (S T) m c)(hl:Xg news=m*size)(y:∀j u,news[j]?=S u->w.cell? (T.add j)=S u)(h1:∀u∈news,u.oneCell'=W8)(V:n+m<=maxLen)(l:(n+m)*b<=140737488355328)(A:base<=w.heap.size)(h:∀B C,C.ownsRow base e size B (n+m) (R++news)->w.grownBy C v.ownBlock->(B.ownBlock=v.ownBlock\/B.ownBlock=S w.heap.size)-> (∀(X:Nat) (u:WS) (W:Nat) (k:List WS),W<=n->u.ownBlock=v.ownBlock->w.ownsRow X e size u W k->C.ownsRow X e size u W k)->wpList P F Q rest (a.put o.dst B) C):wpList P F Q (o::rest) a w:=wpList_plain I λ_ hK=>by
  obtain⟨B,C,hr,h2,h3,h4,h5⟩:=sZ (P:=P) w base t o.type e i z size b ht hi f r L M N v n R G T m c g news hl y h1 V l A;unfold Oper.wp execOp;simp only[q,resolve,invoke,builtin,Sem.run_bind,Sem.run_pure,Result.andThen_ok,List.map_toArray,U4,List.map_nil,p,hx,hr];exact hK _ _ (h B C h2 h3 h4 h5)
end
end
end Go.Proofs.YtgkkdpegcieakaaGreatDoor
