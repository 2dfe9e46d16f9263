import Derived.Test.YtgkkdpegcieakaaGreatDoorCz06
set_option linter.unusedVariables false
set_option linter.unusedSimpArgs false
set_option maxRecDepth 100000
set_option maxHeartbeats 16000000
namespace Go.Proofs.YtgkkdpegcieakaaGreatDoor
open Go.Proofs.Tryz
open Value renaming int→Z
open IntKind renaming i64→Y
open Go renaming World→TJ,Value→TK,Calls→TL
namespace Sp
open Go
def dst(x:List UInt8)(h:Nat)(b:List Nat):Option (Nat × List Nat):=if x=[91] then (if h=0 then none else some (h-1,b++[h-1]))
 else if x=[93] then (match b.getLast? with | some m=>if h=m then some (h,b.dropLast) else none | none=>none)
 else match tk true x with
  |none=>none
  |some (n,m)=>if n<=h/\h-n+m<=16 then some (h-n+m,b) else none
def eZ:List (List UInt8)->Nat->List Nat->Option (Nat × List Nat)
 |[],h,b=>some (h,b)
 |x::r,h,b=>match dst x h b with
  |none=>none
  |some (j,e)=>eZ r j e
theorem ld:∀(A B:List (List UInt8)) (h:Nat) (b:List Nat),eZ (A++B) h b=match eZ A h b with
  |none=>none
  |some (j,e)=>eZ B j e:=by
 intro A
 induction A with
 |nil=>intro B h b;rfl
 |cons x r l =>
  intro B h b;simp only[mf,eZ];cases dst x h b with
  |none=>rfl
  |some p=>exact l B p.1 p.2
theorem FA(r:List (List UInt8))(h:Nat)(b:List Nat):eZ ([91]::r) h b=if h=0 then none else eZ r (h-1) (b++[h-1]):=by
 have e:dst [91] h b=if h=0 then none else some (h-1,b++[h-1]):=by unfold dst;rw[cg rfl]
 rw[eZ,e];by_cases j:h=0
 .rw[cg j,cg j]
 .rw[cd j,cd j]
theorem E6(r:List (List UInt8))(h m:Nat)(b:List Nat):eZ ([93]::r) h (b++[m])=if h=m then eZ r h b else none:=by
 have e:dst [93] h (b++[m])=if h=m then some (h,b) else none:=by
  unfold dst;rw[cd (by decide),cg rfl];simp only[Tr,Ts,Option.some_or,Tt]
 rw[eZ,e];by_cases j:h=m
 .rw[cg j,cg j]
 .rw[cd j,cd j]
variable {x:List UInt8}
theorem n7(h1:x≠[91])(h2:x≠[93]): ds x=0:=by unfold ds;rw[cd h1,cd h2]
variable {wt:Bool}
theorem kW{r:List (List UInt8)}{d:Int}(h:kh wt (x::r) d=true): tk wt x≠none/\0<=d+ds x/\kh wt r (d+ds x)=true:=by
 simp only[kh] at h;split at h
 .cases h
 .rename_i b;exact⟨λe=>b (Or.inl e),by omega,h⟩
theorem C4{r:List (List UInt8)}{d:Int}(h1:tk wt x≠none)(h2:0<=d+ds x)(h:kh wt r (d+ds x)=true): kh wt (x::r) d=true:=by
 simp only[kh];rw[cd (by intro b;rcases b with b|b;exact h1 b;omega)];exact h
theorem vW:∀(R:List (List UInt8)) (d:Int),kh false R d=true->kh true R d=true:=by
 intro R
 induction R with
 |nil=>intro d h;exact h
 |cons x r j =>
  intro d h;obtain⟨l,u,y⟩:=kW h;refine C4 ?_ u (j _ y);cases b:tk false x with
  |none=>exact absurd b l
  |some p=>rw[F7 (n:=p.1) (m:=p.2) (by rw[b])];exact λe=>by cases e
theorem xP:∀(R:List (List UInt8)) (d:Int),0<=d->kh true R (d+1)=true->
  ∃b l,R=b++[93]::l/\kh true b d=true/\kh true l 0=true/\∀k T,Ao (R++T) k (d+1)=some (k+b.length):=by
 intro R
 induction R with
 |nil =>
  intro d hd h;simp only[kh,decide_eq_true_eq] at h;omega
 |cons y r B =>
  intro d hd h;obtain⟨C,H,m⟩:=kW h;by_cases j:d+1+ds y=0
  .have D:y=[93]:=by
    have I:=A9 y;by_cases z:y=[91]
    .subst z;simp[ds] at j;omega
    .by_cases A:y=[93]
     .exact A
     .rw[n7 z A] at j;omega
   have u:d=0:=by have:=A9 y;omega
   subst D u;refine⟨[],r,rfl,rfl,by rw[j] at m;exact m,λk T=>?_⟩;simp only[mf,Ao];rw[cg j];rfl
  .obtain⟨b,l,e,E,F,G⟩:=B (d+ds y) (by omega) (by rw[show d+ds y+1=d+1+ds y by omega];exact m);refine⟨y::b,l,by rw[e];rfl,C4 C (by omega) E,F,λk T=>?_⟩;simp only[mf,Ao];rw[cd j,show d+1+ds y=d+ds y+1 by omega,G (k+1) T];simp only[cD]
   congr 1;omega
theorem DO(L:List (List UInt8))(f a h:Nat):wO L f a a h=some h:=by
 cases f with
 |zero=>simp[wO]
 |succ f=>rw[wO,cg TG]
theorem zL(L:List (List UInt8)):∀(N:Nat) (S T:List (List UInt8)) (a h:Nat) (u:List Nat),S.length<=N->L.drop a=S++T->a+S.length<=L.length->kh true S 0=true->h<=16->
  eZ S h u=match wO L (L.length-a) a (a+S.length) h with
   |none=>none
   |some H=>some (H,u):=by
 intro N
 induction N with
 |zero =>
  intro S T a h u O D I P V;have:S=[]:=To (by omega);subst this;rw[Bb,ub,DO];rfl
 |succ N J =>
  intro S T a h u O D I P V;cases S with
  |nil=>rw[Bb,ub,DO];rfl
  |cons x r =>
   obtain⟨W,g,E⟩:=kW P;have y:a<L.length:=by simp only[cD] at I;omega
   have X:L.getD a []=x:=by
    rw[cL,cH y];have:=kp y;rw[D] at this;simp only[mf,Qv] at this;simp[this.1]
   have z:L.drop (a+1)=r++T:=by
    have:=kp y;rw[D] at this;simp only[mf,Qv] at this;exact this.2.symm
   have B:L.length-a=(L.length-(a+1))+1:=by omega
   simp only[cD] at I O ⊢;rw[B,wO,cd (by omega),X];by_cases F:x=[91]
   .subst F;have K:tk true [91]=some (1,0):=by decide
    rw[K];simp only;have l:ds [91]=1:=by decide
    rw[l] at E;obtain⟨b,j,G,k,q,i⟩:=xP r 0 (Int.le_refl _) (by simpa using E);have C:Ao (L.drop a) a 0=some (a+1+b.length):=by
     rw[D];simp only[mf,Ao,l];rw[cd (by omega)];exact i (a+1) T
    rw[FA];by_cases Q:h=0
    .rw[cg Q,cg (by omega)]
    .rw[cd Q,cd (by omega),cg trivial,C];simp only;have f:r.length=b.length+(j.length+1):=by rw[G];simp
     have t:=J b ([93]::j++T) (a+1) (h-1) (u++[h-1]) (by omega) (by rw[z,G];simp) (by omega) k (by omega);have M:L.drop (a+1+b.length+1)=j++T:=by
      rw[Nat.add_assoc (a+1),<-List.drop_drop,z,G];rw[show b++[93]::j++T=(b++[[93]])++(j++T) by simp];exact List.drop_left' (by simp)
     have s:=J j T (a+1+b.length+1) (h-1) u (by omega) M (by omega) q (by omega);rw[G,ld,t];have eb:a+(b++[93]::j).length+1=a+1+b.length+1+j.length:=by simp;omega
     have o:L.length-(a+1)-(a+1+b.length-a)=L.length-(a+1+b.length+1):=by omega
     simp only[ub];cases hg:wO L (L.length-(a+1)) (a+1) (a+1+b.length) (h-1) with
     |none=>simp only;rw[cd (by intro e;cases e)]
     |some H =>
      simp only;rw[E6];by_cases A:H=h-1
      .subst A;rw[cg rfl,cg rfl,s,o];have:a+((b++[93]::j).length+1)=a+1+b.length+1+j.length:=by simp;omega
       rw[this]
      .rw[cd A,cd (by intro e;injection e with e;exact A e)]
   .have R:x≠[93]:=by
     rintro rfl;have:ds [93] = -1:=by decide
     omega
    have l:=n7 F R;rw[l] at E;cases U:tk true x with
    |none=>exact absurd U W
    |some p =>
     obtain⟨n,m⟩:=p;simp only[eZ,dst];rw[cd F,cd R,U];simp only;by_cases A:n<=h/\h-n+m<=16
     .rw[cg A,cd (by omega),cd F];simp only;have:=J r T (a+1) (h-n+m) u (by omega) z (by omega) (by simpa using E) (by omega);rw[this,show a+1+r.length=a+(r.length+1) by omega]
     .rw[cd A,cg (by omega)]
def keeps(C:List (List UInt8)):Bool:=decide (wO C C.length 0 C.length 0=some 1)
theorem uM{C:List (List UInt8)}(l:kh true C 0=true):(keeps C=true/\eZ C 0 []=some (1,[]))\/(keeps C=false/\(eZ C 0 []=none\/∃h,h≠1/\eZ C 0 []=some (h,[]))):=by
 have h:=zL C C.length C [] 0 0 [] TG (by simp) (by omega) l (by omega);rw[Nat.sub_zero,eW] at h;unfold keeps;cases b:wO C C.length 0 C.length 0 with
 |none=>rw[b] at h;exact Or.inr ⟨by decide,Or.inl h⟩
 |some j =>
  rw[b] at h;by_cases e:j=1
  .subst e;exact Or.inl ⟨by decide,h⟩
  .exact Or.inr ⟨df (λm=>e (by injection m)),Or.inr ⟨j,e,h⟩⟩
def Qx:List (Nat × Nat):=[(0,1),(0,1),(0,1),(0,1),(0,1),(0,1),(0,1),(0,1),(0,1),(2,1),(2,1),(2,1),(2,1),(2,1),(2,1),(2,1),(2,1),(2,1),(1,2),(1,0),(2,2),(2,3),(3,1),(1,0),(0,0)]
theorem yX{n:Int}(h:number x=some n): tk wt x=some (0,1):=by
 unfold tk;rw[cg (Or.inl (by rw[h];rfl))]
theorem Ec:∀k,k<25->tk true (yn[k]!)=some (Qx[k]!):=by decide
theorem zO:∀k,k<25->tk false (yn[k]!)=if k=8 then none else some (Qx[k]!):=by decide
theorem DI(h:number x=none)(l:∀k,k<25->yn[k]!≠x): tk wt x=none:=by
 have e:∀y∈yn,y≠x:=by
  intro y b;obtain⟨k,m,rfl⟩:=oM.1 b;have r:yn.length=25:=rfl;have:=l k (by omega);rwa [getElem!_pos yn k m] at this
 have u:x∉jH:=λj=>e x ((by decide:∀y∈jH,y∈yn) x j) rfl
 have z:x∉oy:=λj=>e x ((by decide:∀y∈oy,y∈yn) x j) rfl
 have f:∀y,y∈yn->x≠y:=λy b A=>e y b A.symm
 unfold tk;rw[cd (by rintro(hc|hc|hc);(rw[h] at hc;cases hc);exact u hc;exact f _ (by decide) hc.2),cd z,cd (f _ (by decide)),cd (f _ (by decide)),cd (f _ (by decide)),cd (f _ (by decide)),cd (f _ (by decide)),cd (f _ (by decide)),cd (f _ (by decide))]
end Sp
section
open Go.RowKit
section
variable {P : Program}
theorem ti(w:TJ)(base:Nat)(t Q e:TypeId)(i:TypeInfo)(z:TK)(size y:Nat)(ht:P.underlying t=some (.slice e))(hi:P.info? e=some i)(k:i.zero=some z)(B:i.size=size)(R:i.bytes=y)(x:z.cells.size=size)(q:0<size)(v:TK)(n:Nat)(M:List TK)(r:w.ownsRow base e size v n M)(a:Addr)(m c:Nat)(hm:0<m)(news:List TK)(S:news.length=m*size)(b:∀j u,news[j]?=some u->w.cell? (a.add j)=some u)(h1:∀u∈news,u.oneCell'=true)(E:n+m<=maxLen)(l:(n+m)*y<=140737488355328)(F:base<=w.heap.size):∃N O,(Builtin.append_ #[t,t] Q #[v,.slice (some a) m c]).run P w=.ok N O/\O.ownsRow base e size N (n+m) (M++news)/\w.grownBy O v.ownBlock/\
   (N.ownBlock=v.ownBlock\/N.ownBlock=some w.heap.size)/\
   (∀(T:Nat) (u:TK) (G:Nat) (U:List TK),G<=n->u.ownBlock=v.ownBlock->w.ownsRow T e size u G U->O.ownsRow T e size u G U):=by
 obtain⟨N,O,H,ho,hg,_⟩:=run_append_own (P:=P) w base t Q e i z size y ht hi k B R x q v n M r a m c news S b h1 E l F;refine⟨N,O,H,ho,hg,?_⟩;subst B;subst R;rcases r.2 with ⟨rfl,rfl⟩|⟨g,I,J,rfl,ae,K,af,ag,f,s⟩
 .have hx:M=[]:=To (by simpa using r.1);subst hx;have C:=run_append_nil (P:=P) w t Q e i z ht hi k a m c news S b (by omega) (by simp only[maxLen] at E;omega) (by have hb:=l;simp only[eW] at hb;omega);rw[C] at H;injection H with e1 e2;subst e1 e2;refine⟨.inr rfl,λT u G U L hu h=>cW h ?_⟩;exact TH.drew.alloc TG _
 .by_cases D:n+m<=I
  .have V:n*i.size+news.length<=J.size:=by rw[S,f,<-Nat.add_mul];exact Tj _ D
   have C:=run_append_room (P:=P) w t Q e i ht hi g n I J K a m c news S b h1 D V;rw[C] at H;injection H with e1 e2;subst e1 e2;refine⟨.inl rfl,λT u G U L hu h=>?_⟩;obtain⟨k1,p⟩:=h;refine⟨k1,?_⟩;rcases p with p|⟨o,W,ad,rfl,aa,A,q1,q2,q3,q4⟩
   .exact .inl p
   .have X:o=g:=by simpa [Value.ownBlock] using hu
    subst X;rw[K] at A;injection A with A;injection A with A;subst A;have ab:G*i.size<=n*i.size:=Tj _ L;refine .inr ⟨o,W,_,rfl,aa,sT w o J _ e _ K,q1,q2,?_,?_⟩
    .simp only[GK,lN,A3,uT,zh];omega
    .rw[<-q4];simp only[mR];rw[zs (by simp;omega),DB,QD ab]
  .have holds:∀j u,M[j]?=some u->w.cell? ((⟨g,0,none⟩:Addr).add j)=some u:=r.cells (g:=g) rfl;have C:=run_append_grow (P:=P) w t Q e i z ht hi k ⟨g,0,none⟩ n I M r.1 holds a m c news S b (by omega) (by simp only[maxLen] at E;omega) (growslice_fits (by omega) l);rw[C] at H;injection H with e1 e2;subst e1 e2;refine⟨.inr rfl,λT u G U L hu h=>cW h ?_⟩;exact TH.drew.alloc TG _
theorem eR(w:TJ){D:Array Oper}{rest:List Oper}{o:Oper}{a:Act}{Q:Exit->Act->TJ->Prop}(F:o.guard=none)(s x:Operand)(t:TypeId)(R:o.op=.call { callee := .builtin .append,args := #[s,x],argTypes := #[t,t] })(base:Nat)(e:TypeId)(i:TypeInfo)(z:TK)(size b:Nat)(ht:P.underlying t=some (.slice e))(hi:P.info? e=some i)(S:i.zero=some z)(r:i.size=size)(G:i.bytes=b)(H:z.cells.size=size)(I:0<size)(v:TK)(n:Nat)(J:List TK)(T:a.eval s=v)(E:w.ownsRow base e size v n J)(K:Addr)(m c:Nat)(U:0<m)(news:List TK)(V:a.eval x=.slice (some K) m c)(W:news.length=m*size)(y:∀j u,news[j]?=some u->w.cell? (K.add j)=some u)(h1:∀u∈news,u.oneCell'=true)(L:n+m<=maxLen)(l:(n+m)*b<=140737488355328)(A:base<=w.heap.size)(h:∀B C,C.ownsRow base e size B (n+m) (J++news)->w.grownBy C v.ownBlock->(B.ownBlock=v.ownBlock\/B.ownBlock=some w.heap.size)-> (∀(N:Nat) (u:TK) (M:Nat) (O:List TK),M<=n->u.ownBlock=v.ownBlock->w.ownsRow N e size u M O->C.ownsRow N e size u M O)->wpList P D Q rest (a.put o.dst B) C):wpList P D Q (o::rest) a w:=wpList_plain F λ_ X=>by
  obtain⟨B,C,k,q,f,p,g⟩:=ti (P:=P) w base t o.type e i z size b ht hi S r G H I v n J E K m c U news W y h1 L l A;unfold Oper.wp execOp;simp only[R,resolve,invoke,builtin,Sem.run_bind,Sem.run_pure,Result.andThen_ok,List.map_toArray,wj,List.map_nil,T,V,k];exact X _ _ (h B C q f p g)
end
end
end Go.Proofs.YtgkkdpegcieakaaGreatDoor
