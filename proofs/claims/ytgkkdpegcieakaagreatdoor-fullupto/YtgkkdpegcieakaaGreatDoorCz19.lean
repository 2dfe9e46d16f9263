import Derived.Test.YtgkkdpegcieakaaGreatDoorCz14
set_option linter.unusedVariables false
set_option linter.unusedSimpArgs false
set_option maxRecDepth 100000
set_option maxHeartbeats 16000000
namespace Go.Proofs.YtgkkdpegcieakaaGreatDoor
open Go.Proofs.Tryz
open Value renaming int→Z
open IntKind renaming i64→Y
open Go renaming World→TJ,Value→TK,Calls→TL
section
open Go.RowKit
def td(Q:Exit->Act->TJ->Prop):Exit->Act->TJ->Prop
 |.panic _,_,_=>False
 |.normal,a,w=>Q .normal a w
 |.ret,a,w=>Q .ret a w
 |.exit n,a,w=>Q (.exit n) a w
 |.goto n,a,w=>Q (.goto n) a w
 |.outgrown,a,w=>Q .outgrown a w
theorem lA{Q:Exit->Act->TJ->Prop}:∀e a w,td Q e a w->Q e a w:=λe a w h=>by
 cases e <;> first|exact h|exact h.elim
theorem vj{P:Program}{c:Code}{Q:Exit->Act->TJ->Prop}{a:Act}{w:TJ}(R:TJ->Prop)(h:∃A,c.wp P (td λx j b=>x=.normal/\j=A/\R b) a w/\∀b,R b->Q .normal A b):c.wp P Q a w:=by
 obtain⟨A,l,m⟩:=h;refine Code.wp_mono (λe a w h=>?_) l;obtain⟨rfl,rfl,r⟩:=lA _ _ _ h;exact m _ r
end
section
open Go.RowKit
def uH(a b:TK):Prop:=a.ownBlock=none\/a.ownBlock≠b.ownBlock
theorem uH.symm{a b:TK}(h:uH a b):uH b a:=by
 rcases h with h|h
 .cases hb:b.ownBlock with
  |none=>exact Or.inl hb
  |some g=>exact Or.inr (by rw[hb,h];intro e;cases e)
 .exact Or.inr (λe=>h e.symm)
theorem uH.grown{w:TJ}{B e size n g k cap:Nat}{a b:TK}{m:List TK}(h:uH a b)(hb:w.ownsRow B e size b n m)(j:a.ownBlock=some g\/g=w.heap.size):uH (.slice (some ⟨g,0,none⟩) k cap) b:=by
 refine Or.inr (λr=>?_);have l:some g=b.ownBlock:=r;rcases j with j|j
 .rcases h with h|h
  .rw[h] at j;cases j
  .exact h (j.trans l)
 .have:=(hb.lt g l.symm).2;omega
end
section
open Go.RowKit
theorem uy{P:Program}{c:Code}{Q:Exit->Act->TJ->Prop}{a:Act}{w:TJ}(R:TK->TJ->Prop)(h:∃A:TK->Act,c.wp P (td λx j b=>x=.normal/\∃v,j=A v/\R v b) a w/\∀v b,R v b->Q .normal (A v) b):c.wp P Q a w:=by
 obtain⟨A,l,m⟩:=h;refine Code.wp_mono (λe a w h=>?_) l;obtain⟨rfl,v,rfl,r⟩:=lA _ _ _ h;exact m _ _ r
end
section
open Go.RowKit
namespace Sp
def gu(cap:Nat)(c:Cfg)(step:Nat):Int:=if quiet c step=true then 1 else if cap<=step then 2 else 0
end Sp
end
section
open Go.RowKit
namespace Sp
theorem pX(f:Nat->Int)(n i:Nat)(v:Int):((List.range n).map f).set i v=(List.range n).map (λj=>if j=i then v else f j):=by
 apply List.ext_getElem?;intro j;by_cases b:j<n
 .by_cases e:i=j
  .subst e;rw[TB (by simpa using b)];simp[b]
  .rw[RI e];simp[b,Ne.symm e]
 .rw[Tu (by simp;omega),Tu (by simp;omega)]
theorem oh{f g:Nat->Int}{n:Nat}(h:∀q,q<n->f q=g q):(List.range n).map f=(List.range n).map g:=by
 apply Tm;intro q b;exact h q (KH.1 b)
theorem jI(f:Nat->Int){n i:Nat}(h:i<n):((List.range n).map f).getD i 0=f i:=by
 rw[cL];simp[h]
theorem FQ{α : Type}(A B:List α)(x : α)(e:B≠[]):(A++B).set A.length x=A++[x]++B.tail:=by
 rw[TA _ _ TG,Nat.sub_self];cases B with
 |nil=>exact absurd rfl e
 |cons b r=>simp
end Sp
end
section
open Go.RowKit
theorem jy(w:TJ)(a b c:Array TK)(y l m:TypeId):∀W,W=((w.alloc (.cells a y)).alloc (.cells b l)).alloc (.cells c m)->W.heap[w.heap.size]?=some (.cells a y (0,0))/\W.heap[w.heap.size+1]?=some (.cells b l (0,0))/\W.heap[w.heap.size+1+1]?=some (.cells c m (0,0))/\TI w W/\W.heap.size=w.heap.size+1+1+1:=by
 rintro W rfl;have z:=ee w (.cells a y);generalize B:w.alloc _=A at *;have E:A.heap[w.heap.size]?=some (.cells a y (0,0)):=by rw[<-B];exact ct w _
 have r:TI w A:=by rw[<-B];exact TH.alloc TG _
 have F:=ee A (.cells b l);have C:=ct A (.cells b l);have u:TI A (A.alloc (.cells b l)):=TH.alloc TG _;generalize A.alloc _=j at *;have G:=ee j (.cells c m);have D:=ct j (.cells c m);have e:TI j (j.alloc (.cells c m)):=TH.alloc TG _;generalize j.alloc _=H at *;rw[z] at C;rw[F,z] at D;exact⟨(e.block _ (by omega)).trans ((u.block _ (by omega)).trans E),(e.block _ (by omega)).trans C,D,(r.trans (u.mono r.size)).trans (e.mono (by omega)),by omega⟩
theorem IA{w:TJ}{B e size m n j:Nat}{p:Option Addr}{l:List TK}(h:w.ownsRow B e size (.slice p n j) m l)(r:m=n)(u:0<n):∃g,p=some ⟨g,0,none⟩/\B<=g/\g<w.heap.size:=by
 subst r;obtain⟨g,y,b,z,A⟩:=h.form u;injection b with b _ _;exact⟨g,b,z,A⟩
namespace Sp
theorem Ma{P:Pg}{Es:List Ed}{c:Cfg}{step i:Nat}:∀(d k:Nat),lK P Es c step k=.error i->lK P Es c step (k+d)=.error i:=by
 intro d
 induction d with
 |zero=>intro k h;exact h
 |succ d b=>intro k h;rw[<-Nat.add_assoc,lK,b k h]
theorem SE{P:Pg}{Es:List Ed}{c:Cfg}{step k:Nat}{a:Acc}(h:lK P Es c step k=.ok a)(b:mO c k step=false):lK P Es c step (k+1)=.ok ⟨a.val++[c.val.getD k 0],a.fC++[c.fC.getD k false],a.all,a.dy⟩:=by
 rw[lK,h];simp only[b];rfl
theorem Kt{P:Pg}{Es:List Ed}{c:Cfg}{step k:Nat}{a:Acc}(h:lK P Es c step k=.ok a)(b:mO c k step=true)(ht:qA P Es c k step=none):lK P Es c step (k+1)=.error k:=by
 rw[lK,h];simp only[b,ht,l9]
theorem J7{P:Pg}{Es:List Ed}{c:Cfg}{step k:Nat}{a:Acc}{t:Tn}(h:lK P Es c step k=.ok a)(b:mO c k step=true)(ht:qA P Es c k step=some t):lK P Es c step (k+1)=.ok ⟨a.val++[t.value],a.fC++[t.gx],jn P.al a.all t.lI,a.dy++t.dy⟩:=by
 rw[lK,h];simp only[b,ht,l9]
end Sp
def j6(W:TJ)(R:Nat)(a b c d:TK):TJ:=(((W.setCell ⟨R,0,none⟩ a).setCell ⟨R,1,none⟩ b).setCell ⟨R,2,none⟩ c).setCell ⟨R,3,none⟩ d
theorem xE{w:TJ}{R:Nat}{a b c d:TK}{t:Nat}(h:w.heap[R]?=some (.cells #[a,b,c,d] t (0,0)))(e j l m:TK):(j6 w R e j l m).heap[R]?=some (.cells #[e,j,l,m] t (0,0)):=by
 have r:=eJ (i:=3) (eJ (i:=2) (eJ (i:=1) (eJ (i:=0) h e) j) l) m;unfold j6;simpa using r
theorem AN{W:TJ}{R:Nat}{C:Array TK}{t:TypeId}(h:W.heap[R]?=some (.cells C t (0,0)))(o:Obj)(i:Nat):(W.alloc o).cell? ⟨R,i,none⟩=C[i]?:=by
 rw[World.cell?_alloc_lt W o ⟨R,i,none⟩ (cB.1 h).1];exact cn W R i C t (0,0) h
end
end Go.Proofs.YtgkkdpegcieakaaGreatDoor
