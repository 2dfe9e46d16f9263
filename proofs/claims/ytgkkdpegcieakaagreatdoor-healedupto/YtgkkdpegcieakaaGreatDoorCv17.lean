import Derived.Test.YtgkkdpegcieakaaGreatDoorCv12
set_option linter.all false
set_option maxRecDepth 100000
set_option maxHeartbeats 0
namespace Go.Proofs.YtgkkdpegcieakaaGreatDoor
open Go.Proofs.Tryz
open Value renaming int→Z
open Obj renaming cells→D
open Option renaming none→U,some→S
open IntKind renaming i64→Y
open Go renaming World→V5,Value→V6,Calls→V7
open Go.RowKit
def sX(Q:Exit->Act->V5->Prop):Exit->Act->V5->Prop
 |.panic _,_,_=>False
 |.normal,a,w=>Q .normal a w
 |.ret,a,w=>Q .ret a w
 |.exit n,a,w=>Q (.exit n) a w
 |.goto n,a,w=>Q (.goto n) a w
 |.outgrown,a,w=>Q .outgrown a w
theorem ln{Q:Exit->Act->V5->Prop}:∀e a w,sX Q e a w->Q e a w:=λe a w h=>by
 cases e <;> first|exact h|exact h.elim
theorem vk{P:Program}{c:Code}{Q:Exit->Act->V5->Prop}{a:Act}{w:V5}(R:V5->Prop)(h:∃A,c.wp P (sX λx j b=>x=.normal/\j=A/\R b) a w/\∀b,R b->Q .normal A b):c.wp P Q a w:=by
 obtain⟨A,l,m⟩:=h;refine Code.wp_mono (λe a w h=>?_) l;obtain⟨rfl,rfl,r⟩:=ln _ _ _ h;exact m _ r
theorem info_bool:(prog.info? 4).map (λi=>(i.zero,i.size,i.bytes))=S (S (.bool false),1,1):=by kernel_rfl
def vN(a b:V6):Prop:=a.ownBlock=U\/a.ownBlock≠b.ownBlock
theorem vN.symm{a b:V6}(h:vN a b):vN b a:=by
 rcases h with h|h
 .cases hb:b.ownBlock with
  |none=>exact Or.inl hb
  |some g=>exact Or.inr (by rw[hb,h];intro e;cases e)
 .exact Or.inr (λe=>h e.symm)
theorem vN.grown{w:V5}{B e size n g k cap:Nat}{a b:V6}{m:List V6}(h:vN a b)(hb:w.ownsRow B e size b n m)(j:a.ownBlock=S g\/g=w.heap.size):vN (.slice (S ⟨g,0,U⟩) k cap) b:=by
 refine Or.inr (λr=>?_);have l:S g=b.ownBlock:=r;rcases j with j|j
 .rcases h with h|h
  .rw[h] at j;cases j
  .exact h (j.trans l)
 .have:=(hb.lt g l.symm).2;omega
theorem uM{P:Program}{c:Code}{Q:Exit->Act->V5->Prop}{a:Act}{w:V5}(R:V6->V5->Prop)(h:∃A:V6->Act,c.wp P (sX λx j b=>x=.normal/\∃v,j=A v/\R v b) a w/\∀v b,R v b->Q .normal (A v) b):c.wp P Q a w:=by
 obtain⟨A,l,m⟩:=h;refine Code.wp_mono (λe a w h=>?_) l;obtain⟨rfl,v,rfl,r⟩:=ln _ _ _ h;exact m _ _ r
section
namespace Sp
def gy(cap:Nat)(c:Cfg)(step:Nat):Int:=if quiet c step=true then 1 else if cap<=step then 2 else 0
end Sp
end
section
namespace Sp
theorem qh(f:Nat->Int)(n i:Nat)(v:Int):((List.range n).map f).set i v=(List.range n).map (λj=>if j=i then v else f j):=by
 apply List.ext_getElem?;intro j;by_cases b:j<n
 .by_cases e:i=j
  .subst e;rw[VT (by simpa using b)];simp[b]
  .rw[Vo e];simp[b,UC e]
 .rw[VI (by simp;omega),VI (by simp;omega)]
theorem oh{f g:Nat->Int}{n:Nat}(h:∀q,q<n->f q=g q):(List.range n).map f=(List.range n).map g:=by
 apply VJ;intro q b;exact h q (Va.1 b)
theorem jP(f:Nat->Int){n i:Nat}(h:i<n):((List.range n).map f).getD i 0=f i:=by
 rw[Ty];simp[h]
theorem Hn{α : Type}(A B:List α)(x : α)(e:B≠[]):(A++B).set A.length x=A++[x]++B.tail:=by
 rw[VW _ _ V2,Nat.sub_self];cases B with
 |nil=>exact absurd rfl e
 |cons b r=>simp
end Sp
end
section
theorem jj(w:V5)(a b c:Array V6)(y l m:TypeId):∀W,W=((w.alloc (D a y)).alloc (D b l)).alloc (D c m)->W.heap[w.heap.size]?=S (D a y (0,0))/\W.heap[w.heap.size+1]?=S (D b l (0,0))/\W.heap[w.heap.size+1+1]?=S (D c m (0,0))/\V4 w W/\W.heap.size=w.heap.size+1+1+1:=by
 rintro W rfl;have z:=TK w (D a y);generalize B:w.alloc _=A at *;have G:A.heap[w.heap.size]?=S (D a y (0,0)):=by rw[<-B];exact Tk w _
 have r:V4 w A:=by rw[<-B];exact V3.alloc V2 _
 have I:=TK A (D b l);have C:=Tk A (D b l);have u:V4 A (A.alloc (D b l)):=V3.alloc V2 _;generalize A.alloc _=j at *;have K:=TK j (D c m);have F:=Tk j (D c m);have e:V4 j (j.alloc (D c m)):=V3.alloc V2 _;generalize j.alloc _=L at *;rw[z] at C;rw[I,z] at F;exact⟨(e.block _ (by omega)).trans ((u.block _ (by omega)).trans G),(e.block _ (by omega)).trans C,F,(r.trans (u.mono r.size)).trans (e.mono (by omega)),by omega⟩
theorem Ji{w:V5}{B e size m n j:Nat}{p:Option Addr}{l:List V6}(h:w.ownsRow B e size (.slice p n j) m l)(r:m=n)(u:0<n):∃g,p=S ⟨g,0,U⟩/\B<=g/\g<w.heap.size:=by
 subst r;obtain⟨g,y,b,z,A⟩:=h.form u;injection b with b _ _;exact⟨g,b,z,A⟩
namespace Sp
theorem Nk{P:Pg}{Es:List Ed}{c:Cfg}{step i:Nat}:∀(d k:Nat),lK P Es c step k=.error i->lK P Es c step (k+d)=.error i:=by
 intro d
 induction d with
 |zero=>intro k h;exact h
 |succ d b=>intro k h;rw[<-Nat.add_assoc,lK,b k h]
theorem KN{P:Pg}{Es:List Ed}{c:Cfg}{step k:Nat}{a:Acc}(h:lK P Es c step k=.ok a)(b:mh c k step=false):lK P Es c step (k+1)=.ok ⟨a.val++[c.val.getD k 0],a.fD++[c.fD.getD k false],a.all,a.dZ⟩:=by
 rw[lK,h];simp only[b];rfl
theorem Nr{P:Pg}{Es:List Ed}{c:Cfg}{step k:Nat}{a:Acc}(h:lK P Es c step k=.ok a)(b:mh c k step=true)(ht:qJ P Es c k step=U):lK P Es c step (k+1)=.error k:=by
 rw[lK,h];simp only[b,ht,TY]
theorem Ic{P:Pg}{Es:List Ed}{c:Cfg}{step k:Nat}{a:Acc}{t:Tn}(h:lK P Es c step k=.ok a)(b:mh c k step=true)(ht:qJ P Es c k step=S t):lK P Es c step (k+1)=.ok ⟨a.val++[t.value],a.fD++[t.gx],jq P.al a.all t.lE,a.dZ++t.dZ⟩:=by
 rw[lK,h];simp only[b,ht,TY]
end Sp
def j9(W:V5)(R:Nat)(a b c d:V6):V5:=(((W.setCell ⟨R,0,U⟩ a).setCell ⟨R,1,U⟩ b).setCell ⟨R,2,U⟩ c).setCell ⟨R,3,U⟩ d
theorem xA{w:V5}{R:Nat}{a b c d:V6}{t:Nat}(h:w.heap[R]?=S (D #[a,b,c,d] t (0,0)))(e j l m:V6):(j9 w R e j l m).heap[R]?=S (D #[e,j,l,m] t (0,0)):=by
 have r:=fa (i:=3) (fa (i:=2) (fa (i:=1) (fa (i:=0) h e) j) l) m;unfold j9;simpa using r
theorem BE{W:V5}{R:Nat}{C:Array V6}{t:TypeId}(h:W.heap[R]?=S (D C t (0,0)))(o:Obj)(i:Nat):(W.alloc o).cell? ⟨R,i,U⟩=C[i]?:=by
 rw[World.cell?_alloc_lt W o ⟨R,i,U⟩ (Ts.1 h).1];exact Ti W R i C t (0,0) h
end
end Go.Proofs.YtgkkdpegcieakaaGreatDoor
