import Derived.Test.YtgkkdpegcieakaaGreatDoorCw14
set_option linter.all false
set_option maxRecDepth 100000
set_option maxHeartbeats 16000000
namespace Go.Proofs.YtgkkdpegcieakaaGreatDoor
open Go.Proofs.Tryz
open Value renaming int→Z
open Obj renaming cells→D
open Option renaming none→U,some→S
open IntKind renaming i64→Y
open Go renaming World→WR,Value→WS,Calls→WT
open Go.RowKit
section
def sY(Q:Exit->Act->WR->Prop):Exit->Act->WR->Prop
 |.panic _,_,_=>False
 |.normal,a,w=>Q .normal a w
 |.ret,a,w=>Q .ret a w
 |.exit n,a,w=>Q (.exit n) a w
 |.goto n,a,w=>Q (.goto n) a w
 |.outgrown,a,w=>Q .outgrown a w
theorem kX{Q:Exit->Act->WR->Prop}:∀e a w,sY Q e a w->Q e a w:=λe a w h=>by
 cases e <;> first|exact h|exact h.elim
theorem wB{P:Program}{c:Code}{Q:Exit->Act->WR->Prop}{a:Act}{w:WR}(R:WR->Prop)(h:∃A,c.wp P (sY λx j b=>x=.normal/\j=A/\R b) a w/\∀b,R b->Q .normal A b):c.wp P Q a w:=by
 obtain⟨A,l,m⟩:=h;refine Code.wp_mono (λe a w h=>?_) l;obtain⟨rfl,rfl,r⟩:=kX _ _ _ h;exact m _ r
end
section
theorem info_bool:(prog.info? 4).map (λi=>(i.zero,i.size,i.bytes))=S (S (.bool false),1,1):=by kernel_rfl
def vH(a b:WS):Prop:=a.ownBlock=U\/a.ownBlock≠b.ownBlock
theorem vH.symm{a b:WS}(h:vH a b):vH b a:=by
 rcases h with h|h
 .cases hb:b.ownBlock with
  |none=>exact Or.inl hb
  |some g=>exact Or.inr (by rw[hb,h];intro e;cases e)
 .exact Or.inr (λe=>h e.symm)
theorem vH.grown{w:WR}{B e size n g k cap:Nat}{a b:WS}{m:List WS}(h:vH a b)(hb:w.ownsRow B e size b n m)(j:a.ownBlock=S g\/g=w.heap.size):vH (.slice (S ⟨g,0,U⟩) k cap) b:=by
 refine Or.inr (λr=>?_);have l:S g=b.ownBlock:=r;rcases j with j|j
 .rcases h with h|h
  .rw[h] at j;cases j
  .exact h (j.trans l)
 .have:=(hb.lt g l.symm).2;omega
end
section
theorem vd{P:Program}{c:Code}{Q:Exit->Act->WR->Prop}{a:Act}{w:WR}(R:WS->WR->Prop)(h:∃A:WS->Act,c.wp P (sY λx j b=>x=.normal/\∃v,j=A v/\R v b) a w/\∀v b,R v b->Q .normal (A v) b):c.wp P Q a w:=by
 obtain⟨A,l,m⟩:=h;refine Code.wp_mono (λe a w h=>?_) l;obtain⟨rfl,v,rfl,r⟩:=kX _ _ _ h;exact m _ _ r
end
section
namespace Sp
def gA(cap:Nat)(c:Cfg)(step:Nat):Int:=if quiet c step=true then 1 else if cap<=step then 2 else 0
end Sp
end
section
namespace Sp
theorem p9(f:Nat->Int)(n i:Nat)(v:Int):((List.range n).map f).set i v=(List.range n).map (λj=>if j=i then v else f j):=by
 apply List.ext_getElem?;intro j;by_cases b:j<n
 .by_cases e:i=j
  .subst e;rw[WE (by simpa using b)];simp[b]
  .rw[V7 e];simp[b,Vm e]
 .rw[Wr (by simp;omega),Wr (by simp;omega)]
theorem oh{f g:Nat->Int}{n:Nat}(h:∀q,q<n->f q=g q):(List.range n).map f=(List.range n).map g:=by
 apply Ws;intro q b;exact h q (VT.1 b)
theorem jT(f:Nat->Int){n i:Nat}(h:i<n):((List.range n).map f).getD i 0=f i:=by
 rw[Uo];simp[h]
theorem G8{α : Type}(A B:List α)(x : α)(e:B≠[]):(A++B).set A.length x=A++[x]++B.tail:=by
 rw[WI _ _ WN,Nat.sub_self];cases B with
 |nil=>exact absurd rfl e
 |cons b r=>simp
end Sp
end
section
theorem jj(w:WR)(a b c:Array WS)(y l m:TypeId):∀W,W=((w.alloc (D a y)).alloc (D b l)).alloc (D c m)->W.heap[w.heap.size]?=S (D a y (0,0))/\W.heap[w.heap.size+1]?=S (D b l (0,0))/\W.heap[w.heap.size+1+1]?=S (D c m (0,0))/\WQ w W/\W.heap.size=w.heap.size+1+1+1:=by
 rintro W rfl;have z:=Uv w (D a y);generalize B:w.alloc _=A at *;have G:A.heap[w.heap.size]?=S (D a y (0,0)):=by rw[<-B];exact T9 w _
 have r:WQ w A:=by rw[<-B];exact WO.alloc WN _
 have I:=Uv A (D b l);have C:=T9 A (D b l);have u:WQ A (A.alloc (D b l)):=WO.alloc WN _;generalize A.alloc _=j at *;have L:=Uv j (D c m);have F:=T9 j (D c m);have e:WQ j (j.alloc (D c m)):=WO.alloc WN _;generalize j.alloc _=M at *;rw[z] at C;rw[I,z] at F;exact⟨(e.block _ (by omega)).trans ((u.block _ (by omega)).trans G),(e.block _ (by omega)).trans C,F,(r.trans (u.mono r.size)).trans (e.mono (by omega)),by omega⟩
theorem Ma{w:WR}{B e size m n j:Nat}{p:Option Addr}{l:List WS}(h:w.ownsRow B e size (.slice p n j) m l)(r:m=n)(u:0<n):∃g,p=S ⟨g,0,U⟩/\B<=g/\g<w.heap.size:=by
 subst r;obtain⟨g,y,b,z,A⟩:=h.form u;injection b with b _ _;exact⟨g,b,z,A⟩
namespace Sp
theorem Ob{P:Pg}{Es:List Ed}{c:Cfg}{step i:Nat}:∀(d k:Nat),lI P Es c step k=.error i->lI P Es c step (k+d)=.error i:=by
 intro d
 induction d with
 |zero=>intro k h;exact h
 |succ d b=>intro k h;rw[<-Nat.add_assoc,lI,b k h]
theorem Lj{P:Pg}{Es:List Ed}{c:Cfg}{step k:Nat}{a:Acc}(h:lI P Es c step k=.ok a)(b:mA c k step=false):lI P Es c step (k+1)=.ok ⟨a.val++[c.val.getD k 0],a.fC++[c.fC.getD k false],a.all,a.dX⟩:=by
 rw[lI,h];simp only[b];rfl
theorem Ns{P:Pg}{Es:List Ed}{c:Cfg}{step k:Nat}{a:Acc}(h:lI P Es c step k=.ok a)(b:mA c k step=true)(ht:qJ P Es c k step=U):lI P Es c step (k+1)=.error k:=by
 rw[lI,h];simp only[b,ht,UL]
theorem KS{P:Pg}{Es:List Ed}{c:Cfg}{step k:Nat}{a:Acc}{t:Tn}(h:lI P Es c step k=.ok a)(b:mA c k step=true)(ht:qJ P Es c k step=S t):lI P Es c step (k+1)=.ok ⟨a.val++[t.value],a.fC++[t.gz],jt P.al a.all t.lG,a.dX++t.dX⟩:=by
 rw[lI,h];simp only[b,ht,UL]
end Sp
def j6(W:WR)(R:Nat)(a b c d:WS):WR:=(((W.setCell ⟨R,0,U⟩ a).setCell ⟨R,1,U⟩ b).setCell ⟨R,2,U⟩ c).setCell ⟨R,3,U⟩ d
theorem ym{w:WR}{R:Nat}{a b c d:WS}{t:Nat}(h:w.heap[R]?=S (D #[a,b,c,d] t (0,0)))(e j l m:WS):(j6 w R e j l m).heap[R]?=S (D #[e,j,l,m] t (0,0)):=by
 have r:=eZ (i:=3) (eZ (i:=2) (eZ (i:=1) (eZ (i:=0) h e) j) l) m;unfold j6;simpa using r
theorem AR{W:WR}{R:Nat}{C:Array WS}{t:TypeId}(h:W.heap[R]?=S (D C t (0,0)))(o:Obj)(i:Nat):(W.alloc o).cell? ⟨R,i,U⟩=C[i]?:=by
 rw[World.cell?_alloc_lt W o ⟨R,i,U⟩ (Ug.1 h).1];exact T5 W R i C t (0,0) h
end
end Go.Proofs.YtgkkdpegcieakaaGreatDoor
