import Derived.Test.YtgkkdpegcieakaaGreatDoorCw18
set_option linter.all false
set_option maxRecDepth 100000
set_option maxHeartbeats 16000000
namespace Go.Proofs.YtgkkdpegcieakaaGreatDoor
open Go.Proofs.Tryz
open Value renaming int→Z,slice→J,string→H,pointer→WV,bool→WW,tuple→WX
open Ending renaming returned→WZ
open Obj renaming cells→D
open Option renaming none→U,some→S
open Bool renaming true→W8,false→W9
open Or renaming inl→Xa,inr→Xb
open List renaming length→Xg
open IntKind renaming i64→Y
open Go renaming World→WR,Value→WS,Calls→WT
open Go.RowKit
namespace Pk
open Go.RowKit Go.Shelf
open Sd (Tb)
open Dk
attribute [local go_sem] Oper.semAt_some
theorem PO(L:List Ch):∀j (h:j<Xg L),(ib L)[j*3]?=S (H (L[j]).gone)/\(ib L)[j*3+1]?=S (H (L[j]).name)/\(ib L)[j*3+2]?=S (eV (L[j]).file):=by
 induction L with
 |nil=>intro j h;simp at h
 |cons p t b =>
  intro j h;have e:ib (p::t)=H p.gone::H p.name::eV p.file::ib t:=by simp[ib]
  rw[e];cases j with
  |zero=>simp
  |succ j =>
   have:=b j (by simpa using h);rw[show (j+1)*3=j*3+1+1+1 by omega];simpa using this
def mH(b:Sd.Tb->Ch->Sd.Tb)(T:Sd.Tb)(L:List Ch):Sd.Tb:=L.foldl b T
variable {T:Tb}
theorem Iz(h:Sd.di T): ∀L:List Ch,Sd.di (mH nK T L):=by
 intro L
 induction L generalizing T with
 |nil=>exact h
 |cons c L b=>exact b (uR h c)
theorem sH:∀(L:List Ch) (T:Tb),(mH nK T L).length<=Xg T+Xg L
 |[],T=>TY _
 |c::L,T=>by
  have b:=sH L (nK T c);have e:=NS T c;simp only[Uf]
  show (mH nK (nK T c) L).length<=_
  omega
theorem zy:∀(L:List Ch) (T:Tb) (p:WU × Nat),p∈mH nK T L->p∈T\/∃c,c∈L/\c.file=S p.2:=by
 intro L
 induction L with
 |nil=>intro T p h;exact Xa h
 |cons c t l =>
  intro T p h;rcases l (nK T c) p h with m|⟨r,b,e⟩
  .rcases FL m with j|j
   .exact Xa j
   .exact Xb ⟨c,UI ..,j⟩
  .exact Xb ⟨r,UZ _ b,e⟩
def nN(K:Nat->Int)(b:Nat × (Nat->Fl))(x:WU × Nat):Nat × (Nat->Fl):=(b.1+1,oq b.2 x.2 (iJ (b.2 x.2) (K b.1)))
def kU(K:Nat->Int)(F:Nat->Fl)(L:List (WU × Nat)):Nat × (Nat->Fl):=L.foldl (nN K) (0,F)
theorem C4(K:Nat->Int)(F:Nat->Fl)(L:List (WU × Nat))(x:WU × Nat):kU K F (L++[x])=nN K (kU K F L) x:=by
 unfold kU;rw[Wj];rfl
theorem Pt(K:Nat->Int)(L:List (WU × Nat)):∀b,(L.foldl (nN K) b).1=b.1+Xg L:=by
 induction L with
 |nil=>intro b;rfl
 |cons x t e=>intro b;rw[Wm,e,Uf];show b.1+1+Xg t=_;omega
theorem Ho(K:Nat->Int)(F:Nat->Fl)(L:List (WU × Nat)):(kU K F L).1=Xg L:=by
 unfold kU;rw[Pt];show 0+Xg L=_;omega
theorem Nq(K:Nat->Int)(L:List (WU × Nat)):∀b:Nat × (Nat->Fl),(∀f,(b.2 f).safe<=(b.2 f).bytes.size)->∀f,((L.foldl (nN K) b).2 f).safe<=((L.foldl (nN K) b).2 f).bytes.size:=by
 induction L with
 |nil=>intro b h;exact h
 |cons x t j =>
  intro b h;refine j (nN K b x) (λf=>?_)
  show (oq b.2 x.2 (iJ (b.2 x.2) (K b.1)) f).safe<=(oq b.2 x.2 (iJ (b.2 x.2) (K b.1)) f).bytes.size
  by_cases e:f=x.2
  .rw[e,eE];exact Cz (h x.2) _
  .rw[ek _ _ e];exact h f
theorem uZ(K:Nat->Int)(F:Nat->Fl)(L:List (WU × Nat))(h:∀f,(F f).safe<=(F f).bytes.size):∀f,((kU K F L).2 f).safe<=((kU K F L).2 f).bytes.size:=Nq K L (0,F) h
def Fe(T:Tb)(f:Nat):Prop := ∃a,(a,f)∈T
theorem Lb(K:Nat->Int)(f:Nat)(L:List (WU × Nat)):∀b:Nat × (Nat->Fl),(∀p∈L,p.2≠f)->(L.foldl (nN K) b).2 f=b.2 f:=by
 induction L with
 |nil=>intro b _;rfl
 |cons p L j =>
  intro b h;rw[Wm,j _ (λq l=>h q (UZ _ l))];exact ek _ _ (λe=>h p (UI ..) e.symm)
variable {f:Nat}
theorem Bs(K:Nat->Int)(F:Nat->Fl)(h:¬Fe T f): (kU K F T).2 f=F f:=Lb K f T (0,F) (λp b e=>h ⟨p.1,by rw[<-e];exact b⟩)
structure yK (W1 W:WR) (N:Nat) (T:Tb) (vb:Nat->WS) (n:Nat) (G:Nat->Fl):Prop where
 wZ:W.heap[N]?=S (D #[Z Y (n:Int)] 3 (0,0))
 files:∀f,Fe T f->∃v,rH W f (G f) v/\v.ownBlock=(vb f).ownBlock
 kept:fU N (λk=>∀f,Fe T f->k≠f) W1 W
theorem yK.own{y:WR}{N:Nat}{z:Nat->WS}{β : Type}{n : β->Nat}{G : β->Nat->Fl}(b:Nat)(hb:N<=b): OwnFrom b (λ(x : β) W=>yK y W N T z (n x) (G x)):=λs W L A j l m=>by
 refine⟨kG l m j.wZ,λf B=>?_,⟨l.os.trans j.kept.os,l.tape.trans j.kept.tape,l.output.trans j.kept.output,Uc j.kept.size l.size,λk C F=>?_⟩⟩
 .obtain⟨v,u,I⟩:=j.files f B;exact⟨v,⟨kG l m u.blk,nE l m u.row⟩,I⟩
 .have r:k<W.heap.size:=by have:=cV j.wZ;omega
  rw[l.block k r (λe=>by have:=(m k e.symm).1;omega)];exact j.kept.block k C F
variable {W:WR}
theorem sW{b:WR}{c:Array WS}{t:TypeId}{p:Nat × Nat}(j:Kept W b (λk=>k≠f))(m:W.heap[f]?=S (D c t p)): KeepsOthers W b:=⟨j.size,λk o h l=>(j.block k (Ug.1 h).1 (λe=>by subst e;rw[m] at h;have:=Ut h;rw[<-this] at l;cases l)).trans h⟩
variable {v:WS}{w:WR}
theorem rH.setOther{g:Nat}{X:Fl}(h:rH w f X v){c:Array WS}{t:TypeId}{p:Nat × Nat}(l:w.heap[g]?=S (D c t p))(h1:t≠127)(h2:t≠5)(j:Nat)(u:WS): rH (w.setCell ⟨g,j,U⟩ u) f X v:=⟨(Uj w _ _ f (de h.blk l (Vm h1))).trans h.blk,U1 h.row (λe=>by
  obtain⟨m,b⟩:=h.own e;exact de b l (Vm h2) O) _⟩
theorem yK.next{C m:WR}{N:Nat}{u:Nat->WS}{n:Nat}{G:Nat->Fl}{b:Nat}{X:Fl}{y v':WS}(h:yK C W N T u n G)(L:Fe T b)(r:rH W b (G b) y)(z:y.ownBlock=(u b).ownBlock)(h1:rH m b X v')(h2:v'.ownBlock=y.ownBlock)(j:Kept W m (λk=>k≠b)):yK C (m.setCell ⟨N,0,U⟩ (Z Y ((n+1:Nat):Int))) N T u (n+1) (oq G b X):=by
 have M:N<W.heap.size:=cV h.wZ;have A:N≠b:=de h.wZ r.blk (by decide);have l:m.heap[N]?=S (D #[Z Y (n:Int)] 3 (0,0)):=(j.block N M A).trans h.wZ;refine⟨by rw[Ue m N 0 _ _ _ l];rfl,λf P=>?_,?_⟩
 .by_cases e:f=b
  .subst e;exact⟨v',by rw[eE];exact h1.setOther l (by decide) (by decide) _ _,h2.trans z⟩
  .obtain⟨v,F,Q⟩:=h.files f P;refine⟨v,?_,Q⟩;rw[ek _ _ e];refine(F.kept j e (λg R=>?_)).setOther l (by decide) (by decide) _ _;obtain⟨c,V⟩:=F.own R;exact de V r.blk (by decide)
 .refine⟨j.os.trans h.kept.os,j.tape.trans h.kept.tape,j.output.trans h.kept.output,Uc h.kept.size (by simpa using j.size),λk B I=>?_⟩;rw[Uj m _ _ k (show k≠N by omega),j.block k (by omega) (I b L)];exact h.kept.block k B I
def Dv.wn(d:Dv)(v:WS):Dv:={ d with vn:=v }
structure Dh (w W:WR) (D:Nat) (d:Dv) (kv:WS) (v:WS) (T:Tb):Prop where
 tab:eT W D 1 (d.wn v).cells 64 v T
 kept:Kept w W (λx=>x≠D/\d.vs.ownBlock≠S x)
 new:v.ownBlock=d.vs.ownBlock\/∃g,v.ownBlock=S g/\w.heap.size<=g
 box:W.heap[w.heap.size]?=S (.cells #[kv] 39 (0,0))
theorem Dh.S5{b:Nat}{d:Dv}{j:WS}(h:Dh w W b d j v T): v.ownBlock≠S b:=λe=>by
 obtain⟨l,m,_⟩:=dh h.tab.row e;exact de m h.tab.blk (by decide) O
theorem Dh.step{m:WR}{b:Nat}{d:Dv}{z v':WS}{l:Tb}(h:Dh w W b d z v T)(j:dN W m b 1 (d.wn v).cells 64 v v' l)(A:Sd.di l)(B:Xg l<=1000000000)(C:b<w.heap.size): Dh w m b d z v' l:=by
 have F:m.heap[b]?=S (D (d.wn v').cells 64 (0,0)):=j.blk;have r:w.heap.size<W.heap.size:=cV h.box;refine⟨⟨F,O,j.row,A,B⟩,⟨j.kept.os.trans h.kept.os,j.kept.tape.trans h.kept.tape,j.kept.output.trans h.kept.output,Uc h.kept.size j.kept.size,λk G u=>(j.kept.block k (by omega) ⟨u.1,λe=>?_⟩).trans (h.kept.block k G u)⟩,?_,(j.kept.block _ r ⟨by omega,λe=>?_⟩).trans h.box⟩
 .rcases h.new with y|⟨g,y,I⟩
  .rw[y] at e;exact u.2 e
  .rw[y] at e;have:g=k:=Ut e;omega
 .rcases j.new with e|⟨g,e,I⟩
  .rw[e];exact h.new
  .exact Xb ⟨g,e,by omega⟩
 .obtain⟨L,M,_⟩:=dh h.tab.row e;exact de M h.box (by decide) O
def M5(Q:Exit->Act->WR->Prop):Exit->Act->WR->Prop
 |.panic _,_,_=>False
 |.normal,a,w=>Q .normal a w
 |.ret,a,w=>Q .ret a w
 |.exit n,a,w=>Q (.exit n) a w
 |.goto n,a,w=>Q (.goto n) a w
 |.outgrown,a,w=>Q .outgrown a w
theorem yT{Q:Exit->Act->WR->Prop}:∀e a w,M5 Q e a w->Q e a w:=λe a w h=>by
 cases e <;> first|exact h|exact h.elim
def Dv.wH(d:Dv)(b:Int):Tb:=mH nK d.safe (d.dW.take (ky b (Xg d.dW)))
def Dv.eA(d:Dv)(b:Int)(K:Nat->Int)(e:Nat->WS)(v j:WS):Dv:={ d with names:=d.wH b,safe:=d.wH b,dW:=[],F:=(kU K d.F (d.wH b)).2,vb:=e,vn:=v,vs:=j,vc := J U 0 0,left := -1,mi:=false,down:=false }
def Ih(b:Nat)(d:Dv)(j:Int)(r:Nat)(K:Nat->Int)(w:WR)(e:Ending)(w':WR):Prop:=e=WZ (WX #[])/\∃l v m,oO w w' b d (d.eA j (lK r K) l v m)
theorem Jp(j:Nat)(l:Int)(b:Bool)(w:WR)(c4:w.cell? ⟨j,4,U⟩=S (Z Y l))(c5:w.cell? ⟨j,5,U⟩=S (WW b))(r:w.frozen? ⟨j,4,U⟩=W9)(u:w.frozen? ⟨j,5,U⟩=W9):WT prog 29 #[WV (S ⟨j,0,U⟩),Z Y (-1)] w λe m=>e=WZ (WX #[])/\m=(w.setCell ⟨j,5,U⟩ (WW W9)).setCell ⟨j,4,U⟩ (Z Y (-1)):=by
 go_enter func29,ntmps29;go_wp2;exact Ub (Ua O _ _ _) O ⟨O,O⟩
theorem Ds(b:Nat)(d:Dv)(M:Int)(kp:Option Addr)(kn kc:Nat)(K:Nat->Int)(w:WR)(h:kK w b d)(hl:Xg d.safe+Xg d.dW<=1000000000){B:Nat}(bd:∀k,mZ b d k->B<=k)(hK:qk w B kp kn K)(bR:∀f,(d.F f).safe<=(d.F f).bytes.size)(hM:∀c,c∈d.dW->Qx c):WT prog 34 #[WV (S ⟨b,0,U⟩),Z Y M,J kp kn kc] w (Ih b d M kn K w):=by
 have aR:=cT bd;clear bd;have P:=h.blk;obtain⟨p1,bS,bT,_⟩:=Dk.dm h.rn;obtain⟨p2,ar,aS,_⟩:=Dk.dm h.rs;obtain⟨p3,an,q,bU⟩:=Dk.dm h.rc;unfold Dv.cells at P;rw[bT,aS,q] at P;have d1:w.cell? ⟨b,1,U⟩=S (J p1 (Xg d.names) bS):=by rw[T5 w _ 1 _ _ _ P];rfl
 have d2:w.cell? ⟨b,2,U⟩=S (J p2 (Xg d.safe) ar):=by rw[T5 w _ 2 _ _ _ P];rfl
 have d3:w.cell? ⟨b,3,U⟩=S (J p3 (Xg d.dW) an):=by rw[T5 w _ 3 _ _ _ P];rfl
 have f1:w.frozen? ⟨b,1,U⟩=W9:=by simp[World.frozen?,P]
 have bg:b<w.heap.size:=cV P;have cD:Xg d.dW<=1000000000:=by omega
 have cE:an<=9223372036854775807:=by
  rcases h.rc.2 with ⟨Q,h0⟩|⟨_,ai,_,Q,_,_,R,h2,_⟩
  .rw[q] at Q;injection Q with _ _ e3;omega
  .rw[q] at Q;injection Q with _ _ e3;unfold maxLen at h2;omega
 have HD:=cT h;have HM:=cT hM;have HK:=cT hK;have aL:Dh w ((w.setCell ⟨b,1,U⟩ (J p2 (Xg d.safe) ar)).alloc (D #[J kp kn kc] 39)) b d (J kp kn kc) d.vs d.safe:=by
  have bV:=Ue w b 1 _ _ (J p2 (Xg d.safe) ar) h.blk;have bh:d.vs.ownBlock≠S b:=λe=>by
   obtain⟨ag,t,_⟩:=dh h.rs e;exact de t h.blk (by decide) O
  refine⟨⟨?_,O,(U1 h.rs bh _).alloc _,h.ss,by omega⟩,(((Kept.refl w _).setCell (λhk=>hk.1 O) _).alloc _),Xa O,?_⟩
  .rw[Ur _ _ _ (by simpa using bg),bV,<-aS];rfl
  .have:=T9 (w.setCell ⟨b,1,U⟩ (J p2 (Xg d.safe) ar)) (D #[J kp kn kc] 39);simpa using this
 have aT:=cT aL;clear h P aL hM hK;refine(Vq (n:=5)).1 ?_;refine callsIn_of_wp_marks func34 O trivial ?_ O;simp only[ntmps34,VD,Uf,Vl,Nat.reduceAdd,Nat.reduceSub,VJ,VK,VL,VM,U2,UM];refine wpIn_wide.2 (Code.wp_mono yT ?_);have bW:=sN M (Xg d.dW);have aE:=λW=>xQ M (Xg d.dW) (Xg d.dW:Int) W O
 generalize hN:ky M (Xg d.dW)=N at bW aE;have aF:∀a,p3=S a->∃g,a=⟨g,0,U⟩:=λa e=>by
  rcases(cS HD).rc.2 with ⟨Q,_⟩|⟨g,_,_,Q,_⟩
  .rw[q] at Q;injection Q with e1;rw[e1] at e;cases e
  .rw[q] at Q;injection Q with e1;rw[e1] at e;exact⟨g,(Ut e).symm⟩
 have bj:p3=U->Xg d.dW=0/\an=0:=λe=>by
  rcases(cS HD).rc.2 with ⟨Q,h0⟩|⟨g,_,_,Q,_⟩
  .rw[q] at Q;injection Q with _ _ e3;exact⟨h0,e3⟩
  .rw[q] at Q;injection Q with e1;rw[e1] at e;cases e
 have aM:∀W,Kept w W (λx=>x≠b/\d.vs.ownBlock≠S x)->W.ownsRow 0 129 3 (J p3 (Xg d.dW) an) (Xg d.dW) (ib d.dW):=λW hk=>by
  rw[<-q];refine dv (cS HD).rc hk (λg V=>?_);obtain⟨ag,t,_⟩:=dh (cS HD).rc V;refine⟨de t (cS HD).blk (by decide),λe=>?_⟩;obtain⟨cA,au,_⟩:=dh (cS HD).rs e;exact de t au (by decide) O
 have HC:=cT aM;have bX:=cT bj;have bY:=cT aF;clear aM bj aF;go_wp2_with fail;obtain⟨W0,bk⟩:∃W0,((w.setCell ⟨b,1,U⟩ (J p2 (Xg d.safe) ar)).alloc (D #[J kp kn kc] 39))=W0:=⟨_,rfl⟩
 rw[bk] at aT;have bZ:W0.cell? ⟨b,3,U⟩=S (J p3 (Xg d.dW) an):=by rw[T5 W0 _ 3 _ _ _ (cS aT).tab.blk,<-q];rfl
 rw[bk];clear d1 d2 d3 f1
 go_cut [29,30,31] from 18 (λx y z wx=>x=J p3 N an/\y=Z Y N/\z=Z Y 0/\∃nq,wx=W0.drewN nq)
 case first =>
  cases p3 with
  |none =>
   obtain⟨h0,b0⟩:=(cS bX) rfl;subst b0;have b1:N=0:=by omega
   subst b1;rw[h0] at bZ aE
   go_quiet (first|(go_at_call 56;exact Calls.quiet_of_same (aE _)))
   go_wp2
   go_meet
   exact⟨O,O,O,_,O⟩
  |some a3 =>
   obtain⟨g3,rfl⟩:=(cS bY) a3 rfl
   go_quiet (first|(go_at_call 56;exact Calls.quiet_of_same (aE _)))
   go_wp2
   go_meet
   exact⟨O,O,O,_,O⟩
 case rest =>
 obtain⟨rfl,rfl,rfl,nq,rfl⟩:=hcut;go_wp2_with fail
 go_loopw [31] (λii wr=>∃(k:Nat) (v:WS),k<=N/\ii=Z Y k/\Dh w wr b d (J kp kn kc) v (mH nK d.safe (d.dW.take k))) (λii _=>N-(intOf ii).toNat)
 case atStart=>exact⟨0,d.vs,by omega,rfl,by have h:=cS aT;exact⟨⟨h.tab.blk,h.tab.at_,h.tab.row,h.tab.me,h.tab.len⟩,⟨h.kept.os,h.kept.tape,h.kept.output,h.kept.size,h.kept.block⟩,h.new,h.box⟩⟩
 case round =>
  obtain⟨k,v,hk,rfl,m⟩:=hrel;by_cases b2:k<N
  .have cB:(k:Int)<(N:Int):=by omega
   have bn:k<Xg d.dW:=by omega
   obtain⟨g3,aF⟩:∃g3,p3=S ⟨g3,0,U⟩:=by
    rcases(cS HD).rc.2 with ⟨Q,h0⟩|⟨g,_,_,Q,_⟩
    .omega
    .rw[q] at Q;injection Q with e1;exact⟨g,e1⟩
   subst aF;have aj:=(cS HC) wr m.kept;obtain⟨e0,e1,e2⟩:=PO d.dW k bn;obtain⟨pf,aU⟩:∃pf,eV (d.dW[k]).file=WV pf:=by cases (d.dW[k]).file <;> exact⟨_,O⟩
   have x0:wr.cell? ⟨g3,k*3,U⟩=S (H (d.dW[k]).gone):=(aj.cellAt (k*3) (by omega)).trans e0;have x1:wr.cell? ⟨g3,k*3+1,U⟩=S (H (d.dW[k]).name):=(aj.cellAt (k*3+1) (by omega)).trans e1;have x2:wr.cell? ⟨g3,k*3+2,U⟩=S (WV pf):=(aj.cellAt (k*3+2) (by omega)).trans (e2.trans (by rw[aU]));have aV:=λW T v C R h2=>vl b (d.dW[k]) ((cS HM) _ (UU _)) W C v T R h2
   rw[aU] at aV;have ak:∀o,WT prog 57 #[.agg #[H (d.dW[k]).gone,H (d.dW[k]).name,WV pf],WV (S ⟨b,1,U⟩)] (wr.alloc o).drew λe w'=>e=WZ (WX #[])/\∃v',dN (wr.alloc o).drew w' b 1 (d.wn v).cells 64 v v' (nK (mH nK d.safe (d.dW.take k)) (d.dW[k])):=λo =>
    aV _ _ _ _ (m.tab.below (((T4 _ wr).alloc WN o).drew)) m.S5
   obtain⟨cg,bo⟩:∃cg,(d.dW[k]).gone=cg:=⟨_,rfl⟩
   obtain⟨cn,bp⟩:∃cn,(d.dW[k]).name=cn:=⟨_,rfl⟩
   rw[bo] at x0 ak;rw[bp] at x1 ak;have b3:=cT ak;have aW:=cT m;clear aV ak e0 e1 e2 aj m aU bo bp;go_wp2_with fail
   go_region_with (go_at_call 57;refine((cS b3) _).mono ?_;rintro e w1 ⟨rfl,v',hn⟩)
   have m:=cS aW;have X:(mH nK d.safe (d.dW.take (k+1)))=nK (mH nK d.safe (d.dW.take k)) (d.dW[k]):=by
    unfold mH;rw[Vf bn,Wj];rfl
   have aX:(mH nK d.safe (d.dW.take (k+1))).length<=1000000000:=by
    have R:=sH (d.dW.take (k+1)) d.safe;have h2:(d.dW.take (k+1)).length<=Xg d.dW:=by rw[Vj];omega
    omega
   have aY:=Iz (cS HD).ss (d.dW.take (k+1));rw[X] at aX aY;have av:=m.step (dN.mD (dN.xu hn)) aY aX bg;rw[<-X] at av;have H1:=cT av;clear m av hn X aX aY;go_wp2;go_roundw
   case rel=>exact⟨k+1,v',by omega,by go_num,cS H1⟩
   case measure=>simp[intOf];omega
  .have cF:¬(k:Int)<(N:Int):=by omega
   obtain rfl:k=N:=by omega
   have bq:=λW p0=>(Vq (n:=5)).1 (Dk.qw Fence.wide 5 trivial O p0 W)
   generalize hT:mH nK d.safe (d.dW.take k)=T at m;have aW:=cT m;clear m;go_wp2_with (go_at_call 55;refine(bq _ _).mono ?_;rintro e w' ⟨rfl,b4⟩;subst b4);refine(wpIn_wide (n:=5)).1 ?_;have m:=cS aW;have br:w.heap.size<wr.heap.size:=cV m.box;obtain⟨W1,ao⟩:∃W1,((wr.alloc (D #[Z Y 0] 3)).alloc (D #[WV (S ⟨b,1,U⟩)] 131))=W1:=⟨_,rfl⟩
   have cG:W1.heap.size=wr.heap.size+2:=by rw[<-ao];simp
   have L:WQ wr W1:=by rw[<-ao];exact((T4 _ wr).alloc WN _).alloc (by simp) _
   have b5:W1.heap[wr.heap.size]?=S (D #[Z Y 0] 3 (0,0)):=by
    rw[<-ao,Ur _ _ _ (by simp)];exact Vz wr _
   have b6:W1.cell? ⟨wr.heap.size+1,0,U⟩=S (WV (S ⟨b,1,U⟩)):=by
    have:=Vz (wr.alloc (D #[Z Y 0] 3)) (D #[WV (S ⟨b,1,U⟩)] 131);rw[Uv,ao] at this;simp[World.cell?,this]
   obtain⟨p,bs,bu,aw⟩:=Dk.dS m.tab.row;have ax:b<wr.heap.size:=cV m.tab.blk;have b7:W1.cell? ⟨b,1,U⟩=S (J p (Xg T) bs):=by
    rw[L.cell (p:=⟨b,1,U⟩) ax,m.tab.cell,<-bu]
   have ad:∀f,Fe T f->f∈d.fs:=λf ⟨a,ha⟩=>by
    rw[<-hT] at ha;rcases zy _ _ _ ha with R|⟨c,t,e⟩
    .exact(cS HD).QS _ R
    .exact(cS HD).Qp c (Wg t) f e
   have bw:∀f,f∈d.fs->rH wr f (d.F f) (d.vb f):=λf A=>by
    have R:=(cS HD).files f A;refine R.kept m.kept ⟨de R.blk (cS HD).blk (by decide),λe=>?_⟩ (λg V=>?_)
    .obtain⟨c,t,_⟩:=dh (cS HD).rs e;exact de t R.blk (by decide) O
    .obtain⟨c,t⟩:=R.own V;refine⟨de t (cS HD).blk (by decide),λe=>?_⟩;obtain⟨c',au,_⟩:=dh (cS HD).rs e;exact de au t (by decide) O
   have ae:∀f,Fe T f->rH wr f (d.F f) (d.vb f):=λf A=>bw f (ad f A)
   have ca:∀j (hj:j<Xg T),∃g,p=S ⟨g,0,U⟩/\g<wr.heap.size/\(∀f,Fe T f->g≠f)/\W1.cell? ⟨g,j*2,U⟩=S (H T[j].1)/\W1.cell? ⟨g,j*2+1,U⟩=S (eD T[j].2):=λj hj=>by
    obtain⟨g,e,c0,c1⟩:=aw j hj;have V:=Ui wr _ c0;refine⟨g,e,V,λf A=>?_,(L.cell (p:=⟨g,j*2,U⟩) V).trans c0,(L.cell (p:=⟨g,j*2+1,U⟩) V).trans c1⟩;obtain⟨c,t,_⟩:=dh m.tab.row (g:=g) (by rw[bu,e];rfl);exact de t (ae f A).blk (by decide)
   have bx:yK W1 W1 wr.heap.size T d.vb 0 d.F:=⟨b5,λf A=>⟨d.vb f,⟨(L.block f (cV (ae f A).blk)).trans (ae f A).blk,dd (ae f A).row L⟩,O⟩,fU.refl _ _ _⟩
   rw[ao];clear ao aw;refine wpIn_rangeFunc_ownG O (by omega) (gf:=96) (lb := #[WV (S ⟨wr.heap.size+1,0,U⟩)]) O trivial (enters_of func96 (by kernel_rfl) O)
    (Dk.kI _ _ trivial O (by omega) (wr.heap.size+1) b 1 wr.heap.size (λk=>∀f,Fe T f->k≠f) p bs T m.tab.len W1 (by omega) (by omega) (by omega) b6 b7 ca) (λh k=>h.trans k) (r8 (by omega)) (T4 _ _) (λ_=>O)
    (λI W=>yK W1 W wr.heap.size T d.vb (Xg I) (kU (lK kn K) d.F (I.map (·.1))).2)
    (λ_ _ _=>False)
    (yK.own _ (by omega))
    (λ_ _ _ _ _ hs _ _=>hs)
    bx ?a1 ?assign ?body ?done ?stop
   case assign =>
    intro l y W K hK
    gi_wp2
    exact hK
   case stop =>
    intro D' c I W _ _ h;exact h.elim
   case body =>
    rintro l' I ⟨⟨ya,yf⟩,hy⟩ W u b2;have hG:=uZ (lK kn K) d.F (I.map (·.1)) bR;have bA:(kU (lK kn K) d.F ((I++[(⟨(ya,yf),hy⟩:{ x:WU × Nat // x∈T })]).map (·.1))).2=oq (kU (lK kn K) d.F (I.map (·.1))).2 yf (iJ ((kU (lK kn K) d.F (I.map (·.1))).2 yf) (lK kn K (Xg I))):=by
     rw[Vn,U4,List.map_nil,C4];unfold nN;rw[Ho,UX]
    have bB:=cT bA;generalize (kU (lK kn K) d.F (I.map (·.1))).2=G at u hG bB;clear bA;have aZ:Fe T yf:=⟨ya,hy⟩
    obtain⟨vf,aG,bC⟩:=u.files yf aZ;have a6:∀g,g<w.heap.size->(g≠b/\d.vs.ownBlock≠S g)->(∀f,Fe T f->g≠f)->W.heap[g]?=w.heap[g]?:=λg V R h2=>by
     rw[u.kept.block g (by omega) h2,L.block g (by omega),m.kept.block g V R]
    have bD:W.heap[w.heap.size]?=S (D #[J kp kn kc] 39 (0,0)):=by
     rw[u.kept.block w.heap.size br (λf A=>de m.box (ae f A).blk (by decide)),L.block w.heap.size br];exact m.box
    have bE:qk W B kp kn K:=⟨λj hj=>by
     obtain⟨g,o,e,t,bF⟩:=(cS HK).cell j hj;have ay:g<w.heap.size:=Ui w ⟨g,o+j,U⟩ t;have a7:=cS HD;have az:W.heap[g]?=w.heap[g]?:=by
      rcases bF with cH|⟨ag,fr,hd⟩
      .refine a6 g ay ⟨λe2=>?_,λe2=>?_⟩ (λf A e2=>?_)
       .have:=cS aR g (Xa e2);omega
       .have:=cS aR g (Xb (Xb (Xa e2)));omega
       .have:=cS aR g (Xb (Xb (Xb (Xb ⟨f,ad f A,Xa e2⟩))));omega
      .refine a6 g ay ⟨de hd a7.blk (by decide),λe2=>?_⟩ (λf A=>de hd (a7.files f (ad f A)).blk (by decide));obtain⟨c',au,_⟩:=dh a7.rs e2;exact de hd au (by decide) O
     exact⟨g,o,e,(Vs (w:=w) az).trans t,bF.imp id (λ⟨ag,fr,hd⟩=>⟨ag,fr,az.trans hd⟩)⟩,(cS HK).small⟩
    have cc:=Dl kp kn kc K (Xg I) W bE;have cd:=Hu yf (G yf) vf (lK kn K (Xg I)) W aG (hG yf);have cI:W.cell? ⟨w.heap.size,0,U⟩=S (J kp kn kc):=by rw[T5 W _ 0 _ _ _ bD];rfl
    have cJ:W.cell? ⟨wr.heap.size,0,U⟩=S (Z Y (Xg I:Int)):=by rw[T5 W _ 0 _ _ _ u.wZ];rfl
    have cj:wr.heap.size<W.heap.size:=cV u.wZ;have cl:wr.heap.size≠yf:=de u.wZ aG.blk (by decide);have cK:Xg I<1000000000:=by have:=m.tab.len;omega
    have aH:=cT u;have bG:=cT aG;have cp:=cT bC;have bH:=cT aZ;have cq:=cT u.wZ;clear bE bD a6 aG bC aZ u;unfold eD
    gi_wp2_with (first
    |(refine⟨trivial,?_⟩;gi_at_call 59;refine(VY l' ((Vq (n:=_)).2 cc)).mono ?_;rintro e w' ⟨rfl,hw⟩;obtain rfl:=hw.symm)
    |(refine⟨trivial,?_⟩;gi_at_call 58;refine(VY l' ((Vq (n:=_)).2 cd)).mono ?_;rintro e w1 ⟨rfl,v',cr,bI,X⟩;have aN:=(X.block wr.heap.size cj cl).trans (cS cq);have cL:w1.cell? ⟨wr.heap.size,0,U⟩=S (Z Y (Xg I:Int)):=(T5 w1 _ 0 _ _ _ aN).trans O;have cM:w1.frozen? ⟨wr.heap.size,0,U⟩=W9:=(by simp[World.frozen?,aN])))
    have u:=cS aH;have ct:=u.next (cS bH) (cS bG) (cS cp) cr bI X
    have ei:((Xg I:Int)+1)=((Xg I+1:Nat):Int):=by omega
    have cu:fU wr.heap.size (λk=>∀f,Fe T f->k≠f) W (w1.setCell ⟨wr.heap.size,0,U⟩ (Z Y ((Xg I+1:Nat):Int))):=⟨X.os,X.tape,X.output,by simpa using X.size,λk cN ho=>by
      rw[Uj w1 _ _ k (show k≠wr.heap.size by omega),X.block k (by omega) (ho yf (cS bH))]⟩
    rw[ei];exact⟨((sW X (cS bG).blk).trans (KeepsOthers.setCell _ _ _)).from _,cu,by show yK _ _ _ _ _ (I++[_]).length _;rw[UG,cS bB];exact ct⟩
   case done =>
    rintro Dd ys W cO bJ u bK;have aO:ys.map (·.1)=T:=by rw[bJ,WL]
    rw[aO] at u;have aP:W.heap[b]?=S (D (d.wn v).cells 64 (0,0)):=by
     rw[u.kept.block b ax (λf A=>de m.tab.blk (ae f A).blk (by decide)),L.block b ax];exact m.tab.blk
    have aA:W.ownsRow 0 194 2 v (Xg T) (Dk.cU T):=by
     have R:=dd m.tab.row L;obtain⟨q1,q2⟩:=R;refine⟨q1,?_⟩;rcases q2 with q2|⟨g,ai,ag,Q,hB,V,r⟩
     .exact .inl q2
     .refine .inr ⟨g,ai,ag,Q,hB,?_,r⟩;obtain⟨c,t,_⟩:=dh m.tab.row (g:=g) (by rw[Q];rfl);rw[u.kept.block g (cV t) (λf A=>de t (ae f A).blk (by decide)),V]
    have bL:=r6 b (d.wn v) T W ⟨aP,O,aA,m.tab.me,m.tab.len⟩ (by show ∃p n c,d.vs=_;rw[aS];exact⟨_,_,_,O⟩) (by show ∃p n c,d.vc=_;rw[q];exact⟨_,_,_,O⟩);have aH:=cT u;clear aP u bJ aO;go_wp2_with fail;refine bL.mono ?_;rintro e W2 ⟨rfl,aB,aa,aI,aJ,aq⟩;have g4:W2.cell? ⟨b,4,U⟩=S (Z Y d.left):=by rw[T5 W2 _ 4 _ _ _ aa];rfl
    have g5:W2.cell? ⟨b,5,U⟩=S (WW d.mi):=by rw[T5 W2 _ 5 _ _ _ aa];rfl
    have g6:W2.cell? ⟨b,6,U⟩=S (WW d.down):=by rw[T5 W2 _ 6 _ _ _ aa];rfl
    have z4:W2.frozen? ⟨b,4,U⟩=W9:=by simp[World.frozen?,aa]
    have z5:W2.frozen? ⟨b,5,U⟩=W9:=by simp[World.frozen?,aa]
    have z6:W2.frozen? ⟨b,6,U⟩=W9:=by simp[World.frozen?,aa]
    have H2:=cT (And.intro aa (And.intro aI (And.intro aJ aq)));clear aa aI aJ aq bL;go_wp2_with fail;refine(Jp b d.left d.mi _ ((UD _ _ _ _ (by intro e;simp at e)).trans g4) ((UD _ _ _ _ (by intro e;simp at e)).trans g5) (by simp[z4]) (by simp[z5])).mono ?_;rintro e W3 ⟨rfl,aK⟩;obtain⟨aa,aI,aJ,aq⟩:=cS H2;have cv:W3.heap[b]?=S (D ({ d with vn:=v,vs:=aB,vc := J U 0 0,left := -1,mi:=false,down:=false }:Dv).cells 64 (0,0)):=by
     rw[aK];have e1:=Ue W2 b 6 _ _ (WW W9) aa;have e2:=Ue _ b 5 _ _ (WW W9) e1;have e3:=Ue _ b 4 _ _ (Z Y (-1)) e2;exact e3
    have s:Kept W W3 (λk=>k≠b):=by
     rw[aK];exact((aJ.setCell (λh=>h O) _).setCell (λh=>h O) _).setCell (λh=>h O) _
    have cw:W3.ownsRow 0 194 2 aB (Xg T) (Dk.cU T):=by
     rw[aK];have a8:aB.ownBlock≠S b:=λe=>by
      have:=aq b e;have:=cV (cS aH).wZ;omega
     exact U1 (U1 (U1 aI a8 _) a8 _) a8 _
    have aQ:W3.heap[Dd]?=S (.deferred (S [])):=(s.block Dd (Ug.1 bK).1 (by omega)).trans bK;clear aK;go_wp2;refine(show bodyPostM Fence.wide 5 prog _ _ Exit.normal _ W3 from ?_);refine⟨by simp,.inl ⟨_,_,O,run_takeDeferred aQ,?_⟩⟩;have ab:=Wh W3 Dd (.deferred U);have aC:∀r,S Dd=S r->0<=r/\∃o:Obj,W3.heap[r]?=S o/\o.isCells=W9:=λr e=>by
     have:Dd=r:=Ut e;subst this;exact⟨Ud _,_,aQ,O⟩
    have u:=cS aH;have hd:=cS HD;have ah:d.wH M=T:=by unfold Dv.wH;rw[hN,hT]
    have cP:W1.heap.size<=W.heap.size:=u.kept.size;have cx:v.ownBlock≠S b:=m.S5;have cy:∀g,v.ownBlock=S g->g<W.heap.size:=λg V=>jK aA V
    have bM:W.heap[b]?=S (D (d.wn v).cells 64 (0,0)):=by
     rw[u.kept.block b ax (λf A=>de m.tab.blk (ae f A).blk (by decide)),L.block b ax];exact m.tab.blk
    have af:∀f,f∈d.fs->∃v',rH W3 f ((kU (lK kn K) d.F T).2 f) v'/\v'.ownBlock=(d.vb f).ownBlock:=λf A=>by
     by_cases ba:Fe T f
     .obtain⟨v',R,h2⟩:=u.files f ba;refine⟨v',R.kept s (de R.blk bM (by decide)) (λg V=>?_),h2⟩;obtain⟨c,t⟩:=R.own V;exact de t bM (by decide)
     .have R:=bw f A;have bN:=cV R.blk;refine⟨d.vb f,?_,O⟩;rw[Bs _ _ ba];have bc:∀k,Fe T k->f≠k:=λk hk e=>ba (e ▸ hk)
      have hb:W3.heap[f]?=wr.heap[f]?:=by
       rw[s.block f (by omega) (de R.blk m.tab.blk (by decide)),u.kept.block f bN bc,L.block f bN]
      refine⟨hb.trans R.blk,?_⟩;obtain⟨q1,q2⟩:=R.row;refine⟨q1,?_⟩;rcases q2 with q2|⟨g,ai,ag,Q,hB,V,r⟩
      .exact .inl q2
      .refine .inr ⟨g,ai,ag,Q,hB,?_,r⟩;have ay:=cV V;rw[s.block g (by omega) (de V m.tab.blk (by decide)),u.kept.block g ay (λk hk=>de V (ae k hk).blk (by decide)),L.block g ay];exact V
    have bO:∀k,¬mZ b d k->k<w.heap.size->(k≠b/\d.vs.ownBlock≠S k/\∀f,Fe T f->k≠f):=λk hk _=>⟨λe=>hk (Xa e),λe=>hk (Xb (Xb (Xa e))),λf A e=>hk (Xb (Xb (Xb (Xb ⟨f,ad f A,Xa e⟩))))⟩
    refine⟨WX #[],by simp[results,results34,go_sem],O,?_⟩;have cC:∀f,Decidable (f∈d.fs):=λf=>Classical.propDecidable _
    refine⟨λf=>if h:f∈d.fs then Classical.choose (af f h) else J U 0 0,v,aB,⟨⟨?_,?_,?_,Uw _ _ _ _,?_,?_,λg V e=>?_,λf A=>?_,λf f' A aD bc g V=>?_,λp hp=>?_,λp hp=>?_,λc t=>(by cases t)⟩,?_,λk hk=>?_⟩⟩
    .exact kG ab aC cv
    .show World.ownsRow _ 0 _ 2 v (d.wH M).length (Dk.cU (d.wH M))
     rw[ah];exact nE ab aC (dv aA s (λg V e=>cx (by rw[V,e])))
    .show World.ownsRow _ 0 _ 2 aB (d.wH M).length (Dk.cU (d.wH M))
     rw[ah];exact nE ab aC cw
    .show Sd.di (d.wH M);rw[ah];exact m.tab.me
    .show Sd.di (d.wH M);rw[ah];exact m.tab.me
    .have:=aq g e;have:=cy g V;omega
    .have A:f∈d.fs:=A
     show rH _ f ((kU (lK kn K) d.F (d.wH M)).2 f) (if h:f∈d.fs then Classical.choose (af f h) else J U 0 0)
     rw[ah,dif_pos A];have R:=(Classical.choose_spec (af f A)).1;exact⟨kG ab aC R.blk,nE ab aC R.row⟩
    .have A:f∈d.fs:=A;have aD:f'∈d.fs:=aD;have bP:(if h:f∈d.fs then Classical.choose (af f h) else Value.slice U 0 0).ownBlock=S g:=V
     show (if h:f'∈d.fs then Classical.choose (af f' h) else Value.slice U 0 0).ownBlock≠S g
     rw[dif_pos A,(Classical.choose_spec (af f A)).2] at bP;rw[dif_pos aD,(Classical.choose_spec (af f' aD)).2];exact hd.fap f f' A aD bc g bP
    .have hp:p∈d.wH M:=hp;rw[ah] at hp;exact ad p.2 ⟨p.1,hp⟩
    .have hp:p∈d.wH M:=hp;rw[ah] at hp;exact ad p.2 ⟨p.1,hp⟩
    .refine⟨ab.os.trans (s.os.trans (u.kept.os.trans (L.os.trans m.kept.os))),ab.tape.trans (s.tape.trans (u.kept.tape.trans (L.tape.trans m.kept.tape))),ab.output.trans (s.output.trans (u.kept.output.trans (L.output.trans m.kept.output))),?_,λx bQ hx=>?_⟩
     .have q1:=ab.size;have q2:=s.size;have q3:=m.kept.size;omega
     .obtain⟨x1,x2,x3⟩:=bO x hx bQ;have q3:=m.kept.size;rw[ab.block x (by have:=s.size;omega) (by simp;omega),s.block x (by omega) x1,u.kept.block x (by omega) x3,L.block x (by omega),m.kept.block x bQ ⟨x1,x2⟩]
    .rcases hk with e|e|e|e|⟨f,A,e⟩
     .exact Xa (Xa e)
     .rcases m.new with e2|⟨g',e2,cQ⟩
      .exact Xa (Xb (Xb (Xa (e2 ▸ e))))
      .have e:v.ownBlock=S k:=e;rw[e2] at e;have:=Ut e;exact Xb (by omega)
     .have:=aq k e;have:=m.kept.size;exact Xb (by omega)
     .simp[Dv.eA,Value.ownBlock] at e
     .have A:f∈d.fs:=A;refine Xa (Xb (Xb (Xb (Xb ⟨f,A,?_⟩))));rcases e with e|e
      .exact Xa e
      .have e:(if h:f∈d.fs then Classical.choose (af f h) else Value.slice U 0 0).ownBlock=S k:=e;rw[dif_pos A,(Classical.choose_spec (af f A)).2] at e;exact Xb e
end Pk
namespace Pk
open Sd (Tb)
open Rd (Rk tab e0)
def bm(blk:Nat->Nat)(p:WU × Nat):WU × Nat:=(p.1,blk p.2)
def cm(blk:Nat->Nat)(c:Rd.Ch):Ch:=⟨c.goes,c.comes,if c.comes=e0 then U else S (blk c.file)⟩
theorem zJ(blk:Nat->Nat)(T:Tb)(a:WU):Sd.dw (T.map (bm blk)) a=Sd.dw T a:=by
 unfold Sd.dw;rw[List.filter_map,UX]
 rfl
theorem qU(blk:Nat->Nat)(T:Tb)(a:WU):Sd.dF (T.map (bm blk)) a=Sd.dF T a:=by
 unfold Sd.dF;rw[List.any_map]
 rfl
theorem NC(blk:Nat->Nat)(T:Tb)(a:WU):Sd.jy (T.map (bm blk)) a=(Sd.jy T a).map blk:=by
 unfold Sd.jy;rw[qU,zJ];split
 .rw[VX,Option.map_map,Option.map_map];rfl
 .rfl
theorem EP(blk:Nat->Nat)(T:Tb)(a:WU)(i:Nat):Sd.jZ (T.map (bm blk)) a (blk i)=(Sd.jZ T a i).map (bm blk):=by
 unfold Sd.jZ Sd.gJ;rw[qU,zJ];split
 .rw[List.map_set];rfl
 .rw[Vn,U4,List.map_take,List.map_drop];rfl
theorem yq{α β : Type}(f : α->β):∀(L:List α) (k:Nat),(L.map f).eraseIdx k=(L.eraseIdx k).map f
 |[],_=>rfl
 |a::L,0=>rfl
 |a::L,k+1=>by simp[yq f L k]
theorem FY(blk:Nat->Nat)(T:Tb)(a:WU):Sd.gM (T.map (bm blk)) a=(Sd.gM T a).map (bm blk):=by
 unfold Sd.gM;rw[qU,zJ];split
 .exact yq (bm blk) T _
 .rfl
variable {T:Tb}
theorem MQ(h:Sd.dF T e0=W9): Sd.gM T e0=T:=by unfold Sd.gM;rw[TZ (by rw[h];decide)]
theorem E9{a:WU}:a.size=0↔a=e0:=⟨λh=>Vh (Array.eq_empty_of_size_eq_zero h),λh=>by rw[h];rfl⟩
theorem Jk(blk:Nat->Nat)(j:Sd.dF T e0=W9)(c:Rd.Ch): nK (T.map (bm blk)) (cm blk c)=(Rd.Rl T c).map (bm blk):=by
 unfold nK Rd.Rl cm;by_cases e:c.comes=e0
 .simp only[T0 e];exact FY blk T c.goes
 .simp only[TZ e];by_cases b:c.goes=e0
  .rw[T0 (E9.2 b),b,MQ j];exact EP blk T c.comes c.file
  .rw[TZ (λh=>b (E9.1 h)),FY];exact EP blk _ c.comes c.file
variable {blk:Nat->Nat}
theorem Cc{blk':Nat->Nat}{n:Nat}(b:∀p∈T,p.2<n)(h:∀i,i<n->blk' i=blk i): T.map (bm blk')=T.map (bm blk):=Ws λp e=>by unfold bm;rw[h _ (b p e)]
structure Is (d:Dv) (R:Rk) (blk:Nat->Nat):Prop where
 q:d.q=R.cY
 names:d.names=(tab R.now).map (bm blk)
 safe:d.safe=(tab R.safe).map (bm blk)
 dW:d.dW=R.dW.map (cm blk)
 fs:d.fs=(List.range (Xg R.files)).map blk
 inj:∀i j,i<Xg R.files->j<Xg R.files->blk i=blk j->i=j
 F:∀i,i<Xg R.files->d.F (blk i)=⟨(R.fl i).bytes,(R.fl i).safe⟩
 Fs:∀f,(d.F f).safe<=(d.F f).bytes.size
 down:d.down=R.down
 arm:R.down=W8\/(d.mi=W9/\R.left = -1)\/(d.mi=W8/\d.left=R.left/\0<=R.left)
 left : -1<=R.left/\R.left<=9223372036854775807
 ok:R.Ok
 Sr:∀c∈R.dW,¬c.comes=e0\/¬c.goes=e0
variable {R:Rk}{d:Dv}
theorem Is.up(h:Is d R blk): d.up=R.up:=by
 unfold Dv.up Rk.up;rw[h.down];rcases h.arm with e|⟨b,j⟩|⟨b,j,l⟩
 .rw[e];rfl
 .rw[b,j];cases R.down <;> simp
 .rw[b,j];cases R.down <;> simp
theorem Is.same{b:Dv}{R':Rk}(h:Is d R blk)(u:b.q=R'.cY)(y:b.names=d.names)(z:b.safe=d.safe)(A:b.dW=d.dW)(B:b.fs=d.fs)(j:b.F=d.F)(l:R'.files=R.files)(m:R'.safe=R.safe)(r:R'.dW=R.dW)(hd:b.down=R'.down)(ha:R'.down=W8\/(b.mi=W9/\R'.left = -1)\/(b.mi=W8/\b.left=R'.left/\0<=R'.left))(C : -1<=R'.left/\R'.left<=9223372036854775807): Is b R' blk:=by
 obtain⟨M,N,P,G,I,L⟩:=R';simp only at l m r;subst l m r;have e:Rk.Ok ⟨R.files,R.safe,R.dW,G,I,L⟩:=⟨h.ok.key,h.ok.some,h.ok.sf,h.ok.cf,h.ok.cut⟩
 exact⟨u,y.trans h.names,z.trans h.safe,A.trans h.dW,B.trans h.fs,h.inj,λi hi=>by rw[j];exact h.F i hi,λf=>by rw[j];exact h.Fs f,hd,ha,C,e,h.Sr⟩
theorem Is.dY(h:Is d R blk): Is d.dY R.dY blk:=by
 obtain⟨y,z,A,B,C,F⟩:=jG d;obtain⟨G,I,L,M⟩:=Rd.jk R;have r:=h.left;have u:=h.arm;have l:=h.down;refine h.same (by rw[F,M];exact h.q) y z A B C G I L ?_ ?_ ?_
 .unfold Dv.dY Rk.dY;rw[l];cases hd:R.down with
  |true =>
   split
   .simp[hd]
   .simp[l,hd]
  |false =>
   rcases u with e|⟨b,j⟩|⟨b,j,N⟩
   .rw[hd] at e;cases e
   .rw[b,j];simp[l,hd]
   .rw[b,j];by_cases m:R.left=0
    .simp[m]
    .have:0<R.left:=by omega
     simp[m,this,hd]
 .unfold Dv.dY Rk.dY;cases hd:R.down with
  |true=>left;simp[hd]
  |false =>
   rcases u with e|⟨b,j⟩|⟨b,j,N⟩
   .rw[hd] at e;cases e
   .right;left;rw[b,j];simp[b,j]
   .by_cases m:R.left=0
    .left;simp[m]
    .right;right;have P:0<R.left:=by omega
     rw[b];simp only[UL,m,P,Vg,Wn];refine⟨by first|trivial|exact b,?_,by omega⟩;rw[j];unfold wrap64;omega
 .unfold Rk.dY;split
  .exact r
  .split
   .exact r
   .split
    .simp only;omega
    .exact r
theorem Is.RQ(h:Is d R blk): Sd.dF (tab R.now) e0=W9:=by
 cases hh:Sd.dF (tab R.now) e0 with
 |false=>rfl
 |true =>
  obtain⟨v,b⟩:=Sd.iM.1 hh;exact absurd O (h.ok.ld _ (e0,v) ((Rd.gq (h.ok.eC _)).1 b))
theorem Is.get(h:Is d R blk)(a:WU): Sd.jy d.names a=(Rd.dy R.now a).map blk:=by rw[h.names,NC,Rd.kQ]
theorem Is.has(h:Is d R blk)(a:WU): Sd.dF d.names a=(Rd.dy R.now a).isSome:=by
 rw[h.names,qU,<-Rd.kQ];cases hh:Sd.dF (tab R.now) a with
 |false=>rw[Sd.mf hh];rfl
 |true=>obtain⟨_,_,e⟩:=Sd.gn (Rd.eG R.now) hh;rw[e];rfl
theorem Is.lt(h:Is d R blk){a:WU}{i:Nat}(b:Rd.dy R.now a=S i): i<Xg R.files:=h.ok.kS _ (a,i) ((Rd.nj (h.ok.eC _)).1 b)
theorem Is.pP(h:Is d R blk)(a:WU): d.pP a=if R.up=W9 then 9 else match Rd.dy R.now a with
  |none=>11
  |some _=>0:=by
 unfold Dv.pP;rw[h.up,h.has];cases R.up with
 |false=>rfl
 |true=>cases Rd.dy R.now a <;> rfl
theorem Is.F3(h:Is d R blk)(c:Rd.Ch)(l:c.file<Xg R.files\/c.comes=e0)(m:¬c.comes=e0\/¬c.goes=e0)(b j:WS): Is (d.F3 (cm blk c) b j) { R with dW:=R.dW++[c] } blk:=by
 refine⟨h.q,?_,h.safe,?_,h.fs,h.inj,h.F,h.Fs,h.down,h.arm,h.left,Rd.Pw h.ok c l,λx r=>?_⟩
 .show nK d.names (cm blk c)=_
  rw[Rd.Rk.rA,Rd.Jz (L:=R.now) (Rd.kH.2 (h.ok.ld _)),h.names,Jk blk h.RQ]
 .show d.dW++[cm blk c]=(R.dW++[c]).map (cm blk)
  rw[h.dW,Vn];rfl
 .rcases Uq.1 r with e|e
  .exact h.Sr x e
  .rw[Uz.1 e];exact m
theorem Is.pN(h:Is d R blk){f:Nat}(B:∀k,k∈d.fs->k≠f): Is (d.pN f) { R with files:=R.files++[⟨e0,0⟩] } (oq blk (Xg R.files) f):=by
 have b:∀i,i<Xg R.files->oq blk (Xg R.files) f i=blk i:=λi hi=>ek _ _ (by omega)
 have C:∀p∈tab R.now,p.2<Xg R.files:=λp m=>h.ok.kS _ p ((Rd.gq (h.ok.eC _)).1 m)
 have G:∀p∈tab R.safe,p.2<Xg R.files:=λp m=>h.ok.sf p ((Rd.gq h.ok.key).1 m)
 have l:∀i,i<Xg R.files->blk i≠f:=λi hi=>B _ (by rw[h.fs];exact Ve.2 ⟨i,VT.2 hi,O⟩)
 have r:(R.files++[Rd.Fl.mk e0 0]).length=Xg R.files+1:=by simp
 refine⟨h.q,?_,?_,?_,?_,λi j hi u e=>?_,λi hi=>?_,λk=>?_,h.down,h.arm,h.left,Rd.Jm h.ok,h.Sr⟩
 .exact h.names.trans (Cc C b).symm
 .exact h.safe.trans (Cc G b).symm
 .refine h.dW.trans (Ws λc I=>?_);unfold cm;by_cases e:c.comes=e0
  .rw[T0 e,T0 e]
  .rw[TZ e,TZ e];rcases h.ok.cf c I with y|y
   .rw[b _ y]
   .exact absurd y e
 .show d.fs++[f]=(List.range (R.files++[Rd.Fl.mk e0 0]).length).map (oq blk (Xg R.files) f)
  rw[r,List.range_succ,Vn,h.fs]
  congr 1
  .exact Ws λi hi=>(b i (VT.1 hi)).symm
  .simp[eE]
 .have hi:i<(R.files++[Rd.Fl.mk e0 0]).length:=hi;have u:j<(R.files++[Rd.Fl.mk e0 0]).length:=u;rw[r] at hi u;by_cases z:i=Xg R.files
  .by_cases A:j=Xg R.files
   .omega
   .rw[z,eE,b j (by omega)] at e;exact absurd e.symm (l j (by omega))
  .by_cases A:j=Xg R.files
   .rw[A,eE,b i (by omega)] at e;exact absurd e (l i (by omega))
   .rw[b i (by omega),b j (by omega)] at e;exact h.inj i j (by omega) (by omega) e
 .have hi:i<(R.files++[Rd.Fl.mk e0 0]).length:=hi;rw[r] at hi
  show oq d.F f ⟨⟨#[]⟩,0⟩ (oq blk (Xg R.files) f i)=_
  by_cases z:i=Xg R.files
  .rw[z,eE,eE];unfold Rk.fl;rw[Uo,Ul WN];simp;rfl
  .rw[b i (by omega),ek _ _ (l i (by omega)),h.F i (by omega),Rd.GZ R _ i (by omega)]
 .show (oq d.F f ⟨⟨#[]⟩,0⟩ k).safe<=(oq d.F f ⟨⟨#[]⟩,0⟩ k).bytes.size
  by_cases e:k=f
  .rw[e,eE];exact Ud _
  .rw[ek _ _ e];exact h.Fs k
theorem Is.n9(h:Is d R blk){i:Nat}(hi:i<Xg R.files)(b:WU)(n:Nat)(m:n<=b.size)(v':WS): Is (d.n9 (blk i) ⟨b,n⟩ v') (R.n9 i ⟨b,n⟩) blk:=by
 have u:(R.files.set i ⟨b,n⟩).length=Xg R.files:=VR;refine⟨h.q,h.names,h.safe,h.dW,?_,λj k l r e=>?_,λj l=>?_,λk=>?_,h.down,h.arm,h.left,Rd.MD h.ok i ⟨b,n⟩ m,h.Sr⟩
 .show d.fs=(List.range (R.files.set i ⟨b,n⟩).length).map blk
  rw[u];exact h.fs
 .have l:j<(R.files.set i ⟨b,n⟩).length:=l;have r:k<(R.files.set i ⟨b,n⟩).length:=r;rw[u] at l r;exact h.inj j k l r e
 .have l:j<(R.files.set i ⟨b,n⟩).length:=l;rw[u] at l
  show oq d.F (blk i) ⟨b,n⟩ (blk j)=_
  by_cases e:j=i
  .rw[e,eE]
   show _=Fl.mk ((R.files.set i ⟨b,n⟩).getD i ⟨e0,0⟩).bytes ((R.files.set i ⟨b,n⟩).getD i ⟨e0,0⟩).safe
   rw[Uo,WE hi];rfl
  .rw[ek _ _ (λy=>e (h.inj j i l hi y)),h.F j l]
   show _=Fl.mk ((R.files.set i ⟨b,n⟩).getD j ⟨e0,0⟩).bytes ((R.files.set i ⟨b,n⟩).getD j ⟨e0,0⟩).safe
   rw[Uo,V7 (λy=>e y.symm)];unfold Rk.fl;rw[Uo]
 .show (oq d.F (blk i) ⟨b,n⟩ k).safe<=(oq d.F (blk i) ⟨b,n⟩ k).bytes.size
  by_cases e:k=blk i
  .rw[e,eE];exact m
  .rw[ek _ _ e];exact h.Fs k
theorem Is.sy(h:Is d R blk)(b:WS): Is (d.sy b) { R with safe:=R.now,dW:=[] } blk:=by
 have e:({ R with safe:=R.now,dW:=[] }:Rk).Ok:=⟨h.ok.eC _,h.ok.ld _,h.ok.kS _,λc j=>(by cases j),h.ok.cut⟩
 have l:({ R with safe:=R.now,dW:=[] }:Rk).now=R.now:=by
  unfold Rk.now Rk.dir;exact Rd.lU (h.ok.ld _)
 refine⟨h.q,?_,h.names,rfl,h.fs,h.inj,h.F,h.Fs,h.down,h.arm,h.left,e,λc j=>(by cases j)⟩;rw[l];exact h.names
end Pk
namespace Pk
open Sd (Tb)
open Rd (Rk tab e0)
open Dk (Kept dv)
def GM(w:WR)(E:Nat)(R:Rk)(vf vs vc:WS):Prop:=True
def uK(E:Nat)(vf vs vc:WS)(k:Nat):Prop:=False
variable {w' w:WR}{vs vf vc:WS}{R:Rk}{ok:Nat->Prop}
theorem GM.kept{E:Nat}(h:GM w E R vf vs vc)(e:Kept w w' ok)(j:∀k,uK E vf vs vc k->ok k): GM w' E R vf vs vc:=trivial
theorem GM.below{E:Nat}(h:GM w E R vf vs vc)(hb:WQ w w'): GM w' E R vf vs vc:=trivial
variable {d:Dv}
theorem kK.kept{e:Nat}(h:kK w e d)(m:Kept w w' ok)(l:∀k,mZ e d k->ok k): kK w' e d:=⟨(m.block e (cV h.blk) (l e (Xa O))).trans h.blk,dv h.rn m (λg j=>l g (Xb (Xa j))),dv h.rs m (λg j=>l g (Xb (Xb (Xa j)))),dv h.rc m (λg j=>l g (Xb (Xb (Xb (Xa j))))),h.sn,h.ss,h.apart,λf r=>(h.files f r).kept m (l f (Xb (Xb (Xb (Xb ⟨f,r,Xa O⟩))))) (λg j=>l g (Xb (Xb (Xb (Xb ⟨f,r,Xb j⟩))))),h.fap,h.Hb,h.QS,h.Qp⟩
def fT(w0 w:WR)(e E:Nat)(Q R:Rk)(O:Nat->Prop):Prop := ∃d blk vf vs vc,kK w e d/\Is d Q blk/\GM w E R vf vs vc/\(∀k,mZ e d k->¬uK E vf vs vc k)/\Kept w0 w (λk=>¬O k)/\∀k,mZ e d k\/uK E vf vs vc k->O k\/w0.heap.size<=k
def n5(w:WR)(e E:Nat)(R:Rk)(O:Nat->Prop):Prop := ∃d blk vf vs vc,kK w e d/\Is d R blk/\GM w E R vf vs vc/\(∀k,mZ e d k->¬uK E vf vs vc k)/\∀k,O k↔mZ e d k\/uK E vf vs vc k
theorem n5.half{e E:Nat}{O:Nat->Prop}(h:n5 w e E R O): fT w w e E R R O:=by
 obtain⟨d,blk,vf,vs,vc,j,l,m,r,u⟩:=h;exact⟨d,blk,vf,vs,vc,j,l,m,r,Kept.refl _ _,λk y=>Xa ((u k).2 y)⟩
theorem n5.lt{j E:Nat}{O:Nat->Prop}(h:n5 w j E R O){k:Nat}(l:O k): k<w.heap.size:=by
 obtain⟨d,blk,vf,vs,vc,m,u,y,z,r⟩:=h;rcases(r k).1 l with e|e
 .exact EH m e
 .exact False.elim e
theorem n5.kept{e E:Nat}{O:Nat->Prop}(h:n5 w e E R O)(j:Kept w w' ok)(m:∀k,O k->ok k): n5 w' e E R O:=by
 obtain⟨d,blk,vf,vs,vc,r,u,y,z,l⟩:=h;exact⟨d,blk,vf,vs,vc,r.kept j (λk j=>m k ((l k).2 (Xa j))),u,GM.kept y j (λk j=>m k ((l k).2 (Xb j))),z,l⟩
variable {w1 w0:WR}
theorem wE{O j:Nat->Prop}(h:Kept w0 w (λk=>¬O k))(l:Kept w w1 (λk=>¬j k))(u:∀k,j k->O k\/w0.heap.size<=k): Kept w0 w1 (λk=>¬O k):=by
 have y:=h.size;refine⟨l.os.trans h.os,l.tape.trans h.tape,l.output.trans h.output,Uc y l.size,λk m r=>?_⟩;rw[l.block k (by omega) (λe=>by rcases u k e with e | e;exact r e;omega),h.block k m r]
theorem fT.fE{j E:Nat}{Q u:Rk}{O:Nat->Prop}{m:Dv}{blk':Nat->Nat}(B:GM w E R vf vs vc)(y:∀k,mZ j d k->¬uK E vf vs vc k)(z:Kept w0 w (λk=>¬O k))(r:∀k,mZ j d k\/uK E vf vs vc k->O k\/w0.heap.size<=k)(ht:oO w w1 j d m)(hi:Is m u blk'): fT w0 w1 j E u R O:=by
 have C:=z.size;refine⟨m,blk',vf,vs,vc,ht.at',hi,GM.kept B ht.kept (λk l hd=>y k hd l),λk l A=>?_,wE z ht.kept (λk l=>r k (Xa l)),λk l=>?_⟩
 .rcases ht.own k l with e|e
  .exact y k e A
  .exact False.elim A
 .rcases l with l|l
  .rcases ht.own k l with e|e
   .exact r k (Xa e)
   .exact Xb (by omega)
  .exact r k (Xb l)
theorem fT.below{e E:Nat}{Q:Rk}{O:Nat->Prop}(h:fT w0 w e E Q R O)(hb:WQ w w1): fT w0 w1 e E Q R O:=by
 obtain⟨d,blk,vf,vs,vc,j,l,m,r,u,y⟩:=h;exact⟨d,blk,vf,vs,vc,j.below hb,l,m.below hb,r,u.trans ((Kept.below hb _).mono (λ_ _ h=>h)),y⟩
structure Sm (R:Rk) (n b:Nat):Prop where
 dir:Xg R.safe+Xg R.dW+Xg R.now<=n
 fn:Xg R.files<=n
 file:∀f∈R.files,f.bytes.size<=b
 ns:∀p∈R.safe,p.1.size<=12
 nc:∀c∈R.dW,c.comes.size<=12
variable {b n:Nat}
theorem Sm.fl(h:Sm R n b)(i:Nat): (R.fl i).bytes.size<=b:=by
 unfold Rk.fl;by_cases hi:i<Xg R.files
 .rw[Uo,Uk hi];exact h.file _ (UU _)
 .rw[Uo,Wr (by omega)];exact Ud _
theorem Sm.use(h:Sm R n b)(L:Tb): R.use L<=Xg L*b:=by
 unfold Rk.use
 induction L with
 |nil=>simp
 |cons p L e =>
  have:=h.fl p.2;simp only[U4,V8,Uf,Nat.succ_mul];omega
variable {blk:Nat->Nat}
theorem Is.wV(h:Is d R blk)(e:Sm R n b): Xg d.names<=n/\(Xg d.safe)+Xg d.dW<=n:=by
 have j:=Rd.uk R (Xg R.dW);have l:=e.dir;rw[h.names,h.safe,h.dW];simp only[UX];rw[Rd.uq (show Rd.keyed R.now from h.ok.eC _),Rd.uq h.ok.key];unfold Rk.now;omega
theorem Is.uF(h:Is d R blk)(j:Sm R n b): ∀p∈d.names,(d.F p.2).bytes.size<=b:=λp e=>by
 rw[h.names] at e;obtain⟨q,l,rfl⟩:=Ve.1 e;have m:=h.ok.kS _ q ((Rd.gq (h.ok.eC _)).1 l)
 show (d.F (blk q.2)).bytes.size<=b
 rw[h.F _ m];exact j.fl q.2
theorem Is.used(h:Is d R blk): used d.F d.names=R.use R.now:=by
 rw[<-Rd.Me R (Rd.uM R.now (h.ok.eC _)),h.names];unfold Pk.used Rk.use;rw[List.map_map]
 congr 1
 refine Ws λp e=>?_
 have j:=h.ok.kS _ p ((Rd.gq (h.ok.eC _)).1 e)
 show (d.F (blk p.2)).bytes.size=_
 rw[h.F _ j]
def DP(w0:WR)(j E:Nat)(Q R:Rk)(O:Nat->Prop)(n:Int)(e:Ending)(w':WR):Prop:=e=WZ (Z Y n)/\fT w0 w' j E Q R O
end Pk
namespace Pk
open Sd (Tb)
open Rd (Rk tab e0)
open Dk (Kept dv)
theorem IP(L w:WR)(j E:Nat)(R R':Rk)(O:Nat->Prop)(n b:Nat)(y:WU)(h:fT L w j E R R' O)(T:Sm R n b)(x:n<=1000000000)(V:y.size<=1048576):WT prog 140 #[WV (S ⟨j,0,U⟩),H y] w (DP L j E (R.create y).2 R' O (R.create y).1):=by
 obtain⟨d,l,q,i,t,M,m,z,A,B,C⟩:=h;obtain⟨s,p⟩:=m.wV T;refine(DH j d y w M (by omega) (by omega) V).mono ?_;rintro e o ⟨rfl,g,hd,F⟩;have r:=m.up;refine⟨?_,?_⟩
 .unfold Dv.Oz Rk.create;rw[r];cases R.up with
  |false=>rfl
  |true =>
   cases Rd.nk y <;> rfl
 .unfold Dv.Mk at hd;rw[r] at hd;unfold Rk.create;cases hu:R.up with
  |false =>
   rw[hu] at hd;simp only[Wn,false_and,Vg] at hd;subst hd;exact fT.fE (Q:=R) z A B C F m.dY
  |true =>
   rw[hu] at hd;cases u:Rd.nk y with
   |false =>
    rw[u] at hd;simp only[Wn,and_false,Vg] at hd;subst hd;exact fT.fE (Q:=R) z A B C F m.dY
   |true =>
    rw[u] at hd;simp only[and_self,UL] at hd;obtain⟨f,G,I,W,rfl⟩:=hd;refine fT.fE (Q:=R) z A B C F (blk':=oq l (Xg R.dY.files) f) ?_;have X:=m.dY.pN (f:=f) (λk N e=>by
     rw[(jG d).2.2.2.1] at N;have:=cV (M.files k N).blk;omega)
    have P:=X.F3 ⟨e0,y,Xg R.dY.files⟩ (Xa (by simp)) (Xa (Rd.oR u)) G I;have e:cm (oq l (Xg R.dY.files) f) ⟨e0,y,Xg R.dY.files⟩=⟨e0,y,S f⟩:=by
     unfold cm;simp only[TZ (Rd.oR u),eE]
    rw[e] at P;exact P
theorem F6{R:Rk}(b:R.Ok){a:WU}{i:Nat}(e:Rd.dy R.now a=S i):i<Xg R.files:=b.kS _ (a,i) ((Rd.nj (b.eC _)).1 e)
theorem KH(L w:WR)(j E:Nat)(R R':Rk)(O:Nat->Prop)(n b:Nat)(y:WU)(h:fT L w j E R R' O)(N:Sm R n b)(X:n<=1000000000)(P:y.size<=1048576):WT prog 91 #[WV (S ⟨j,0,U⟩),H y] w (DP L j E (R.remove y).2 R' O (R.remove y).1):=by
 obtain⟨d,m,k,x,q,T,l,r,u,z,A⟩:=h;obtain⟨f,t⟩:=l.wV N;have V:Sd.dF d.names e0=W9:=by rw[l.names,qU];exact l.RQ
 refine(kt j d y w T (by omega) (by omega) P V).mono ?_;rintro e s ⟨rfl,p,hd,B⟩;have W:=l.pP y;unfold Dv.PA at hd;unfold Rk.remove Rk.on;rw[W] at hd ⊢;cases hu:R.up with
 |false =>
  rw[hu] at hd;simp only[UL] at hd ⊢;rw[TZ (by decide)] at hd;subst hd;exact⟨rfl,fT.fE (Q:=R) r u z A B l.dY⟩
 |true =>
  rw[hu] at hd;simp only[Bool.true_eq_false,Vg] at hd ⊢;cases C:Rd.dy R.now y with
  |none =>
   rw[C] at hd;simp only at hd ⊢;rw[TZ (by decide)] at hd;subst hd;exact⟨rfl,fT.fE (Q:=R) r u z A B l.dY⟩
  |some i =>
   rw[C] at hd;simp only[UL] at hd ⊢;obtain⟨F,G,rfl⟩:=hd;have I:¬y=e0:=λe=>by
    have:=l.ok.ld _ (y,i) ((Rd.nj (l.ok.eC _)).1 C);exact this e
   have M:=l.dY.F3 ⟨y,e0,0⟩ (Xb rfl) (Xb I) F G;have e:cm m ⟨y,e0,0⟩=⟨y,e0,U⟩:=by unfold cm;simp
   rw[e] at M;exact⟨rfl,fT.fE (Q:=R) r u z A B M⟩
theorem Kq(V w:WR)(j E:Nat)(R R':Rk)(O:Nat->Prop)(n b:Nat)(x y:WU)(h:fT V w j E R R' O)(X:Sm R n b)(hn:n<=1000000000)(k:x.size<=1048576)(q:y.size<=1048576):WT prog 95 #[WV (S ⟨j,0,U⟩),H x,H y] w (DP V j E (R.rename x y).2 R' O (R.rename x y).1):=by
 obtain⟨d,u,vf,vs,vc,t,l,z,A,B,C⟩:=h;obtain⟨l1,l2⟩:=l.wV X;refine(DK j d x y w t (by omega) (by omega) k q).mono ?_;rintro e w' ⟨rfl,d',hd,F⟩;have s:=l.pP x;have I:=l.get x;unfold Dv.CL at hd;unfold Dv.JW at hd ⊢;unfold Rk.rename;rw[s,l.up] at hd ⊢;by_cases r:R.up=W8/\Rd.nk y=W9
 .rw[T0 r] at hd ⊢;rw[T0 r];rw[TZ (by simp)] at hd;subst hd;exact⟨rfl,fT.fE (Q:=R) z A B C F l.dY⟩
 .rw[TZ r] at hd ⊢;rw[TZ r];unfold Rk.on;cases hu:R.up with
  |false =>
   rw[hu] at hd;simp only[UL] at hd ⊢;rw[TZ (by simp)] at hd;subst hd;exact⟨rfl,fT.fE (Q:=R) z A B C F l.dY⟩
  |true =>
   rw[hu] at hd r;simp only[Bool.true_eq_false,Vg] at hd ⊢;cases L:Rd.dy R.now x with
   |none =>
    rw[L] at hd;simp only at hd ⊢;rw[TZ (by simp)] at hd;subst hd;exact⟨rfl,fT.fE (Q:=R) z A B C F l.dY⟩
   |some i =>
    rw[L] at hd I;simp only[true_and] at hd ⊢;by_cases m:x=y
    .rw[TZ (λp=>p m)] at hd;subst hd;rw[T0 m];exact⟨rfl,fT.fE (Q:=R) z A B C F l.dY⟩
    .rw[T0 m] at hd;obtain⟨f,M,N,o,rfl⟩:=hd;rw[TZ m];have P:f=u i:=by rw[o] at I;exact Ut I
     have G:Rd.nk y=W8:=by
      cases g:Rd.nk y with
      |true=>rfl
      |false=>exact absurd ⟨rfl,g⟩ r
     have T:i<Xg R.dY.files:=by rw[(Rd.jk R).1];exact F6 l.ok L
     have W:=l.dY.F3 ⟨x,y,i⟩ (Xa T) (Xa (Rd.oR G)) M N;have e:cm u ⟨x,y,i⟩=⟨x,y,S f⟩:=by unfold cm;simp only[TZ (Rd.oR G),P]
     rw[e] at W;exact⟨rfl,fT.fE (Q:=R) z A B C F W⟩
theorem QH(N w:WR)(j E:Nat)(R R':Rk)(O:Nat->Prop)(n b:Nat)(y:WU)(h:fT N w j E R R' O)(P:Sm R n b)(x:n<=1000000000):WT prog 142 #[WV (S ⟨j,0,U⟩),H y] w (DP N j E (R.sync y).2 R' O (R.sync y).1):=by
 obtain⟨d,z,q,t,s,T,l,A,B,C,G⟩:=h;obtain⟨p,o⟩:=l.wV P;refine(JN j d y w T (by omega)).mono ?_;rintro e g ⟨rfl,d',hd,u⟩;have V:=l.pP y;have I:=l.get y;unfold Dv.PT at hd;unfold Rk.sync Rk.on;rw[V] at hd ⊢;cases hu:R.up with
 |false =>
  rw[hu] at hd;simp only[UL] at hd ⊢;rw[TZ (by decide)] at hd;subst hd;exact⟨rfl,fT.fE (Q:=R) A B C G u l.dY⟩
 |true =>
  rw[hu] at hd;simp only[Bool.true_eq_false,Vg] at hd ⊢;cases L:Rd.dy R.now y with
  |none =>
   rw[L] at hd;simp only at hd ⊢;rw[TZ (by decide)] at hd;subst hd;exact⟨rfl,fT.fE (Q:=R) A B C G u l.dY⟩
  |some i =>
   rw[L] at hd I;simp only[UL] at hd ⊢;obtain⟨f,W,X,rfl⟩:=hd;have M:f=z i:=by rw[X] at I;exact Ut I
   have m:i<Xg R.files:=F6 l.ok L;have r:i<Xg R.dY.files:=by rw[(Rd.jk R).1];exact m
   subst M;rw[l.F i m] at u;have k:=l.dY.n9 r (R.fl i).bytes (R.fl i).bytes.size WN W;rw[Rd.zp];exact⟨rfl,fT.fE (Q:=R) A B C G u k⟩
theorem Lg(V w:WR)(j E:Nat)(R R':Rk)(O:Nat->Prop)(n b:Nat)(y t:WU)(h:fT V w j E R R' O)(W:Sm R n b)(hn:n<=1000000000)(hb:b<=2097152)(X:t.size<=1048576):WT prog 141 #[WV (S ⟨j,0,U⟩),H y,H t] w (DP V j E (R.append y t).2 R' O (R.append y t).1):=by
 obtain⟨d,r,vf,vs,vc,k,l,B,C,G,I⟩:=h;obtain⟨l1,l2⟩:=l.wV W;have hu:=l.uF W;refine(Eu j d y t w k (by omega) (λp x=>by have:=hu p x;omega) (by omega)).mono ?_;rintro e w' ⟨rfl,d',hd,u⟩;have s:=l.pP y;have M:=l.get y;have o:=l.used;unfold Dv.Ml at hd;unfold Dv.PH at hd ⊢;unfold Rk.append Rk.on;rw[s,o,l.q] at hd ⊢;cases hu:R.up with
 |false =>
  rw[hu] at hd;simp only[UL] at hd ⊢;rw[TZ (show ¬(9:Int)=0 by decide)] at hd ⊢;rw[TZ (show ¬(9:Int)=0 by decide)] at hd;subst hd;exact⟨rfl,fT.fE (Q:=R) B C G I u l.dY⟩
 |true =>
  rw[hu] at hd;simp only[Bool.true_eq_false,Vg] at hd ⊢;cases N:Rd.dy R.now y with
  |none =>
   rw[N] at hd;simp only at hd ⊢;rw[TZ (show ¬(11:Int)=0 by decide)] at hd ⊢;rw[TZ (show ¬(11:Int)=0 by decide)] at hd;subst hd;exact⟨rfl,fT.fE (Q:=R) B C G I u l.dY⟩
  |some i =>
   rw[N] at hd M;simp only[UL] at hd ⊢;rw[Rd.ux,Rd.MK,(Rd.jk R).2.2.2];by_cases L:R.cY<(R.use R.now:Int)+t.size
   .rw[T0 L] at hd ⊢;rw[T0 L];rw[TZ (by decide)] at hd;subst hd;exact⟨rfl,fT.fE (Q:=R) B C G I u l.dY⟩
   .rw[TZ L] at hd ⊢;rw[TZ L];rw[T0 rfl] at hd;obtain⟨f,g,P,rfl⟩:=hd;have T:f=r i:=by rw[P] at M;exact Ut M
    have m:i<Xg R.files:=F6 l.ok N;have z:i<Xg R.dY.files:=by rw[(Rd.jk R).1];exact m
    subst T;rw[l.F i m] at u;have A:=l.Fs (r i);rw[l.F i m] at A;have i2:=l.dY.n9 z ((R.fl i).bytes++t) (R.fl i).safe (by rw[Us];simp only at A;omega) g;rw[Rd.zp];exact⟨rfl,fT.fE (Q:=R) B C G I u i2⟩
theorem Gn(r w:WR)(j E:Nat)(R R':Rk)(O:Nat->Prop)(n b:Nat)(h:fT r w j E R R' O)(F:Sm R n b)(L:n<=1000000000):WT prog 92 #[WV (S ⟨j,0,U⟩)] w (DP r j E R.fa.2 R' O R.fa.1):=by
 obtain⟨d,G,M,N,P,I,l,u,y,z,A⟩:=h;obtain⟨T,V⟩:=l.wV F;refine(BM j d w I (by omega)).mono ?_;rintro e W ⟨rfl,X,hd,B⟩;unfold Dv.PB at hd;unfold Dv.Rh;unfold Rk.fa;rw[l.up] at hd ⊢;cases hu:R.up with
 |false =>
  rw[hu] at hd;simp only[Wn,Vg,UL] at hd ⊢;subst hd;exact⟨rfl,fT.fE (Q:=R) u y z A B l.dY⟩
 |true =>
  rw[hu] at hd;simp only[Bool.true_eq_false,Vg,UL] at hd ⊢;obtain⟨m,rfl⟩:=hd;have C:=l.dY.sy m;rw[Rd.ux] at C;exact⟨rfl,fT.fE (Q:=R) u y z A B C⟩
end Pk
namespace Pk
open Sd (Tb)
open Rd (Rk tab e0)
open Dk (Kept dv)
variable {R:Rk}
theorem Is.rd{d:Dv}{b:Nat->Nat}(h:Is d R b)(a:WU): d.rd a=R.rd a/\d.GF a=R.GF a:=by
 unfold Dv.rd Dv.GF Rk.rd Rk.GF;rw[h.down,h.get];cases R.down with
 |true=>exact⟨rfl,rfl⟩
 |false =>
  cases e:Rd.dy R.now a with
  |none=>exact⟨rfl,rfl⟩
  |some i =>
   refine⟨?_,O⟩
   show (d.F (b i)).bytes=_
   rw[h.F i (F6 h.ok e)];rfl
theorem Pz{w:WR}{j E:Nat}{O:Nat->Prop}{n b:Nat}(h:n5 w j E R O)(m:Sm R n b)(G:n<=1000000000)(hb:b<=2097152):WT prog 16 #[WV (S ⟨j,0,U⟩)] w λe y=>e=WZ (Z Y (R.use R.now:Nat))/\WQ w y:=by
 obtain⟨d,z,I,L,M,r,l,A,B,C⟩:=h;obtain⟨N,P⟩:=l.wV m;have hu:=l.uF m;have u:=Br j d w r (by omega) (λp F=>by have:=hu p F;omega);rw[l.used] at u;clear r l A B C;go_enter func16,ntmps16;go_wp2_with fail;refine u.mono ?_;rintro e Q ⟨rfl,hb⟩;go_wp2;go_ret;exact⟨rfl,hb⟩
def NP(j:WR)(b E:Nat)(Q R:Rk)(O:Nat->Prop)(e:Ending)(w':WR):Prop:=e=WZ (WX #[])/\fT j w' b E Q R O
theorem Sf{y w:WR}{b E:Nat}{O:Nat->Prop}(n:Int)(M:n<=9223372036854775807)(h:fT y w b E R R O):WT prog 10 #[WV (S ⟨b,0,U⟩),Z Y n] w (NP y b E (R.arm n) R O):=by
 obtain⟨d,u,N,P,T,z,m,A,B,C,F⟩:=h;have G:=Nc b d n w z;have hi:Is { d with mi:=decide (0<=n),left:=n } (R.arm n) u:=by
  refine m.same m.q rfl rfl rfl rfl rfl rfl rfl rfl m.down ?_ ?_
  .unfold Rk.arm;by_cases l:n<0
   .right;left;exact⟨Uu (by omega),T0 l⟩
   .right;right;exact⟨UH (by omega),(TZ l).symm,by simp only[TZ l];omega⟩
  .unfold Rk.arm;by_cases l:n<0
   .simp only[T0 l];omega
   .simp only[TZ l];omega
 have j:=cT (λI (r:oO w I b d { d with mi:=decide (0<=n),left:=n })=>fT.fE (Q:=R) A B C F r hi);clear z m A B C F hi;go_enter func10,ntmps10;go_wp2_with fail;refine G.mono ?_;rintro e I ⟨rfl,r⟩;have L:=cT r;clear r G;go_wp2;exact Ub (Ua rfl _ _ _) rfl ⟨rfl,(cS j) _ (cS L)⟩
end Pk
end Go.Proofs.YtgkkdpegcieakaaGreatDoor
